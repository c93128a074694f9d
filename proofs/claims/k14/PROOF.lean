import PyProof.Rows.All
import Wide.All
import OpenK.AllK
import Wide.FinOn
import Lean
import PyProof.EqAt
import PyProof.EqKinds
import PyProof.TupleCall
import PyProof.Rows.InDataRows
import PySem.Challenge.RW_hexaddress_k14_a_region_told
set_option Elab.async false
set_option linter.all false
set_option maxRecDepth 100000
namespace L2
open PySem PySem.Spec PyProof.Rows

abbrev Key := Sum Int Str
def keyIs : Key → Value → Bool
  | .inl k, v => Value.isInt k v
  | .inr x, v => Value.isStrOf x v
def keyH (w : World) : Key → Int
  | .inl k => hashInt k
  | .inr x => hashStr w x
theorem keyIs_shape : ∀ {k : Key} {v : Value}, keyIs k v = true → (∃ i t, k = Sum.inl i ∧ v = Value.int i t) ∨ (∃ x t, k = Sum.inr x ∧ v = Value.str x t)
  | .inl i, v, h => by
    obtain ⟨t, e⟩ := Value.isInt_shape (k := i) (v := v) h
    exact .inl ⟨i, t, rfl, e⟩
  | .inr x, v, h => by
    obtain ⟨t, e⟩ := Value.isStrOf_shape (x := x) (v := v) h
    exact .inr ⟨x, t, rfl, e⟩
theorem keyIs_int (i : Int) (t : Tok) : keyIs (.inl i) (.int i t) = true := by simp [keyIs, Value.isInt]
theorem keyIs_str (x : Str) (t : Tok) : keyIs (.inr x) (.str x t) = true := by simp [keyIs, Value.isStrOf]
theorem key_ll (a b : Int) : decide ((Sum.inl a : Key) = Sum.inl b) = (a == b) := by
  by_cases e : a = b
  · subst e; simp
  · have h : ¬ (Sum.inl a : Key) = Sum.inl b := fun q => e (Sum.inl.inj q)
    rw [decide_eq_false h]
    exact (beq_eq_false_iff_ne.mpr e).symm
theorem key_rr (a b : Str) : decide ((Sum.inr a : Key) = Sum.inr b) = decide (a = b) := by
  by_cases e : a = b
  · subst e; simp
  · have h : ¬ (Sum.inr a : Key) = Sum.inr b := fun q => e (Sum.inr.inj q)
    rw [decide_eq_false h, decide_eq_false e]
theorem key_lr (a : Int) (b : Str) : decide ((Sum.inl a : Key) = Sum.inr b) = false := decide_eq_false (fun q => nomatch q)
theorem key_rl (a : Str) (b : Int) : decide ((Sum.inr a : Key) = Sum.inl b) = false := decide_eq_false (fun q => nomatch q)

def mixKind (prog : Program) (w : World) : PySem.KeyKind prog w Key where
  is := keyIs
  hash := keyH w
  inj := fun v a b ha hb => by
    rcases keyIs_shape ha with ⟨i, t, rfl, rfl⟩ | ⟨x, t, rfl, rfl⟩
    · rcases keyIs_shape hb with ⟨j, u, rfl, e⟩ | ⟨y, u, rfl, e⟩
      · injection e with e1 _; rw [e1]
      · exact nomatch e
    · rcases keyIs_shape hb with ⟨j, u, rfl, e⟩ | ⟨y, u, rfl, e⟩
      · exact nomatch e
      · injection e with e1 _; rw [e1]
  byValue := fun k v h => by
    rcases keyIs_shape h with ⟨i, t, rfl, rfl⟩ | ⟨x, t, rfl, rfl⟩ <;> rfl
  pyHash := fun hv h => by
    rcases keyIs_shape hv with ⟨i, t, rfl, rfl⟩ | ⟨x, t, rfl, rfl⟩
    · exact wpAny_pyHash_int h
    · exact wpAny_pyHash_str h
  eqBool := fun hu hv h => by
    rcases keyIs_shape hu with ⟨i, t, rfl, rfl⟩ | ⟨x, t, rfl, rfl⟩
    · rcases keyIs_shape hv with ⟨j, u, rfl, rfl⟩ | ⟨y, u, rfl, rfl⟩
      · rw [key_ll] at h; exact wpAny_eqBool_int h
      · rw [key_lr] at h; exact SeqAt.EqAt.int_str i t y u _ _ _ _ h
    · rcases keyIs_shape hv with ⟨j, u, rfl, rfl⟩ | ⟨y, u, rfl, rfl⟩
      · rw [key_rl] at h; exact SeqAt.EqAt.str_int x t j u _ _ _ _ h
      · rw [key_rr] at h; exact wpAny_eqBool_str h
  «strs» := fun k x t v h => by
    rcases keyIs_shape h with ⟨i, u, rfl, e⟩ | ⟨y, u, rfl, e⟩
    · exact nomatch e
    · injection e with e1 _
      subst e1
      cases v <;> rfl

theorem mixKind_int (prog : Program) (w : World) (i : Int) (t : Tok) : (mixKind prog w).is (.inl i) (.int i t) = true := keyIs_int i t
theorem mixKind_str (prog : Program) (w : World) (x : Str) (t : Tok) : (mixKind prog w).is (.inr x) (.str x t) = true := keyIs_str x t
end L2

namespace L2
open PySem PySem.Spec PyProof.Rows

inductive V where
  | non | bl (b : Bool) | int (i : Int) | str (x : Str) | byt (b : Array UInt8) | flt (b : UInt64) | ref (a : Addr) | ty (n : String)
  deriving DecidableEq

def RelV : V → Value → Prop
  | .non, u => u = Value.none
  | .bl b, u => u = Value.bool b
  | .int i, u => ∃ t, u = Value.int i t
  | .str x, u => ∃ t, u = Value.str x t
  | .byt b, u => ∃ t, u = Value.bytes b t
  | .flt b, u => ∃ t, u = Value.float b t
  | .ref a, u => u = Value.ref a
  | .ty n, u => u = Value.type n

abbrev Vals : List V → List Value → Prop := Paired RelV
theorem Vals.length {xs : List V} {us : List Value} (r : Vals xs us) : xs.length = us.length := Paired.length r
theorem Vals.get : ∀ {xs : List V} {us : List Value} {i : Nat} {x : V}, Vals xs us → xs[i]? = some x → ∃ u, us[i]? = some u ∧ RelV x u
  | _, _, _, _, .nil, e => by simp at e
  | _, _, 0, _, .cons r _, e => by simp at e; subst e; exact ⟨_, rfl, r⟩
  | _, _, i + 1, x, .cons _ t, e => by
    obtain ⟨u, h1, h2⟩ := Vals.get (i := i) (x := x) t (by simpa using e)
    exact ⟨u, by simpa using h1, h2⟩
theorem Vals.append : ∀ {xs ys : List V} {us ws : List Value}, Vals xs us → Vals ys ws → Vals (xs ++ ys) (us ++ ws)
  | _, _, _, _, .nil, s => s
  | _, _, _, _, .cons r t, s => .cons r (Vals.append t s)
theorem Vals.take : ∀ {xs : List V} {us : List Value} (n : Nat), Vals xs us → Vals (xs.take n) (us.take n)
  | _, _, 0, _ => .nil
  | _, _, _ + 1, .nil => .nil
  | _, _, n + 1, .cons r t => .cons r (Vals.take n t)
theorem Vals.drop : ∀ {xs : List V} {us : List Value} (n : Nat), Vals xs us → Vals (xs.drop n) (us.drop n)
  | _, _, 0, r => r
  | _, _, _ + 1, .nil => .nil
  | _, _, n + 1, .cons _ t => Vals.drop n t
def RelO : Option V → Option Value → Prop
  | some v, some u => RelV v u
  | none, none => True
  | _, _ => False
def KV {κ : Type} : List (κ × V) → List (κ × Value) → Prop := Paired fun (p : κ × V) (q : κ × Value) => p.1 = q.1 ∧ RelV p.2 q.2

def kV : Key → V
  | .inl i => .int i
  | .inr x => .str x

inductive HO where
  /-- a list -/
  | lst (xs : List V)
  /-- a tuple (never changes) -/
  | tup (xs : List V)
  /-- a dict whose keys are ints and texts; one whose keys are tuples of ints and texts (the empty one is both) -/
  | dK (kvs : List (Key × V)) | dT (kvs : List (List Key × V))
  /-- a set of ints: its members, its size -/
  | set (S : Int → Bool) (n : Nat)
  /-- an instance of the class at C, its dict at dx, its attributes -/
  | ins (C dx : Addr) (fs : List (Str × V))
  /-- the dict of the instance at x -/
  | own (x : Addr)
  /-- the dict of an exception -/
  | xd (fs : List (Str × V))
  /-- a bound method, f of x -/
  | met (f x : Addr)
  /-- a range object lo, lo + 1, .. below hi -/
  | rng (lo hi : Int)
  /-- a thing that is known to the object (the script; a dict while a loop walks it): read, never written while it is so -/
  | frz (o : Obj) (u : HO)
  /-- a code object's table -/
  | tbl (ps : Array Value)
  /-- any other thing, by what is true of its one object (a def of one's own: SetO a S n := HO.ext fun h => ..) -/
  | ext (φ : Heap → Prop)

abbrev Hp := Addr → Option HO
def upd (H : Hp) (a : Addr) (o : HO) : Hp := fun b => if b = a then some o else H b
theorem upd_same {H : Hp} {a : Addr} {o : HO} : upd H a o a = some o := by unfold upd; rw [if_pos rfl]
theorem upd_ne {H : Hp} {a b : Addr} {o : HO} (h : b ≠ a) : upd H a o b = H b := by unfold upd; rw [if_neg h]
theorem ne_of {H : Hp} {a b : Addr} {o u : HO} (h : H a = some o) (h' : H b = some u) (d : o ≠ u) : a ≠ b := by
  intro e; subst e; rw [h] at h'; exact d (Option.some.inj h')
theorem ne_of_none {H : Hp} {a b : Addr} {o : HO} (h : H a = some o) (h' : H b = none) : a ≠ b := by
  intro e; subst e; rw [h] at h'; cases h'

section
variable (P : Program) (w : World)
def ObjOk (H : Hp) (h : Heap) (a : Addr) : HO → Prop
  | .lst xs => xs.length ≤ sizeLine ∧ ∃ (its : List Value) (n : Nat), Vals xs its ∧ h.get? a = some { cls := .type "list", data := .seq its.toArray n }
  | .tup xs => xs.length ≤ sizeLine ∧ ∃ its : List Value, Vals xs its ∧ IsTup h a its.toArray
  | .dK kvs => kvs.length ≤ sizeLine ∧ (a == sysModules) = false ∧ ∃ vs, KV kvs vs ∧ h.DictOf (mixKind P w) a vs
  | .dT kvs => kvs.length ≤ sizeLine ∧ (a == sysModules) = false ∧ ∃ xs : List (List Key × Addr × Value),
      Paired (fun (p : List Key × V) (q : List Key × Addr × Value) => p.1 = q.1 ∧ H q.2.1 = some (.tup (p.1.map kV)) ∧ RelV p.2 q.2.2) kvs xs ∧
      ∃ o es ep, h.get? a = some o ∧ o.ExactDict ∧ o.data = .dict es ep ∧ es.toList = xs.map (entryOfKey (tupleKind (mixKind P w))) ∧ (xs.map (·.1)).Nodup
  | .set S n => h.SetOf (intKind P w) a S n
  | .ins C dx fs => H dx = some (.own a) ∧ fs.length ≤ 1000 ∧ dx ≠ a ∧ h.get? a = some (PySem.W.instObj C dx) ∧
      ∃ mA, h.Ns1 dx mA ∧ (∀ f, RelO (fs.lookup f) (mA f)) ∧ PySem.Within mA (fs.map (·.1))
  | .own _ => ∃ o, h.get? a = some o
  | .xd fs => ∃ mA, h.Ns1 a mA ∧ ∀ f, RelO (fs.lookup f) (mA f)
  | .rng lo hi => ∃ t u v, h.get? a = some { cls := .type "range", data := .fields #[.int lo t, .int hi u, .int 1 v] }
  | .frz o u => h.get? a = some o ∧ ObjOk H h a u
  | .tbl ps => h.get? a = some { cls := .none, data := .fields ps }
  | .met f x => h.get? a = some (PySem.W.methodObj (.ref f) (.ref x))
  | .ext φ => φ h ∧ (∃ o, h.get? a = some o) ∧ ∀ h1 h2 : Heap, φ h1 → (∀ o, h1.get? a = some o → h2.get? a = some o) → φ h2
def HOk (H : Hp) (h : Heap) : Prop := ∀ a o, H a = some o → ObjOk P w H h a o
end

section
variable {P : Program} {w : World} {H H' : Hp} {h h' : Heap} {a : Addr} {o : HO}
theorem ObjOk.lt (x : ObjOk P w H h a o) : a < h.objs.size := by
  cases o with
  | lst xs => obtain ⟨_, _, _, _, e⟩ := x; exact Heap.lt_size e
  | tup xs => obtain ⟨_, _, _, p⟩ := x; exact p.lt
  | dK kvs => obtain ⟨_, _, _, _, o, _, _, e, _⟩ := x; exact Heap.lt_size e
  | dT kvs => obtain ⟨_, _, _, _, o, _, _, e, _⟩ := x; exact Heap.lt_size e
  | set S n => obtain ⟨o, _, _, _, e, _⟩ := x; exact Heap.lt_size e
  | ins C dx fs => obtain ⟨_, _, _, e, _⟩ := x; exact Heap.lt_size e
  | own y => obtain ⟨_, e⟩ := x; exact Heap.lt_size e
  | xd fs => obtain ⟨_, ⟨_, _, _, e, _⟩, _⟩ := x; exact Heap.lt_size e
  | rng lo hi => obtain ⟨_, _, _, e⟩ := x; exact Heap.lt_size e
  | frz ob u => obtain ⟨e, _⟩ := x; exact Heap.lt_size e
  | tbl ps => exact Heap.lt_size (show h.get? a = some _ from x)
  | met f y => exact Heap.lt_size (show h.get? a = some _ from x)
  | ext φ => obtain ⟨_, ⟨_, e⟩, _⟩ := x; exact Heap.lt_size e
theorem Paired.mapP {α β : Type} {F G : α → β → Prop} : ∀ {l₁ : List α} {l₂ : List β}, Paired F l₁ l₂ → (∀ a b, F a b → G a b) → Paired G l₁ l₂
  | _, _, .nil, _ => .nil
  | _, _, .cons r t, f => .cons (f _ _ r) (Paired.mapP t f)
theorem ObjOk.stay (x : ObjOk P w H h a o) (k : ∀ b u, (b = a ∨ H b = some (.own a)) → h.get? b = some u → h'.get? b = some u)
    (ho : ∀ b, H b = some (.own a) → H' b = some (.own a)) (ht : ∀ b xs, H b = some (.tup xs) → H' b = some (.tup xs)) : ObjOk P w H' h' a o := by
  induction o with
  | lst xs => obtain ⟨z, its, n, r, e⟩ := x; exact ⟨z, its, n, r, k _ _ (.inl rfl) e⟩
  | tup xs => obtain ⟨z, its, r, ob, e, c⟩ := x; exact ⟨z, its, r, ob, k _ _ (.inl rfl) e, c⟩
  | dK kvs => obtain ⟨z, y, vs, r, ob, es, ep, e, c⟩ := x; exact ⟨z, y, vs, r, ob, es, ep, k _ _ (.inl rfl) e, c⟩
  | dT kvs =>
    obtain ⟨z, y, xs, r, ob, es, ep, e, c⟩ := x
    exact ⟨z, y, xs, Paired.mapP r fun p q z => ⟨z.1, ht _ _ z.2.1, z.2.2⟩, ob, es, ep, k _ _ (.inl rfl) e, c⟩
  | set S n => obtain ⟨ob, es, ep, t, e, c⟩ := x; exact ⟨ob, es, ep, t, k _ _ (.inl rfl) e, c⟩
  | ins C dx fs =>
    obtain ⟨d, z, ne, e, mA, ⟨od, es, ep, e2, c⟩, r⟩ := x
    exact ⟨ho _ d, z, ne, k _ _ (.inl rfl) e, mA, ⟨od, es, ep, k _ _ (.inr d) e2, c⟩, r⟩
  | own y => obtain ⟨ob, e⟩ := x; exact ⟨ob, k _ _ (.inl rfl) e⟩
  | xd fs => obtain ⟨mA, ⟨od, es, ep, e, c⟩, r⟩ := x; exact ⟨mA, ⟨od, es, ep, k _ _ (.inl rfl) e, c⟩, r⟩
  | rng lo hi => obtain ⟨t, u, v, e⟩ := x; exact ⟨t, u, v, k _ _ (.inl rfl) e⟩
  | frz ob u ih => obtain ⟨e, q⟩ := x; exact ⟨k _ _ (.inl rfl) e, ih q⟩
  | tbl ps =>
    have e : h.get? a = some { cls := .none, data := .fields ps } := x
    show h'.get? a = some { cls := .none, data := .fields ps }
    exact k a _ (.inl rfl) e
  | met f y =>
    have e : h.get? a = some (PySem.W.methodObj (.ref f) (.ref y)) := x
    show h'.get? a = some (PySem.W.methodObj (.ref f) (.ref y))
    exact k a _ (.inl rfl) e
  | ext φ => obtain ⟨p, ⟨o, e⟩, st⟩ := x; exact ⟨st _ _ p fun o q => k _ _ (.inl rfl) q, ⟨o, k _ _ (.inl rfl) e⟩, st⟩
theorem HOk.lt (x : HOk P w H h) (e : H a = some o) : a < h.objs.size := (x a o e).lt
theorem HOk.fresh (x : HOk P w H h) (e : h.objs.size ≤ a) : H a = none := by
  cases q : H a with
  | none => rfl
  | some u => exact absurd (Nat.lt_of_lt_of_le (x.lt q) e) (Nat.lt_irrefl _)
theorem HOk.kept (x : HOk P w H h) (k : ∀ b u, h.get? b = some u → h'.get? b = some u) : HOk P w H h' := fun a o e =>
  (x a o e).stay (fun b u _ q => k b u q) (fun _ q => q) fun _ _ q => q
theorem HOk.laid (x : HOk P w H h) (k : ∀ b u, h.get? b = some u → h'.get? b = some u) (hp : h.objs.size ≤ a) (new : ObjOk P w (upd H a o) h' a o) : HOk P w (upd H a o) h' := fun b u e => by
  have hn := x.fresh hp
  by_cases hb : b = a
  · subst hb; rw [upd_same] at e; cases e; exact new
  · rw [upd_ne hb] at e
    exact (x b u e).stay (fun c v _ q => k c v q) (fun c q => by rw [upd_ne (ne_of_none q hn)]; exact q) fun c xs q => by rw [upd_ne (ne_of_none q hn)]; exact q
end

def Rd (H : Hp) (a : Addr) (u : HO) : Prop := H a = some u ∨ ∃ o, H a = some (.frz o u)
theorem Rd.ok {P : Program} {w : World} {H : Hp} {h : Heap} {a : Addr} {u : HO} (r : Rd H a u) (x : HOk P w H h) : ObjOk P w H h a u := by
  rcases r with r | ⟨o, r⟩
  · exact x a u r
  · obtain ⟨_, q⟩ := x a _ r
    exact q
def Mut : Option HO → Prop
  | some (.lst _) => True
  | some (.dK _) => True
  | some (.dT _) => True
  | some (.set _ _) => True
  | some (.ins _ _ _) => True
  | some (.ext _) => True
  | _ => False
section
variable {P : Program} {w : World} {H : Hp} {h h' : Heap} {x e : Addr} {o' : HO}
theorem HOk.write (ok : HOk P w H h) (mu : Mut (H x)) (he : e = x ∨ H e = some (.own x)) (k : ∀ b u, b ≠ e → h.get? b = some u → h'.get? b = some u) (heo : ∃ u, h'.get? e = some u)
    (new : ObjOk P w (upd H x o') h' x o') : HOk P w (upd H x o') h' := fun b u q => by
  have nown : ∀ c y, H c = some (.own y) → c ≠ x := fun c y r z => by subst z; rw [r] at mu; exact mu
  have ntup : ∀ c xs, H c = some (.tup xs) → c ≠ x := fun c xs r z => by subst z; rw [r] at mu; exact mu
  by_cases hb : b = x
  · subst hb; rw [upd_same] at q; cases q; exact new
  · rw [upd_ne hb] at q
    by_cases hbe : b = e
    · have q' : H b = some (.own x) := by
        rcases he with z | z
        · exact absurd (hbe.trans z) hb
        · rw [hbe]; exact z
      rw [q] at q'; cases q'
      obtain ⟨v, hv⟩ := heo
      exact ⟨v, by rw [hbe]; exact hv⟩
    · refine (ok b u q).stay (fun c v hc r => k c v ?_ r) (fun c r => by rw [upd_ne (nown c b r)]; exact r) fun c xs r => by rw [upd_ne (ntup c xs r)]; exact r
      rcases hc with rfl | hc
      · exact hbe
      · rintro rfl
        rcases he with z | z
        · exact nown c b hc z
        · rw [hc] at z; cases z; exact hb rfl
end

structure Un (fs ex : List Addr) (H H' : Hp) (h h' : Heap) : Prop where
  keep : ∀ b o, h.get? b = some o → H b = none → b ∉ fs → b ∉ ex → h'.get? b = some o
  slot : ∀ b o, h.get? b = some o → H b = none → b ∈ fs → b ∉ ex → ∃ sl, h'.get? b = some { o with slots := sl }
  free : ∀ b o, h.get? b = some o → H b = none → b ∉ ex → H' b = none
  there : ∀ b o, h.get? b = some o → b ∉ ex → ∃ o', h'.get? b = some o'
  tups : ∀ b xs, H b = some (.tup xs) → H' b = some (.tup xs)
  frzs : ∀ b o u, H b = some (.frz o u) → H' b = some (.frz o u)
  tbls : ∀ b ps, H b = some (.tbl ps) → ∃ more, H' b = some (.tbl (ps ++ more))
section
variable {fs fs' ex ex' : List Addr} {H H1 H2 : Hp} {h h1 h2 h' : Heap} {a x e : Addr} {o : HO}
theorem Un.any (u : Un fs ex H H1 h h1) {b : Addr} {ob : Obj} (q : h.get? b = some ob) (n : H b = none) (hx : b ∉ ex) : ∃ sl, h1.get? b = some { ob with slots := sl } := by
  by_cases hb : b ∈ fs
  · exact u.slot b ob q n hb hx
  · exact ⟨ob.slots, u.keep b ob q n hb hx⟩
theorem Un.kept (k : ∀ b u, h.get? b = some u → h'.get? b = some u) : Un fs ex H H h h' :=
  ⟨fun b ob q _ _ _ => k b ob q, fun b ob q _ _ _ => ⟨ob.slots, k b ob q⟩, fun _ _ _ n _ => n, fun b ob q _ => ⟨ob, k b ob q⟩, fun _ _ q => q, fun _ _ _ q => q, fun _ ps q => ⟨#[], by rw [q]; simp⟩⟩
theorem Un.refl : Un fs ex H H h h := Un.kept fun _ _ q => q
theorem Un.laid (k : ∀ b u, h.get? b = some u → h'.get? b = some u) (hp : h.objs.size ≤ a) (hn : H a = none) : Un fs ex H (upd H a o) h h' where
  keep := fun b u q _ _ _ => k b u q
  slot := fun b u q _ _ _ => ⟨u.slots, k b u q⟩
  free := fun b u q n _ => by rw [upd_ne (Nat.ne_of_lt (Nat.lt_of_lt_of_le (Heap.lt_size q) hp))]; exact n
  there := fun b u q _ => ⟨u, k b u q⟩
  tups := fun b xs q => by rw [upd_ne (ne_of_none q hn)]; exact q
  frzs := fun b u xs q => by rw [upd_ne (ne_of_none q hn)]; exact q
  tbls := fun b ps q => ⟨#[], by rw [upd_ne (ne_of_none q hn), q]; simp⟩
theorem Un.write (mu : Mut (H x)) (he : e = x ∨ H e = some (.own x)) (k : ∀ b u, b ≠ e → h.get? b = some u → h'.get? b = some u) (heo : ∃ u, h'.get? e = some u) : Un fs ex H (upd H x o) h h' := by
  have hx : ∀ b, H b = none → b ≠ x := fun b n z => by subst z; rw [n] at mu; exact mu
  have hb : ∀ b, H b = none → b ≠ e := fun b n z => by
    subst z
    rcases he with r | r
    · exact hx b n r
    · rw [n] at r; cases r
  have hm : ∀ b u, H b = some u → ¬ Mut (some u) → b ≠ x := fun b u q nm z => by subst z; rw [q] at mu; exact nm mu
  refine ⟨fun b u q n _ _ => k b u (hb b n) q, fun b u q n _ _ => ⟨u.slots, k b u (hb b n) q⟩, fun b u q n _ => by rw [upd_ne (hx b n)]; exact n, fun b u q _ => ?_,
    fun b xs q => by rw [upd_ne (hm b _ q fun z => z)]; exact q, fun b u xs q => by rw [upd_ne (hm b _ q fun z => z)]; exact q, fun b ps q => ⟨#[], by rw [upd_ne (hm b _ q fun z => z), q]; simp⟩⟩
  by_cases hbe : b = e
  · subst hbe; exact heo
  · exact ⟨u, k b u hbe q⟩
end

def trk (h : Heap) (H : Hp) : List Addr := (List.range h.objs.size).filter fun a => (H a).isSome
def hidT (h : Heap) (H : Hp) : Heap := PySem.W.hideAll h (trk h H)
theorem hidT_size (h : Heap) (H : Hp) : (hidT h H).objs.size = h.objs.size := PySem.W.hideAll_size _ _
theorem hidT_get {h : Heap} {H : Hp} {b : Addr} {o : Obj} (e : h.get? b = some o) (n : H b = none) : (hidT h H).get? b = some o :=
  PySem.W.hideAll_get _ e fun hm => by
    have q : (H b).isSome = true := (List.mem_filter.mp hm).2
    rw [n] at q; simp at q
theorem of_hidT {h : Heap} {H : Hp} {b : Addr} {o : Obj} (e : (hidT h H).get? b = some o) : h.get? b = some o ∧ H b = none := by
  have e' : h.get? b = some o := PySem.W.of_hideAll (trk h H) e
  refine ⟨e', ?_⟩
  cases q : H b with
  | none => rfl
  | some x =>
    have hm : b ∈ trk h H := List.mem_filter.mpr ⟨List.mem_range.mpr (Heap.lt_size e'), by simp [q]⟩
    have z : (hidT h H).get? b = none := PySem.W.hideAll_none (trk h H) hm
    rw [z] at e; cases e

def allNews (g h : Heap) (L : Addr) : List (Addr × Obj) := (List.range h.objs.size).filterMap fun a => if a = L ∨ (g.get? a).isSome = true then none else (h.get? a).map fun o => (a, o)
def rest (g h : Heap) (L d : Addr) : List (Addr × Obj) := (allNews g h L).filter fun p => decide (p.1 ≠ d)
end L2

namespace L2
open PySem PySem.Spec PyProof.Rows

structure Mod (K : PySem.W.Frag) (mg : Str → Option Value) (base : Heap) : Prop where
  kin : K.In base
  glob : base.Ns mainGlobals mg
  blt : ∃ mb, base.Ns builtinsNs mb ∧ ∀ x : Str, x ≠ "__name__" → mb x = bootBuiltins x
  nolimit : base.NoLimit

structure Cx where
  prog : Program
  w : World
  K : PySem.W.Frag
  mg : Str → Option Value
  base : Heap
  A : Around
  N : List Str
  s₀ : Shared
  H₀ : Hp
  env : Env
  outer : List Env
  stack : List Env
  ex : List Addr
  fn : Str → Bool
  calm : Bool
  pn : List (Addr × Obj)
  xe : Value → Shared → Prop
def frs (l : List Env) : List Addr := l.filterMap (·.frame)
abbrev Cx.fs (X : Cx) : List Addr := frs X.outer

def Vis (sc : Scope) (x : Str) : Prop := sc.names.lookup x = some .local ∨ sc.names.lookup x = some .cell ∨ sc.names.lookup x = some .free
def Loc (sc : Scope) (x : Str) : Prop := sc.names.lookup x = some .local ∨ sc.names.lookup x = some .cell
def Look (env : Env) (h : Heap) (m : Str → Option Value) (x : Str) (u : Value) : Prop :=
  (env.kindOf x = some .local ∧ m x = some u) ∨ ((env.kindOf x = some .cell ∨ env.kindOf x = some .free) ∧ ∃ c, env.cells.lookup x = some c ∧ h.IsCell c (some u))

structure Cx.Ok (X : Cx) : Prop where
  mod : Mod X.K X.mg X.base
  kind : X.env.scope.kind = .function
  glob : X.env.globals = mainGlobals
  blt : X.env.builtins = builtinsNs
  above : X.s₀.heap.objs.size ≤ X.env.locals
  inj : ∀ x y c, X.env.cells.lookup x = some c → X.env.cells.lookup y = some c → x = y
  has : ∀ x, (X.env.kindOf x = some .cell ∨ X.env.kindOf x = some .free) → ∃ c, X.env.cells.lookup x = some c
  cab : ∀ x c, X.fn x = true → X.env.cells.lookup x = some c → X.s₀.heap.objs.size ≤ c
  hd : X.calm = true → X.A.handled = none
  frames : X.A.frames = some X.stack
  stk : X.stack = X.outer ∨ (X.stack = X.env :: X.outer ∧ X.env.frame = some X.env.locals)
  exf : ∀ b ∈ X.ex, b ≠ X.env.locals ∧ ∀ x c, X.env.cells.lookup x = some c → c ≠ b
  bs : ∀ b o, X.base.get? b = some o → X.s₀.heap.get? b = some o ∧ X.H₀ b = none
  bsz : X.base.objs.size ≤ X.s₀.heap.objs.size
  noex : ∀ b o, X.base.get? b = some o → b ∉ X.ex
  exfs : ∀ b ∈ X.ex, b ∉ X.fs
  funs : X.s₀.heap.FunFrames X.base X.outer
  frf : ∀ b ∈ X.fs, X.H₀ b = none

structure Inv (X : Cx) (pins : List (Addr × Obj)) (σ : List (Option V)) (H : Hp) (s : Shared) : Prop where
  ok : X.Ok
  os : s.os = X.s₀.os
  bare : AllBare s.gens
  base : Un X.fs X.ex X.H₀ H X.s₀.heap s.heap
  loc : ∃ m, s.heap.Ns X.env.locals m ∧ ∀ (i : Nat) (x : Str) (v : V), X.N[i]? = some x → σ[i]? = some (some v) → Vis X.env.scope x → ∃ u, RelV v u ∧ Look X.env s.heap m x u
  cell : ∀ x c, X.env.cells.lookup x = some c → ∃ v, s.heap.IsCell c v
  free : H X.env.locals = none
  freeC : ∀ x c, X.env.cells.lookup x = some c → H c = none
  pin : ∀ p ∈ X.pn ++ pins, s.heap.get? p.1 = some p.2 ∧ H p.1 = none ∧ p.1 ≠ X.env.locals ∧ p.1 ∉ X.fs ∧ ∀ v, p.2.data ≠ .cell v
  hok : HOk X.prog X.w H s.heap
  len : σ.length = X.N.length

section
variable {X : Cx} {pins : List (Addr × Obj)} {σ : List (Option V)} {H H' : Hp} {s : Shared} {h' : Heap}

theorem Cx.Ok.nofr (ok : X.Ok) {b : Addr} {o : Obj} (e : X.base.get? b = some o) : b ∉ X.fs := fun hb => by
  have := (ok.funs.mem hb).1
  rw [e] at this; cases this
theorem Inv.bs (I : Inv X pins σ H s) : ∀ b o, X.base.get? b = some o → s.heap.get? b = some o ∧ H b = none := fun b o e =>
  ⟨I.base.keep b o (I.ok.bs b o e).1 (I.ok.bs b o e).2 (I.ok.nofr e) (I.ok.noex b o e), I.base.free b o (I.ok.bs b o e).1 (I.ok.bs b o e).2 (I.ok.noex b o e)⟩
theorem Inv.bk (I : Inv X pins σ H s) : ∀ b o, X.base.get? b = some o → s.heap.get? b = some o := fun b o e => (I.bs b o e).1
theorem Inv.mod (I : Inv X pins σ H s) : Mod X.K X.mg X.base := I.ok.mod
theorem Inv.kIn (I : Inv X pins σ H s) : X.K.In s.heap := I.ok.mod.kin.keeps I.bk
theorem Inv.lt (I : Inv X pins σ H s) : X.env.locals < s.heap.objs.size := let ⟨_, hn, _⟩ := I.loc; hn.lt
theorem Inv.sz (I : Inv X pins σ H s) : X.s₀.heap.objs.size ≤ s.heap.objs.size := Nat.le_trans I.ok.above (Nat.le_of_lt I.lt)
theorem Inv.nofs (I : Inv X pins σ H s) {a : Addr} (h : s.heap.objs.size ≤ a) : a ∉ X.fs := fun hb => by
  obtain ⟨_, o, ho, _⟩ := I.ok.funs.mem hb
  exact absurd (Nat.lt_of_lt_of_le (Heap.lt_size ho) (Nat.le_trans I.sz h)) (Nat.lt_irrefl _)
theorem Inv.cne (I : Inv X pins σ H s) : ∀ x c, X.env.cells.lookup x = some c → c ≠ X.env.locals := fun x c e z => by
  obtain ⟨v, o, ho, hd⟩ := I.cell x c e
  obtain ⟨m, ⟨o', es, ep, ho', hd', _⟩, _⟩ := I.loc
  rw [z, ho'] at ho; cases ho; rw [hd'] at hd; cases hd
theorem Inv.funs (I : Inv X pins σ H s) : s.heap.FunFrames X.base X.outer := by
  have all : ∀ (l : List Env), (∀ b ∈ frs l, b ∈ X.fs) → X.s₀.heap.FunFrames X.base l → s.heap.FunFrames X.base l := by
    intro l
    induction l with
    | nil => intro _ _; trivial
    | cons env r ih =>
      intro hs hl
      obtain ⟨hk, ⟨L, o, hf, hn, ho, hd⟩, hr⟩ := hl
      have hL : L ∈ X.fs := hs L (by unfold frs; rw [List.filterMap_cons, hf]; exact List.mem_cons_self)
      obtain ⟨sl, e⟩ := I.base.slot L o ho (I.ok.frf L hL) hL fun z => I.ok.exfs L z hL
      exact ⟨hk, ⟨L, _, hf, hn, e, hd⟩, ih (fun b hb => hs b (by unfold frs; rw [List.filterMap_cons, hf]; exact List.mem_cons_of_mem _ hb)) hr⟩
  exact all X.outer (fun _ hb => hb) I.ok.funs

theorem Inv.stack (I : Inv X pins σ H s) : s.heap.FunFrames X.base X.stack := by
  rcases I.ok.stk with e | ⟨e, hf⟩
  · rw [e]; exact I.funs
  · rw [e]
    obtain ⟨m, hn, _⟩ := I.loc
    refine .cons (by rw [I.ok.kind]; decide) hf hn ?_ I.funs
    exact Heap.get?_none_of_le (Nat.le_trans I.ok.bsz I.ok.above)
theorem Inv.stkSub (I : Inv X pins σ H s) : ∀ b ∈ frs X.stack, b ∈ X.env.locals :: X.fs := fun b hb => by
  rcases I.ok.stk with e | ⟨e, hf⟩
  · rw [e] at hb; exact List.mem_cons_of_mem _ hb
  · rw [e] at hb
    unfold frs at hb
    rw [List.filterMap_cons, hf] at hb
    exact hb
theorem Inv.stkFree (I : Inv X pins σ H s) : ∀ b ∈ frs X.stack, H b = none := fun b hb => by
  rcases List.mem_cons.mp (I.stkSub b hb) with e | hb
  · rw [e]; exact I.free
  · obtain ⟨_, o, ho, _⟩ := I.ok.funs.mem hb
    exact I.base.free b o ho (I.ok.frf b hb) fun z => I.ok.exfs b z hb

theorem Inv.step {g' : Array GenState} {t' : Nat} {d' : Drawn} {ch : List Addr} (I : Inv X pins σ H s)
    (hch : ∀ b ∈ ch, (b ∈ X.ex ∨ X.s₀.heap.objs.size ≤ b) ∧ b ≠ X.env.locals ∧ (∀ x c, X.env.cells.lookup x = some c → c ≠ b) ∧ ∀ p ∈ X.pn ++ pins, p.1 ≠ b)
    (keep : ∀ b o, b ≠ X.env.locals → b ∉ X.fs → b ∉ ch → s.heap.get? b = some o → H b = none → h'.get? b = some o)
    (slot : ∀ b o, b ≠ X.env.locals → b ∈ X.fs → b ∉ ch → s.heap.get? b = some o → H b = none → ∃ sl, h'.get? b = some { o with slots := sl }) (free : ∀ b o, b ∉ ch → s.heap.get? b = some o → H b = none → H' b = none)
    (there : ∀ b o, b ∉ ch → s.heap.get? b = some o → ∃ o', h'.get? b = some o')
    (tups : ∀ b xs, H b = some (.tup xs) → H' b = some (.tup xs)) (frzs : ∀ b o u, H b = some (.frz o u) → H' b = some (.frz o u)) (tbls : ∀ b ps, H b = some (.tbl ps) → ∃ more, H' b = some (.tbl (ps ++ more)))
    (ns : ∀ m, s.heap.Ns X.env.locals m → h'.Ns X.env.locals m) (hok : HOk X.prog X.w H' h') (hg : AllBare g') :
    Inv X pins σ H' { s with heap := h', gens := g', drawn := d', toks := t' } := by
  have neL : ∀ b o, X.s₀.heap.get? b = some o → b ≠ X.env.locals := fun b o e => Nat.ne_of_lt (Nat.lt_of_lt_of_le (Heap.lt_size e) I.ok.above)
  have neC : ∀ b o, X.s₀.heap.get? b = some o → b ∉ X.ex → b ∉ ch := fun b o e hx hb => by
    rcases (hch b hb).1 with z | z
    · exact hx z
    · exact absurd (Nat.lt_of_lt_of_le (Heap.lt_size e) z) (Nat.lt_irrefl _)
  have cellK : ∀ x c, X.env.cells.lookup x = some c → ∀ v, s.heap.IsCell c v → h'.IsCell c v := fun x c e v ⟨o, ho, hd⟩ => by
    have nch : c ∉ ch := fun z => (hch c z).2.2.1 x c e rfl
    by_cases hc : c ∈ X.fs
    · obtain ⟨sl, q⟩ := slot c o (I.cne x c e) hc nch ho (I.freeC x c e)
      exact ⟨_, q, hd⟩
    · exact ⟨o, keep c o (I.cne x c e) hc nch ho (I.freeC x c e), hd⟩
  refine ⟨I.ok, I.os, hg, ⟨fun b o e n hb hx => ?_, fun b o e n hb hx => ?_, fun b o e n hx => ?_, fun b o e hx => ?_, fun b xs e => tups b xs (I.base.tups b xs e), fun b o xs e => frzs b o xs (I.base.frzs b o xs e), fun b ps e => ?_⟩, ?_, fun x c e => ?_, ?_, fun x c e => ?_, fun p hp => ?_, hok, I.len⟩
  · exact keep b o (neL b o e) hb (neC b o e hx) (I.base.keep b o e n hb hx) (I.base.free b o e n hx)
  · obtain ⟨sl, e1⟩ := I.base.slot b o e n hb hx
    obtain ⟨sl', e2⟩ := slot b _ (neL b o e) hb (neC b o e hx) e1 (I.base.free b o e n hx)
    exact ⟨sl', e2⟩
  · obtain ⟨o', e1⟩ := I.base.there b o e hx
    exact free b o' (neC b o e hx) e1 (I.base.free b o e n hx)
  · obtain ⟨o', e1⟩ := I.base.there b o e hx
    exact there b o' (neC b o e hx) e1
  · obtain ⟨m1, e1⟩ := I.base.tbls b ps e
    obtain ⟨m2, e2⟩ := tbls b _ e1
    exact ⟨m1 ++ m2, by rw [e2, Array.append_assoc]⟩
  · obtain ⟨m, hn, hl⟩ := I.loc
    refine ⟨m, ns m hn, fun i x v e1 e2 e3 => ?_⟩
    obtain ⟨u, r, l⟩ := hl i x v e1 e2 e3
    refine ⟨u, r, ?_⟩
    rcases l with l | ⟨k, c, e, z⟩
    · exact .inl l
    · exact .inr ⟨k, c, e, cellK x c e _ z⟩
  · obtain ⟨v, z⟩ := I.cell x c e
    exact ⟨v, cellK x c e v z⟩
  · obtain ⟨m, ⟨o, _, _, ho, _⟩, _⟩ := I.loc
    exact free _ o (fun z => (hch _ z).2.1 rfl) ho I.free
  · obtain ⟨v, o, ho, hd⟩ := I.cell x c e
    exact free c o (fun z => (hch c z).2.2.1 x c e rfl) ho (I.freeC x c e)
  · obtain ⟨e, n, ne, nf, d⟩ := I.pin p hp
    have nch : p.1 ∉ ch := fun z => (hch p.1 z).2.2.2 p hp rfl
    exact ⟨keep p.1 p.2 ne nf nch e n, free p.1 p.2 nch e n, ne, nf, d⟩
theorem Inv.un {t' : Nat} (I : Inv X pins σ H s) (u : Un X.fs [] H H' s.heap h') (hok : HOk X.prog X.w H' h') : Inv X pins σ H' { s with heap := h', toks := t' } := by
  obtain ⟨m, ⟨o, es, ep, ho, r⟩, _⟩ := id I.loc
  obtain ⟨sl, hL⟩ := u.any ho I.free (by simp)
  exact I.step (g' := s.gens) (d' := s.drawn) (ch := []) (fun _ z => nomatch z) (fun b o _ hb _ e n => u.keep b o e n hb (by simp)) (fun b o _ hb _ e n => u.slot b o e n hb (by simp)) (fun b o _ e n => u.free b o e n (by simp)) (fun b o _ e => u.there b o e (by simp)) u.tups u.frzs u.tbls (fun m' hm => by
    obtain ⟨o', es', ep', ho', r'⟩ := hm
    rw [ho] at ho'; cases ho'
    exact ⟨_, es', ep', hL, r'⟩) hok I.bare
theorem Inv.call {g' : Array GenState} {t' : Nat} {d' : Drawn} {ch : List Addr} (I : Inv X pins σ H s) (u : Un (frs X.stack) ch H H' s.heap h') (hok : HOk X.prog X.w H' h') (hg : AllBare g')
    (hch : ∀ b ∈ ch, (b ∈ X.ex ∨ X.s₀.heap.objs.size ≤ b) ∧ b ≠ X.env.locals ∧ (∀ x c, X.env.cells.lookup x = some c → c ≠ b) ∧ ∀ p ∈ X.pn ++ pins, p.1 ≠ b) :
    Inv X pins σ H' { s with heap := h', gens := g', drawn := d', toks := t' } := by
  obtain ⟨m, ⟨o, es, ep, ho, r⟩, _⟩ := id I.loc
  obtain ⟨sl, hL⟩ := u.any ho I.free fun z => (hch _ z).2.1 rfl
  exact I.step (ch := ch) hch (fun b o hL hb hc e n => u.keep b o e n (fun z => (List.mem_cons.mp (I.stkSub b z)).elim hL hb) hc) (fun b o _ _ hc e n => u.any e n hc) (fun b o hc e n => u.free b o e n hc) (fun b o hc e => u.there b o e hc) u.tups u.frzs u.tbls (fun m' hm => by
    obtain ⟨o', es', ep', ho', r'⟩ := hm
    rw [ho] at ho'; cases ho'
    exact ⟨_, es', ep', hL, r'⟩) hok hg
theorem Inv.turned {t' : Nat} {it : Addr} (I : Inv X pins σ H s) (k : ∀ b o, b ≠ it → s.heap.get? b = some o → h'.get? b = some o) (hn : H it = none) (hL : it ≠ X.env.locals)
    (h1 : it ∈ X.ex ∨ X.s₀.heap.objs.size ≤ it) (h2 : ∀ x c, X.env.cells.lookup x = some c → c ≠ it) (h3 : ∀ p ∈ X.pn ++ pins, p.1 ≠ it) : Inv X pins σ H { s with heap := h', toks := t' } := by
  have nit : ∀ b u, H b = some u → b ≠ it := fun b u e z => by rw [z, hn] at e; cases e
  refine I.step (g' := s.gens) (d' := s.drawn) (ch := [it]) (fun b hb => ?_) (fun b o _ _ hc e _ => k b o (fun z => hc (by simp [z])) e) (fun b o _ _ hc e _ => ⟨o.slots, k b o (fun z => hc (by simp [z])) e⟩) (fun _ _ _ _ n => n)
    (fun b o hc e => ⟨o, k b o (fun z => hc (by simp [z])) e⟩) (fun _ _ e => e) (fun _ _ _ e => e) (fun b ps e => ⟨#[], by rw [e]; simp⟩) (fun m hm => ?_) (fun b u e => ?_) I.bare
  · have e : b = it := by simpa using hb
    subst e
    exact ⟨h1, hL, h2, h3⟩
  · obtain ⟨o, es, ep, ho, r⟩ := hm
    exact ⟨o, es, ep, k _ o (Ne.symm hL) ho, r⟩
  · refine (I.hok b u e).stay (fun c v hc q => k c v ?_ q) (fun _ q => q) fun _ _ q => q
    rcases hc with z | z
    · rw [z]; exact nit b u e
    · exact nit c _ z
theorem Inv.tok (I : Inv X pins σ H s) (t : Nat) : Inv X pins σ H { s with toks := t } := I.un (h' := s.heap) (t' := t) Un.refl I.hok
theorem Inv.kept {t' : Nat} (I : Inv X pins σ H s) (k : ∀ b u, s.heap.get? b = some u → h'.get? b = some u) : Inv X pins σ H { s with heap := h', toks := t' } := I.un (Un.kept k) (I.hok.kept k)
theorem Inv.laid {a : Addr} {o : HO} {t' : Nat} (I : Inv X pins σ H s) (k : ∀ b u, s.heap.get? b = some u → h'.get? b = some u) (hp : s.heap.objs.size ≤ a) (new : ObjOk X.prog X.w (upd H a o) h' a o) :
    Inv X pins σ (upd H a o) { s with heap := h', toks := t' } := I.un (Un.laid k hp (I.hok.fresh hp)) (I.hok.laid k hp new)
theorem Inv.write {x e : Addr} {o : HO} {t' : Nat} (I : Inv X pins σ H s) (mu : Mut (H x)) (he : e = x ∨ H e = some (.own x)) (k : ∀ b u, b ≠ e → s.heap.get? b = some u → h'.get? b = some u) (heo : ∃ u, h'.get? e = some u)
    (new : ObjOk X.prog X.w (upd H x o) h' x o) : Inv X pins σ (upd H x o) { s with heap := h', toks := t' } := I.un (Un.write mu he k heo) (I.hok.write mu he k heo new)
theorem Inv.weak {σ' : List (Option V)} (I : Inv X pins σ H s) (hl : σ'.length = σ.length) (w : ∀ (i : Nat) v, σ'[i]? = some (some v) → σ[i]? = some (some v)) : Inv X pins σ' H s :=
  ⟨I.ok, I.os, I.bare, I.base, let ⟨m, hn, hl'⟩ := I.loc; ⟨m, hn, fun i x v e1 e2 e3 => hl' i x v e1 (w i v e2) e3⟩, I.cell, I.free, I.freeC, I.pin, I.hok, hl.trans I.len⟩
theorem Inv.pins_of {pins' : List (Addr × Obj)} (I : Inv X pins σ H s) (h : ∀ p ∈ pins', s.heap.get? p.1 = some p.2 ∧ H p.1 = none ∧ p.1 ≠ X.env.locals ∧ p.1 ∉ X.fs ∧ ∀ v, p.2.data ≠ .cell v) : Inv X pins' σ H s :=
  ⟨I.ok, I.os, I.bare, I.base, I.loc, I.cell, I.free, I.freeC, fun p hp => (List.mem_append.mp hp).elim (fun z => I.pin p (List.mem_append_left _ z)) (h p), I.hok, I.len⟩

theorem nodup_ix {N : List Str} (hN : N.Nodup) {i j : Nat} {x : Str} (a : N[i]? = some x) (b : N[j]? = some x) : i = j := by
  obtain ⟨h1, e1⟩ := List.getElem?_eq_some_iff.mp a
  obtain ⟨h2, e2⟩ := List.getElem?_eq_some_iff.mp b
  exact (List.getElem_inj hN).mp (e1.trans e2.symm)

theorem store_ok2 {M : Model} {A : Around} {E : Value → Shared → Prop} {i : Nat} {x : Str} {v : V} {u : Value} {Q : Unit → Shared → Prop} (I : Inv X pins σ H s) (hN : X.N.Nodup) (hi : X.N[i]? = some x) (hx : Loc X.env.scope x) (r : RelV v u)
    (h : ∀ s', Inv X pins (σ.set i (some v)) H s' → (∃ a, Heap.SameBut a s.heap s'.heap ∧ (a = X.env.locals ∨ X.env.cells.lookup x = some a)) → Q () s') (hf : X.fn x = true ∨ X.env.scope.names.lookup x = some .local := by first | exact .inl rfl | exact .inr rfl | assumption) : wpAny M A (storeName X.env x u) Q E s := by
  obtain ⟨m, hn, hl⟩ := id I.loc
  have hcls : (X.env.scope.kind == .class || (X.env.scope.kind == .module && X.env.locals != X.env.globals)) = false := by rw [I.ok.kind]; rfl
  have hiσ : i < σ.length := by rw [I.len]; exact (List.getElem?_eq_some_iff.mp hi).1
  have cne := I.cne
  have tracked : ∀ {a : Addr} {h' : Heap}, (∃ o, s.heap.get? a = some o ∧ H a = none) → Heap.SameBut a s.heap h' → HOk X.prog X.w H h' := fun {a h'} ha hs b ob e => by
    obtain ⟨_, _, hfree⟩ := ha
    refine (I.hok b ob e).stay (fun c w' hc q => (hs.2 c ?_).trans q) (fun _ q => q) fun _ _ q => q
    rintro rfl
    rcases hc with rfl | hc
    · rw [hfree] at e; cases e
    · rw [hfree] at hc; cases hc
  rcases hx with hk | hk
  · refine wpAny_storeName_local hk hn (fun h' hn' hs => ?_) hcls
    obtain ⟨oL, _, _, hoL, _⟩ := id hn
    refine h _ ⟨I.ok, I.os, I.bare, ⟨fun b o e n hb hx => ?_, fun b o e n hb hx => ?_, I.base.free, fun b o e hx => ?_, I.base.tups, I.base.frzs, I.base.tbls⟩, ⟨_, hn', fun j y v' e1 e2 e3 => ?_⟩, fun y c e => ?_, I.free, I.freeC, fun p hp => ?_, tracked ⟨oL, hoL, I.free⟩ hs, by simpa using I.len⟩ ⟨_, hs, .inl rfl⟩
    · exact (hs.2 b (Nat.ne_of_lt (Nat.lt_of_lt_of_le (Heap.lt_size e) I.ok.above))).trans (I.base.keep b o e n hb hx)
    · obtain ⟨sl, e1⟩ := I.base.slot b o e n hb hx
      exact ⟨sl, (hs.2 b (Nat.ne_of_lt (Nat.lt_of_lt_of_le (Heap.lt_size e) I.ok.above))).trans e1⟩
    · obtain ⟨o', e1⟩ := I.base.there b o e hx
      exact ⟨o', (hs.2 b (Nat.ne_of_lt (Nat.lt_of_lt_of_le (Heap.lt_size e) I.ok.above))).trans e1⟩
    · by_cases hj : j = i
      · subst hj
        rw [hi] at e1; cases e1
        rw [List.getElem?_set_self hiσ] at e2
        cases e2
        exact ⟨u, r, .inl ⟨hk, by simp⟩⟩
      · rw [List.getElem?_set_ne (Ne.symm hj)] at e2
        obtain ⟨u', r', q⟩ := hl j y v' e1 e2 e3
        refine ⟨u', r', ?_⟩
        rcases q with ⟨k, e⟩ | ⟨k, c, e, z⟩
        · refine .inl ⟨k, ?_⟩
          have : y ≠ x := fun e => hj (nodup_ix hN e1 (e ▸ hi))
          simp [this, e]
        · exact .inr ⟨k, c, e, z.sameBut hs (cne y c e)⟩
    · obtain ⟨w', z⟩ := I.cell y c e
      exact ⟨w', z.sameBut hs (cne y c e)⟩
    · obtain ⟨e, n, ne, nf, d⟩ := I.pin p hp
      exact ⟨(hs.2 p.1 ne).trans e, n, ne, nf, d⟩
  · have hfn : X.fn x = true := by
      rcases hf with z | z
      · exact z
      · rw [z] at hk; cases hk
    obtain ⟨c, hc⟩ := I.ok.has x (.inl hk)
    obtain ⟨w', z⟩ := I.cell x c hc
    refine wpAny_storeName_cell I.ok.kind hk hc z (fun h' hc' hs => ?_)
    obtain ⟨oc, hoc, hocd⟩ := id z
    refine h { s with heap := h' } ⟨I.ok, I.os, I.bare, ⟨fun b o e n hb hx => ?_, fun b o e n hb hx => ?_, I.base.free, fun b o e hx => ?_, I.base.tups, I.base.frzs, I.base.tbls⟩, ⟨m, hn.sameBut hs (Ne.symm (cne x c hc)), fun j y v' e1 e2 e3 => ?_⟩, fun y c' e => ?_, I.free, I.freeC, fun p hp => ?_, tracked ⟨oc, hoc, I.freeC x c hc⟩ hs, by simpa using I.len⟩ ⟨c, hs, .inr hc⟩
    · exact (hs.2 b (Nat.ne_of_lt (Nat.lt_of_lt_of_le (Heap.lt_size e) (I.ok.cab x c hfn hc)))).trans (I.base.keep b o e n hb hx)
    · obtain ⟨sl, e1⟩ := I.base.slot b o e n hb hx
      exact ⟨sl, (hs.2 b (Nat.ne_of_lt (Nat.lt_of_lt_of_le (Heap.lt_size e) (I.ok.cab x c hfn hc)))).trans e1⟩
    · obtain ⟨o', e1⟩ := I.base.there b o e hx
      exact ⟨o', (hs.2 b (Nat.ne_of_lt (Nat.lt_of_lt_of_le (Heap.lt_size e) (I.ok.cab x c hfn hc)))).trans e1⟩
    · by_cases hj : j = i
      · subst hj
        rw [hi] at e1; cases e1
        rw [List.getElem?_set_self hiσ] at e2
        cases e2
        exact ⟨u, r, .inr ⟨.inl hk, c, hc, hc'⟩⟩
      · rw [List.getElem?_set_ne (Ne.symm hj)] at e2
        obtain ⟨u', r', q⟩ := hl j y v' e1 e2 e3
        refine ⟨u', r', ?_⟩
        rcases q with q | ⟨k, c', e, z'⟩
        · exact .inl q
        · refine .inr ⟨k, c', e, z'.sameBut hs ?_⟩
          rintro rfl
          exact hj (nodup_ix hN e1 (I.ok.inj _ _ _ e hc ▸ hi))
    · by_cases hcc : c' = c
      · subst hcc; exact ⟨_, hc'⟩
      · obtain ⟨w2, z2⟩ := I.cell y c' e
        exact ⟨w2, z2.sameBut hs hcc⟩
    · obtain ⟨e, n, ne, nf, d⟩ := I.pin p hp
      refine ⟨(hs.2 p.1 ?_).trans e, n, ne, nf, d⟩
      intro q
      rw [q, hoc] at e
      have q' : oc = p.2 := Option.some.inj e
      exact d w' (by rw [← q']; exact hocd)
theorem store_ok {M : Model} {A : Around} {E : Value → Shared → Prop} {i : Nat} {x : Str} {v : V} {u : Value} {Q : Unit → Shared → Prop} (I : Inv X pins σ H s) (hN : X.N.Nodup) (hi : X.N[i]? = some x) (hx : Loc X.env.scope x) (r : RelV v u)
    (h : ∀ s', Inv X pins (σ.set i (some v)) H s' → Q () s') (hf : X.fn x = true ∨ X.env.scope.names.lookup x = some .local := by first | exact .inl rfl | exact .inr rfl | assumption) : wpAny M A (storeName X.env x u) Q E s :=
  store_ok2 I hN hi hx r (fun s' I' _ => h s' I') hf
theorem Inv.call' {s' : Shared} {ch : List Addr} (I : Inv X pins σ H s) (ho : s'.os = s.os) (u : Un (frs X.stack) ch H H' s.heap s'.heap) (hok : HOk X.prog X.w H' s'.heap) (hg : AllBare s'.gens)
    (hch : ∀ b ∈ ch, (b ∈ X.ex ∨ X.s₀.heap.objs.size ≤ b) ∧ b ≠ X.env.locals ∧ (∀ x c, X.env.cells.lookup x = some c → c ≠ b) ∧ ∀ p ∈ X.pn ++ pins, p.1 ≠ b) : Inv X pins σ H' s' := by
  obtain ⟨h', g', d', t', o'⟩ := s'
  have e : o' = s.os := ho
  subst e
  exact I.call (g' := g') (t' := t') (d' := d') u hok hg hch
end

abbrev XK := Value → Option Addr → Hp → Prop
abbrev St := List (Option V)
abbrev VK := V → Hp → Prop
abbrev TE := St → Hp → VK → Prop
abbrev TT := St → Hp → (Bool → Hp → Prop) → Prop
abbrev TA := St → Hp → (List V → Hp → Prop) → Prop
structure Ends where
  nx : St → Hp → Prop
  rt : VK
  bk : St → Hp → Prop := fun _ _ => False
  ct : St → Hp → Prop := fun _ _ => False
abbrev TS := Ends → St → Hp → Prop

def EP (X : Cx) (pins : List (Addr × Obj)) (σ : St) (Q : VK) (u : Value) (s' : Shared) : Prop := ∃ v H', Inv X pins σ H' s' ∧ RelV v u ∧ Q v H'
def TP (X : Cx) (pins : List (Addr × Obj)) (σ : St) (Q : Bool → Hp → Prop) (b : Bool) (s' : Shared) : Prop := ∃ H', Inv X pins σ H' s' ∧ Q b H'
def AP (X : Cx) (pins : List (Addr × Obj)) (σ : St) (Q : List V → Hp → Prop) (us : List Value) (s' : Shared) : Prop := ∃ vs H', Inv X pins σ H' s' ∧ Vals vs us ∧ Q vs H'
def SP (X : Cx) (pins : List (Addr × Obj)) (D : Ends) (f : Flow) (s' : Shared) : Prop :=
  match f with
  | .next => ∃ σ' H', Inv X pins σ' H' s' ∧ D.nx σ' H'
  | .brk => ∃ σ' H', Inv X pins σ' H' s' ∧ D.bk σ' H'
  | .cont => ∃ σ' H', Inv X pins σ' H' s' ∧ D.ct σ' H'
  | .ret u => ∃ v σ' H', Inv X pins σ' H' s' ∧ RelV v u ∧ D.rt v H'

def PE (X : Cx) (e : Expr) (t : TE) : Prop :=
  ∀ (pins : List (Addr × Obj)) (s : Shared) (σ : St) (H : Hp) (Q : VK), Inv X pins σ H s → t σ H Q → wpAny (model X.prog X.w) X.A (eval e X.env) (EP X pins σ Q) X.xe s
def PT (X : Cx) (e : Expr) (t : TT) : Prop :=
  ∀ (pins : List (Addr × Obj)) (s : Shared) (σ : St) (H : Hp) (Q : Bool → Hp → Prop), Inv X pins σ H s → t σ H Q → wpAny (model X.prog X.w) X.A (isTrue e X.env (eval e X.env)) (TP X pins σ Q) X.xe s
def PW (X : Cx) (e : Expr) (t : TT) : Prop :=
  ∀ (whole : Sem Value) (pins : List (Addr × Obj)) (s : Shared) (σ : St) (H : Hp) (Q : Bool → Hp → Prop), Inv X pins σ H s → t σ H Q → wpAny (model X.prog X.w) X.A (isTrue e X.env whole) (TP X pins σ Q) X.xe s
theorem PW.pt {X : Cx} {e : Expr} {t : TT} (h : PW X e t) : PT X e t := h _
def PA (X : Cx) (es : List Expr) (t : TA) : Prop :=
  ∀ (pos : Pos) (pins : List (Addr × Obj)) (s : Shared) (σ : St) (H : Hp) (Q : List V → Hp → Prop), Inv X pins σ H s → t σ H Q → wpAny (model X.prog X.w) X.A (spliced (backTo pos (starEach es X.env))) (AP X pins σ Q) X.xe s
def PS (X : Cx) (st : Stmt) (t : TS) : Prop :=
  ∀ (pins : List (Addr × Obj)) (s : Shared) (σ : St) (H : Hp) (D : Ends), Inv X pins σ H s → t D σ H → wpAny (model X.prog X.w) X.A (exec st X.env) (SP X pins D) X.xe s
def PSs (X : Cx) (st : List Stmt) (t : TS) : Prop :=
  ∀ (pins : List (Addr × Obj)) (s : Shared) (σ : St) (H : Hp) (D : Ends), Inv X pins σ H s → t D σ H → wpAny (model X.prog X.w) X.A (execs st X.env) (SP X pins D) X.xe s
theorem thn {α : Type} {t : Sem α} {Q Q' : α → Shared → Prop} {M : Model} {A : Around} {E : Value → Shared → Prop} {s : Shared} (h : wpAny M A t Q E s) (hQ : ∀ a s, Q a s → Q' a s) : wpAny M A t Q' E s := wpAny_mono h hQ fun _ _ x => x
end L2

namespace L2
open PySem PySem.Spec PyProof.Rows
section
variable {X : Cx}

def tVar (i : Nat) : TE := fun σ H Q => ∃ v, σ[i]? = some (some v) ∧ Q v H
def tC (v : V) : TE := fun _ H Q => Q v H
theorem pe_var {i : Nat} {x : Str} {pos : Pos} (hN : X.N[i]? = some x) (hv : Vis X.env.scope x) (hd : (x == ("__debug__" : Str)) = false := by decide) (hcd : (x == ("__classdict__" : Str)) = false := by decide) : PE X (.Name x pos) (tVar i) := by
  intro pins s σ H Q I h
  obtain ⟨v, e, h⟩ := h
  obtain ⟨m, hn, hl⟩ := I.loc
  obtain ⟨u, r, l⟩ := hl i x v hN e hv
  have fin : EP X pins σ Q u s := ⟨v, H, I, r, h⟩
  rcases l with ⟨hk, hm⟩ | ⟨hk, c, hc, hcell⟩
  · exact wpAny_Name (wpAny_loadName_local I.ok.kind hk hn hm fin) hd
  · rcases hk with hk | hk
    · exact wpAny_Name (wpAny_loadName_cell I.ok.kind hk hc hcell fin) hd
    · exact wpAny_Name (wpAny_loadName_free I.ok.kind hk hc hcell fin hcd) hd
theorem pe_int {i j pos} : PE X (.Constant (.int i) j pos) (tC (.int i)) := fun _ _ _ H _ I h => wpAny_Constant_int ⟨.int i, H, I.tok _, ⟨_, rfl⟩, h⟩
theorem pe_bl {b j pos} : PE X (.Constant (.bool b) j pos) (tC (.bl b)) := fun _ _ _ H _ I h => Constant_bool ⟨.bl b, H, I, rfl, h⟩
theorem pe_str {x j pos} : PE X (.Constant (.str x) j pos) (tC (.str x)) := fun _ _ _ H _ I h => Calls.Constant_str ⟨.str x, H, I.tok _, ⟨_, rfl⟩, h⟩

def Gl (X : Cx) (x : Str) : Prop := X.env.kindOf x = some .globalImplicit
theorem ld_glob {E : Value → Shared → Prop} {pins : List (Addr × Obj)} {s : Shared} {σ : St} {H : Hp} {x : Str} {u : Value} {pos : Pos} {Q : Value → Shared → Prop} (I : Inv X pins σ H s) (hg : Gl X x) (hm : X.mg x = some u) (h : Q u s)
    (hd : (x == ("__debug__" : Str)) = false := by decide) : wpAny (model X.prog X.w) X.A (eval (.Name x pos) X.env) Q E s :=
  Calls.Name_function_global I.ok.kind hg (Calls.loadGlobal_global (by rw [I.ok.glob]; exact I.mod.glob.keeps I.bk) hm h) hd
theorem ld_blt {E : Value → Shared → Prop} {pins : List (Addr × Obj)} {s : Shared} {σ : St} {H : Hp} {x : Str} {u : Value} {pos : Pos} {Q : Value → Shared → Prop} (I : Inv X pins σ H s) (hg : Gl X x) (hm : X.mg x = none) (hv : bootBuiltins x = some u) (h : Q u s)
    (hn : x ≠ "__name__" := by decide) (hd : (x == ("__debug__" : Str)) = false := by decide) : wpAny (model X.prog X.w) X.A (eval (.Name x pos) X.env) Q E s := by
  obtain ⟨mb, h1, h2⟩ := I.mod.blt
  exact Calls.Name_function_global I.ok.kind hg (Calls.loadGlobal_builtin (by rw [I.ok.glob]; exact I.mod.glob.keeps I.bk) hm (by rw [I.ok.blt]; exact h1.keeps I.bk) ((h2 x hn).trans hv) h) hd
theorem pe_glob {x : Str} {v : V} {u : Value} {pos : Pos} (hg : Gl X x) (hm : X.mg x = some u) (r : RelV v u) (hd : (x == ("__debug__" : Str)) = false := by decide) : PE X (.Name x pos) (tC v) :=
  fun _ _ _ H _ I h => ld_glob I hg hm ⟨v, H, I, r, h⟩ hd
theorem pe_bltn {x : Str} {v : V} {u : Value} {pos : Pos} (hg : Gl X x) (hm : X.mg x = none) (hv : bootBuiltins x = some u) (r : RelV v u) (hn : x ≠ "__name__" := by decide) (hd : (x == ("__debug__" : Str)) = false := by decide) : PE X (.Name x pos) (tC v) :=
  fun _ _ _ H _ I h => ld_blt I hg hm hv ⟨v, H, I, r, h⟩ hn hd

variable {a b : Expr} {ta tb : TE} {pos : Pos}
def tB (t : TE) : TT := fun σ H Q => t σ H fun x H1 => ∃ c, x = .bl c ∧ Q c H1
theorem pt_val {e : Expr} {t : TE} (h : PE X e t) (he : ∀ whole, isTrue e X.env whole = (do let v ← whole; standAt e.pos; holding [v] (truthy v)) := by intro _; rfl) : PT X e (tB t) := by
  intro pins s σ H Q I hw
  refine isTrue_plain (thn (h pins s σ H _ I hw) fun v s1 ⟨x, H1, I1, r1, q1⟩ => ?_) (he _)
  obtain ⟨d, rfl, q⟩ := q1
  cases r1
  exact wpAny_truthy_bool ⟨H1, I1, q⟩

variable {tA tB' : TT} {rest : List Expr}
def tAnd (t u : TT) : TT := fun σ H Q => t σ H fun c H1 => if c = true then u σ H1 Q else Q false H1
def tOr (t u : TT) : TT := fun σ H Q => t σ H fun c H1 => if c = true then Q true H1 else u σ H1 Q
def tNot (t : TT) : TT := fun σ H Q => t σ H fun c H1 => Q (!c) H1
theorem pw_and1 (ha : PT X a tA) : PW X (.BoolOp .And [a] pos) tA := by
  intro wh pins s σ H Q I h
  refine isTrue_and (thn (ha pins s σ H Q I h) fun c s1 e => ?_)
  cases c with
  | true => exact isTrue_and_nil e
  | false => exact e
theorem pw_or1 (ha : PT X a tA) : PW X (.BoolOp .Or [a] pos) tA := by
  intro wh pins s σ H Q I h
  refine isTrue_or (thn (ha pins s σ H Q I h) fun c s1 e => ?_)
  cases c with
  | false => exact isTrue_or_nil e
  | true => exact e
theorem pw_and (ha : PT X a tA) (hb : PW X (.BoolOp .And (b :: rest) pos) tB') : PW X (.BoolOp .And (a :: b :: rest) pos) (tAnd tA tB') := by
  intro wh pins s σ H Q I h
  refine isTrue_and (thn (ha pins s σ H _ I h) fun c s1 ⟨H1, I1, q1⟩ => ?_)
  cases c with
  | true => exact hb wh pins s1 σ H1 Q I1 q1
  | false => exact ⟨H1, I1, q1⟩
theorem pw_or (ha : PT X a tA) (hb : PW X (.BoolOp .Or (b :: rest) pos) tB') : PW X (.BoolOp .Or (a :: b :: rest) pos) (tOr tA tB') := by
  intro wh pins s σ H Q I h
  refine isTrue_or (thn (ha pins s σ H _ I h) fun c s1 ⟨H1, I1, q1⟩ => ?_)
  cases c with
  | true => exact ⟨H1, I1, q1⟩
  | false => exact hb wh pins s1 σ H1 Q I1 q1
theorem pt_not (ha : PT X a tA) : PT X (.UnaryOp .Not a pos) (tNot tA) := by
  intro pins s σ H Q I h
  exact isTrue_not (ha pins s σ H (fun c H1 => Q (!c) H1) I h)
def tAndV (ta tb : TE) : TE := fun σ H Q => ta σ H fun x H1 => ∃ c, x = .bl c ∧ if c = true then tb σ H1 Q else Q (.bl false) H1
def tNotV (ta : TE) : TE := fun σ H Q => ta σ H fun x H1 => ∃ c, x = .bl c ∧ Q (.bl (!c)) H1
theorem pe_one {op} {t : TE} (h : PE X a t) : PE X (.BoolOp op [a] pos) t := fun pins s σ H Q I hw => BoolOp_one (h pins s σ H Q I hw)
theorem pe_and (ha : PE X a ta) (hb : PE X (.BoolOp .And (b :: rest) pos) tb) : PE X (.BoolOp .And (a :: b :: rest) pos) (tAndV ta tb) := by
  intro pins s σ H Q I h
  refine BoolOp_and (thn (ha pins s σ H _ I h) fun v s1 ⟨x, H1, I1, r1, q1⟩ => ?_)
  obtain ⟨c, rfl, q1⟩ := q1
  cases r1
  refine wpAny_truthy_bool ?_
  cases c with
  | true => exact hb pins s1 σ H1 Q I1 q1
  | false => exact ⟨.bl false, H1, I1, rfl, q1⟩
theorem pe_not (ha : PE X a ta) : PE X (.UnaryOp .Not a pos) (tNotV ta) := by
  intro pins s σ H Q I h
  refine UnaryOp_ (thn (ha pins s σ H _ I h) fun v s1 ⟨x, H1, I1, r1, q1⟩ => ?_)
  obtain ⟨c, rfl, q1⟩ := q1
  cases r1
  exact not_of (wpAny_truthy_bool ⟨.bl (!c), H1, I1, rfl, q1⟩)
end
end L2

namespace L2
open PySem PySem.Spec PyProof.Rows

def SqL (K : PySem.W.Frag) (H : Hp) (a : Addr) (xs : List V) : Prop :=
  Rd H a (.lst xs) ∨
    ∃ (o : Obj) (its : Array Value) (n : Nat), K.lookup a = some o ∧ o.cls = .type "list" ∧ o.dict = none ∧ o.data = .seq its n ∧ its.size ≤ sizeLine ∧ Vals xs its.toList
def SqT (K : PySem.W.Frag) (H : Hp) (a : Addr) (xs : List V) : Prop :=
  Rd H a (.tup xs) ∨
    ∃ (o : Obj) (its : Array Value) (n : Nat), K.lookup a = some o ∧ o.cls = .type "tuple" ∧ o.data = .seq its n ∧ its.size ≤ sizeLine ∧ Vals xs its.toList
def absV : Value → Option V
  | .none => some .non
  | .bool b => some (.bl b)
  | .int i _ => some (.int i)
  | .str x _ => some (.str x)
  | .bytes b _ => some (.byt b)
  | .float b _ => some (.flt b)
  | .ref a => some (.ref a)
  | .type n => some (.ty n)
  | _ => none
theorem RelV.abs {x : V} {u : Value} (r : RelV x u) : absV u = some x := by
  cases x with
  | non => cases r; rfl
  | bl _ => cases r; rfl
  | int _ => obtain ⟨t, rfl⟩ := r; rfl
  | str _ => obtain ⟨t, rfl⟩ := r; rfl
  | byt _ => obtain ⟨t, rfl⟩ := r; rfl
  | flt _ => obtain ⟨t, rfl⟩ := r; rfl
  | ref _ => cases r; rfl
  | ty _ => cases r; rfl
theorem RelV.inj {x y : V} {u : Value} (r : RelV x u) (q : RelV y u) : x = y := Option.some.inj (r.abs.symm.trans q.abs)
theorem Vals.inj : ∀ {xs ys : List V} {us : List Value}, Vals xs us → Vals ys us → xs = ys
  | _, _, _, .nil, .nil => rfl
  | _, _, _, .cons r t, .cons r' t' => by rw [r.inj r', Vals.inj t t']
section
variable {X : Cx} {pins : List (Addr × Obj)} {σ : St} {H : Hp} {s : Shared} {a : Addr} {xs ys : List V}
theorem SqL.of {K : PySem.W.Frag} (h : H a = some (.lst xs)) : SqL K H a xs := .inl (.inl h)
theorem SqT.of {K : PySem.W.Frag} (h : H a = some (.tup xs)) : SqT K H a xs := .inl (.inl h)
theorem Inv.list (I : Inv X pins σ H s) (h : SqL X.K H a xs) : ∃ its : List Value, Vals xs its ∧ PlainL s.heap a its.toArray ∧ xs.length ≤ sizeLine := by
  rcases h with h | ⟨o, its, n, hk, hc, hd, hs, hz, r⟩
  · obtain ⟨z, its, n, r, e⟩ := h.ok I.hok
    exact ⟨its, r, ⟨_, n, e, rfl, rfl, rfl⟩, z⟩
  · refine ⟨its.toList, r, ⟨o, n, I.kIn a o hk, hc, hd, by simpa using hs⟩, ?_⟩
    have e := r.length
    simp only [Array.length_toList] at e
    omega
theorem Inv.tuple (I : Inv X pins σ H s) (h : SqT X.K H a xs) : ∃ its : List Value, Vals xs its ∧ IsTup s.heap a its.toArray ∧ xs.length ≤ sizeLine := by
  rcases h with h | ⟨o, its, n, hk, hc, hs, hz, r⟩
  · obtain ⟨z, its, r, p⟩ := h.ok I.hok
    exact ⟨its, r, p, z⟩
  · refine ⟨its.toList, r, ⟨o, I.kIn a o hk, hc, n, by simpa using hs⟩, ?_⟩
    have e := r.length
    simp only [Array.length_toList] at e
    omega
theorem Inv.list_inj (I : Inv X pins σ H s) (h : SqL X.K H a xs) (h' : SqL X.K H a ys) : xs = ys := by
  obtain ⟨its, r, ⟨o, n, e, _, _, d⟩, _⟩ := I.list h
  obtain ⟨its', r', ⟨o', n', e', _, _, d'⟩, _⟩ := I.list h'
  rw [e] at e'; cases e'
  rw [d] at d'
  injection d' with d1 _
  have : its = its' := by simpa using congrArg Array.toList d1
  subst this
  exact r.inj r'
theorem Inv.tuple_inj (I : Inv X pins σ H s) (h : SqT X.K H a xs) (h' : SqT X.K H a ys) : xs = ys := by
  obtain ⟨its, r, ⟨o, e, _, n, d⟩, _⟩ := I.tuple h
  obtain ⟨its', r', ⟨o', e', _, n', d'⟩, _⟩ := I.tuple h'
  rw [e] at e'; cases e'
  rw [d] at d'
  injection d' with d1 _
  have : its = its' := by simpa using congrArg Array.toList d1
  subst this
  exact r.inj r'
end

abbrev Cx.wish (X : Cx) (E : Value → Shared → Prop) : Cx := { X with xe := E }
abbrev Cx.nox (X : Cx) : Cx := X.wish fun _ _ => False
theorem Cx.Ok.wish {X : Cx} (ok : X.Ok) (E : Value → Shared → Prop) : (X.wish E).Ok :=
  ⟨ok.mod, ok.kind, ok.glob, ok.blt, ok.above, ok.inj, ok.has, ok.cab, ok.hd, ok.frames, ok.stk, ok.exf, ok.bs, ok.bsz, ok.noex, ok.exfs, ok.funs, ok.frf⟩
theorem Cx.Ok.unwish {X : Cx} {E : Value → Shared → Prop} (ok : (X.wish E).Ok) : X.Ok :=
  ⟨ok.mod, ok.kind, ok.glob, ok.blt, ok.above, ok.inj, ok.has, ok.cab, ok.hd, ok.frames, ok.stk, ok.exf, ok.bs, ok.bsz, ok.noex, ok.exfs, ok.funs, ok.frf⟩
section
variable {X : Cx} {pins : List (Addr × Obj)} {σ : St} {H : Hp} {s : Shared} {E : Value → Shared → Prop}
theorem Inv.wish (I : Inv X pins σ H s) (E : Value → Shared → Prop) : Inv (X.wish E) pins σ H s := ⟨I.ok.wish E, I.os, I.bare, I.base, I.loc, I.cell, I.free, I.freeC, I.pin, I.hok, I.len⟩
theorem Inv.unwish (I : Inv (X.wish E) pins σ H s) : Inv X pins σ H s := ⟨I.ok.unwish, I.os, I.bare, I.base, I.loc, I.cell, I.free, I.freeC, I.pin, I.hok, I.len⟩
theorem SP.unwish {D : Ends} {f : Flow} {s' : Shared} (h : SP (X.wish E) pins D f s') : SP X pins D f s' := by
  cases f with
  | next => obtain ⟨σ', H', I, q⟩ := h; exact ⟨σ', H', I.unwish, q⟩
  | brk => obtain ⟨σ', H', I, q⟩ := h; exact ⟨σ', H', I.unwish, q⟩
  | cont => obtain ⟨σ', H', I, q⟩ := h; exact ⟨σ', H', I.unwish, q⟩
  | ret u => obtain ⟨v, σ', H', I, r, q⟩ := h; exact ⟨v, σ', H', I.unwish, r, q⟩
theorem PSs.nox {st : List Stmt} {t : TS} (h : PSs X.nox st t) : PSs X st t := fun pins s σ H D I hw =>
  wpAny_mono (h pins s σ H D (I.wish _) hw) (fun _ _ q => q.unwish) fun _ _ z => False.elim z
end

section
variable {X : Cx} {st : Stmt} {rest : List Stmt} {t u : TS} {e : Expr} {te : TE} {pos : Pos}
def tNext : TS := fun D σ H => D.nx σ H
def tSeq (t u : TS) : TS := fun D σ H => t { D with nx := u D } σ H
theorem pss_nil : PSs X [] tNext := fun _ _ σ H _ I h => wpAny_execs_nil ⟨σ, H, I, h⟩
theorem pss_cons (h1 : PS X st t) (h2 : PSs X rest u) : PSs X (st :: rest) (tSeq t u) := by
  intro pins s σ H D I h
  refine wpAny_execs_cons (thn (h1 pins s σ H { D with nx := u D } I h) fun f s1 q => ?_)
  cases f with
  | next =>
    obtain ⟨σ', H', I', q⟩ := q
    exact h2 pins s1 σ' H' D I' q
  | ret v => exact q
  | brk => exact q
  | cont => exact q
theorem pss_one (h1 : PS X st t) : PSs X [st] t := by
  intro pins s σ H D I h
  refine wpAny_execs_cons (thn (h1 pins s σ H D I h) fun f s1 q => ?_)
  cases f with
  | next => exact wpAny_execs_nil q
  | ret v => exact q
  | brk => exact q
  | cont => exact q
theorem Inv.quiet {pins : List (Addr × Obj)} {σ : St} {H : Hp} {s : Shared} (I : Inv X pins σ H s) : interactive X.env = false := by simp [interactive, I.ok.kind]
def tDrop (te : TE) : TS := fun D σ H => te σ H fun _ H1 => D.nx σ H1
theorem ps_expr (he : PE X e te) (hs : swapsWith e none pos.line X.env = pure false := by rfl) : PS X (.Expr e pos) (tDrop te) := by
  intro pins s σ H D I h
  exact wpAny_Expr_any (thn (he pins s σ H _ I h) fun v s1 ⟨x, H1, I1, r1, q1⟩ => ⟨σ, H1, I1, q1⟩) I.quiet hs
def tRet (te : TE) : TS := fun D σ H => te σ H D.rt
theorem ps_ret (he : PE X e te) : PS X (.Return (some e) pos) (tRet te) := by
  intro pins s σ H D I h
  exact wpAny_Return_some (thn (he pins s σ H _ I h) fun v s1 ⟨x, H1, I1, r1, q1⟩ => ⟨x, σ, H1, I1, r1, q1⟩)
def tIfS (c : TT) (t u : TS) : TS := fun D σ H => c σ H fun b H1 => if b = true then t D σ H1 else u D σ H1
theorem ps_if {c : Expr} {a b : List Stmt} {tc : TT} (hc : PT X c tc) (ha : PSs X a t) (hb : PSs X b u) : PS X (.If c a b pos) (tIfS tc t u) := by
  intro pins s σ H D I h
  refine wpAny_If (thn (hc pins s σ H _ I h) fun d s1 ⟨H1, I1, q1⟩ => ?_)
  cases d with
  | true => exact ha pins s1 σ H1 D I1 q1
  | false => exact hb pins s1 σ H1 D I1 q1
def tNever : TS := fun _ _ _ => False
theorem ps_never : PS X st tNever := fun _ _ _ _ _ _ h => h.elim
end

abbrev TG := V → St → Hp → (St → Hp → Prop) → Prop
def PG (X : Cx) (target : Expr) (t : TG) : Prop :=
  ∀ (pins : List (Addr × Obj)) (s : Shared) (σ : St) (H : Hp) (v : V) (u : Value) (Q : St → Hp → Prop), Inv X pins σ H s → RelV v u → t v σ H Q →
    wpAny (model X.prog X.w) X.A (assign target X.env u) (fun _ s' => ∃ σ' H', Inv X pins σ' H' s' ∧ Q σ' H') X.xe s
section
variable {X : Cx} {pos : Pos}
def gName (i : Nat) : TG := fun v σ H Q => Q (σ.set i (some v)) H
theorem pg_name {i : Nat} {x : Str} (hN : X.N.Nodup) (hi : X.N[i]? = some x) (hx : Loc X.env.scope x) (hf : X.fn x = true ∨ X.env.scope.names.lookup x = some .local := by first | exact .inl rfl | exact .inr rfl | assumption) : PG X (.Name x pos) (gName i) := by
  intro pins s σ H v u Q I r h
  exact wpAny_assign_Name (store_ok I hN hi hx r (fun s' I' => ⟨_, H, I', h⟩) hf)
def tAsg (te : TE) (g : TG) : TS := fun D σ H => te σ H fun x H1 => g x σ H1 D.nx
theorem ps_set {i : Nat} {x : Str} {e : Expr} {te : TE} {pos' : Pos} (hN : X.N.Nodup) (hi : X.N[i]? = some x) (hx : Loc X.env.scope x) (he : PE X e te) (hs : swapsWith e (some (.Name x pos')) pos.line X.env = pure false := by rfl) (hf : X.fn x = true ∨ X.env.scope.names.lookup x = some .local := by first | exact .inl rfl | exact .inr rfl | assumption) :
    PS X (.Assign [.Name x pos'] e pos) (tAsg te (gName i)) := by
  intro pins s σ H D I h
  refine wpAny_Assign_Name (thn (he pins s σ H _ I h) fun v s1 ⟨y, H1, I1, r1, q1⟩ => ?_) hs
  exact store_ok I1 hN hi hx r1 (fun s2 I2 => ⟨_, H1, I2, q1⟩) hf
end

section
variable {X : Cx} {pos : Pos}
end

structure It where
  go : Nat → Hp → Prop
  yld : Nat → Hp → V → Hp → Prop
  stop : Nat → Hp → Prop
def FpOk (X : Cx) (pins : List (Addr × Obj)) (H : Hp) (b : Addr) : Prop :=
  H b = none ∧ b ≠ X.env.locals ∧ b ∉ X.fs ∧ (b ∈ X.ex ∨ X.s₀.heap.objs.size ≤ b) ∧ (∀ x c, X.env.cells.lookup x = some c → c ≠ b) ∧ ∀ p ∈ X.pn ++ pins, p.1 ≠ b
theorem Inv.fpOk {X : Cx} {pins : List (Addr × Obj)} {σ : St} {H H' : Hp} {s : Shared} {b : Addr} (I : Inv X pins σ H s) (hb : s.heap.objs.size ≤ b) (hn : H' b = none) : FpOk X pins H' b := by
  refine ⟨hn, Nat.ne_of_gt (Nat.lt_of_lt_of_le I.lt hb), I.nofs hb, .inr (Nat.le_trans I.sz hb), fun x c e z => ?_, fun p hp z => ?_⟩
  · obtain ⟨v, q⟩ := I.cell x c e
    exact absurd (Nat.lt_of_lt_of_le q.lt (by rw [z]; exact hb)) (Nat.lt_irrefl _)
  · exact absurd (Nat.lt_of_lt_of_le (Heap.lt_size (I.pin p hp).1) (by rw [z]; exact hb)) (Nat.lt_irrefl _)
structure Turn (P : Program) (w : World) (K : PySem.W.Frag) (tg : Expr) (J : It) (fp : List Addr) (it : Addr) (tn : Nat → Heap → Prop) : Prop where
  mem : it ∈ fp
  obj : ∀ i h, tn i h → ∀ b ∈ fp, ∃ o, h.get? b = some o ∧ ∀ v, o.data ≠ .cell v
  keep : ∀ i h h', tn i h → (∀ b ∈ fp, ∀ o, h.get? b = some o → h'.get? b = some o) → tn i h'
  item : ∀ (X : Cx), X.prog = P → X.w = w → X.K = K → X.calm = true → ∀ (i : Nat) (pins : List (Addr × Obj)) (s : Shared) (σ : St) (H : Hp) (E : Value → Shared → Prop), Inv X pins σ H s → (∀ b ∈ fp, FpOk X pins H b) → tn i s.heap → J.go i H →
    wpAny (model P w) X.A (pyNext (.ref it)) (fun r s1 => ∃ u, r = some u ∧
      wpAny (model P w) X.A (letOwnedTupleGo tg (.ref it) u) (fun _ s2 => ∃ x H', Inv X pins σ H' s2 ∧ RelV x u ∧ J.yld i H x H' ∧ tn (i + 1) s2.heap ∧ ∀ b ∈ fp, H' b = none) E s1) E s
  done : ∀ (X : Cx), X.prog = P → X.w = w → X.K = K → X.calm = true → ∀ (i : Nat) (pins : List (Addr × Obj)) (s : Shared) (σ : St) (H : Hp) (E : Value → Shared → Prop), Inv X pins σ H s → (∀ b ∈ fp, FpOk X pins H b) → tn i s.heap → J.stop i H →
    wpAny (model P w) X.A (pyNext (.ref it)) (fun r s1 => r = none ∧ Inv X pins σ H s1) E s
  self : ∀ (A : Around) (i : Nat) (s : Shared) (Q : Value → Shared → Prop) (E : Value → Shared → Prop), tn i s.heap → Q (.ref it) s → wpAny (model P w) A (pyIter (.ref it)) Q E s
abbrev TI := St → Hp → (It → Hp → Prop) → Prop
def PIE (X : Cx) (pins : List (Addr × Obj)) (σ : St) (tg : Expr) (R : It → Hp → Prop) (itv : Value) (s2 : Shared) : Prop :=
  ∃ (it : Addr) (fp : List Addr) (tn : Nat → Heap → Prop) (J : It) (H' : Hp), itv = .ref it ∧ Inv X pins σ H' s2 ∧ Turn X.prog X.w X.K tg J fp it tn ∧ tn 0 s2.heap ∧ (∀ b ∈ fp, FpOk X pins H' b) ∧ R J H'
def PI (X : Cx) (tg iter : Expr) (wi : TI) : Prop :=
  ∀ (pins : List (Addr × Obj)) (s : Shared) (σ : St) (H : Hp) (R : It → Hp → Prop), Inv X pins σ H s → wi σ H R →
    wpAny (model X.prog X.w) X.A (eval iter X.env) (fun v s1 => wpAny (model X.prog X.w) X.A (pyIter v) (PIE X pins σ tg R) X.xe s1) X.xe s

theorem go_of {M : Model} {A : Around} {E : Value → Shared → Prop} {s : Shared} {tg : Expr} {it : Addr} {u : Value} {o : Obj} {n : String} {vs : Array Value} {Q : Unit → Shared → Prop} (ho : s.heap.get? it = some o) (hc : o.cls = .type n) (hd : o.data = .fields vs)
    (hn : ["enumerate", "zip", "dict_itemiterator", "dict_reverseitemiterator", "odict_iterator", "itertools.zip_longest", "itertools.pairwise"].contains n = false) (hQ : Q () s) : wpAny M A (letOwnedTupleGo tg (.ref it) u) Q E s := by
  unfold letOwnedTupleGo
  cases tg <;> first
    | exact wpAny_pure hQ
    | (cases u <;> first
        | exact wpAny_pure hQ
        | (refine wpAny_bind (wpAny_load ho ?_)
           rw [hc, hd]
           show wpAny M A (if (["enumerate", "zip", "dict_itemiterator", "dict_reverseitemiterator", "odict_iterator", "itertools.zip_longest", "itertools.pairwise"].contains n && vs[0]? == some (rawInt _)) = true then _ else _) Q E s
           rw [if_neg (by intro h; rw [hn, Bool.false_and] at h; cases h)]
           exact wpAny_pure hQ))

def Itl (K : PySem.W.Frag) (a : Addr) : It :=
  ⟨fun i H => ∃ xs x, SqL K H a xs ∧ xs[i]? = some x, fun i H x H' => H' = H ∧ ∀ xs, SqL K H a xs → xs[i]? = some x, fun i H => ∃ xs, SqL K H a xs ∧ xs.length ≤ i⟩
def Itt (K : PySem.W.Frag) (a : Addr) : It :=
  ⟨fun i H => ∃ xs x, SqT K H a xs ∧ xs[i]? = some x, fun i H x H' => H' = H ∧ ∀ xs, SqT K H a xs → xs[i]? = some x, fun i H => ∃ xs, SqT K H a xs ∧ xs.length ≤ i⟩
def Itr (lo : Int) (n : Nat) : It := ⟨fun i _ => i < n, fun i H x H' => H' = H ∧ x = .int (lo + i), fun i _ => n ≤ i⟩
theorem turn_list {P : Program} {w : World} {K : PySem.W.Frag} {tg : Expr} (a it : Addr) : Turn P w K tg (Itl K a) [it] it (fun i h => h.IsListIter it a i) where
  mem := by simp
  obj := fun i h st b hb => by
    have e : b = it := by simpa using hb
    subst e
    obtain ⟨o, e, c, d⟩ := st
    exact ⟨o, e, fun v z => by rw [d] at z; cases z⟩
  keep := fun i h h' st k => st.at fun o e => k it (by simp) o e
  item := by
    intro X hP hw hK hc i pins s σ H E I hf st hg
    subst hP hw hK
    obtain ⟨xs, x, hq, hx⟩ := hg
    obtain ⟨its, rv, p, hz⟩ := I.list hq
    obtain ⟨u, hu, ru⟩ := rv.get hx
    obtain ⟨f0, f1, f2, f3, f4, f5⟩ := hf it (by simp)
    refine wpAny_pyNext_list_item st p.isList (x := u) (by simpa using hu) fun h' st' sb => ?_
    have I1 : Inv X pins σ H { s with heap := h' } := I.turned (t' := s.toks) (fun b o hb e => (sb.2 b hb).trans e) f0 f1 f3 f4 f5
    obtain ⟨o, e, c, d⟩ := id st'
    exact ⟨u, rfl, go_of (s := { s with heap := h' }) e c d (by decide) ⟨x, H, I1, ru, ⟨rfl, fun ys hy => by rw [I.list_inj hy hq]; exact hx⟩, st', fun b hb => (hf b hb).1⟩⟩
  done := by
    intro X hP hw hK hc i pins s σ H E I hf st hg
    subst hP hw hK
    obtain ⟨xs, hq, hx⟩ := hg
    obtain ⟨its, rv, p, hz⟩ := I.list hq
    obtain ⟨f0, f1, f2, f3, f4, f5⟩ := hf it (by simp)
    have hl := rv.length
    exact wpAny_pyNext_list_end (I.ok.hd hc) st p.isList (by simp; omega) fun h' eb => ⟨rfl, I.turned (t' := s.toks) (fun b o hb e => eb b o hb e) f0 f1 f3 f4 f5⟩
  self := fun _ _ _ _ _ st h => wpAny_pyIter_listiter st h
theorem turn_tuple {P : Program} {w : World} {K : PySem.W.Frag} {tg : Expr} (a it : Addr) : Turn P w K tg (Itt K a) [it] it (fun i h => h.IsTupleIter it a i) where
  mem := by simp
  obj := fun i h st b hb => by
    have e : b = it := by simpa using hb
    subst e
    obtain ⟨o, e, c, d⟩ := st
    exact ⟨o, e, fun v z => by rw [d] at z; cases z⟩
  keep := fun i h h' st k => st.at fun o e => k it (by simp) o e
  item := by
    intro X hP hw hK hc i pins s σ H E I hf st hg
    subst hP hw hK
    obtain ⟨xs, x, hq, hx⟩ := hg
    obtain ⟨its, rv, p, hz⟩ := I.tuple hq
    obtain ⟨u, hu, ru⟩ := rv.get hx
    obtain ⟨f0, f1, f2, f3, f4, f5⟩ := hf it (by simp)
    refine wpAny_pyNext_tuple_item st (show s.heap.IsTuple a its.toArray from p) (x := u) (by simpa using hu) fun h' st' sb => ?_
    have I1 : Inv X pins σ H { s with heap := h' } := I.turned (t' := s.toks) (fun b o hb e => (sb.2 b hb).trans e) f0 f1 f3 f4 f5
    obtain ⟨o, e, c, d⟩ := id st'
    exact ⟨u, rfl, go_of (s := { s with heap := h' }) e c d (by decide) ⟨x, H, I1, ru, ⟨rfl, fun ys hy => by rw [I.tuple_inj hy hq]; exact hx⟩, st', fun b hb => (hf b hb).1⟩⟩
  done := by
    intro X hP hw hK hc i pins s σ H E I hf st hg
    subst hP hw hK
    obtain ⟨xs, hq, hx⟩ := hg
    obtain ⟨its, rv, p, hz⟩ := I.tuple hq
    obtain ⟨f0, f1, f2, f3, f4, f5⟩ := hf it (by simp)
    have hl := rv.length
    exact wpAny_pyNext_tuple_end (I.ok.hd hc) st (show s.heap.IsTuple a its.toArray from p) (by simp; omega) fun h' eb => ⟨rfl, I.turned (t' := s.toks) (fun b o hb e => eb b o hb e) f0 f1 f3 f4 f5⟩
  self := fun _ _ _ _ _ st h => wpAny_pyIter_tupleiter st h
theorem turn_range {P : Program} {w : World} {K : PySem.W.Frag} {tg : Expr} (it : Addr) (lo : Int) (n : Nat) : Turn P w K tg (Itr lo n) [it] it (fun i h => IsRangeIter h it (lo + (i : Nat) * 1) ((n : Int) - (i : Nat)) 1) where
  mem := by simp
  obj := fun i h st b hb => by
    have e : b = it := by simpa using hb
    subst e
    exact ⟨_, st, fun v z => by
      have z' : Data.fields _ = Data.cell v := z
      cases z'⟩
  keep := fun i h h' st k => k it (by simp) _ st
  item := by
    intro X hP hw hK hc i pins s σ H E I hf st hg
    subst hP hw hK
    obtain ⟨f0, f1, f2, f3, f4, f5⟩ := hf it (by simp)
    have W := Walks.range (prog := X.prog) (w := X.w) (I.ok.hd hc) it lo 1 n
    refine W.item i s _ _ hg st fun v h' tk hv st' kk => ?_
    obtain ⟨t, rfl⟩ := hv
    have I1 : Inv X pins σ H { s with heap := h', toks := tk } := I.turned (fun b o hb e => kk b o (by simpa using hb) e) f0 f1 f3 f4 f5
    refine ⟨_, rfl, go_of (s := { s with heap := h', toks := tk }) (n := "range_iterator") st' rfl rfl (by decide) ⟨.int (lo + i), H, I1, ⟨t, ?_⟩, ⟨rfl, rfl⟩, st', fun b hb => (hf b hb).1⟩⟩
    rw [Int.mul_one]
  done := by
    intro X hP hw hK hc i pins s σ H E I hf st hg
    subst hP hw hK
    obtain ⟨f0, f1, f2, f3, f4, f5⟩ := hf it (by simp)
    exact wpAny_pyNext_range_end (I.ok.hd hc) st (by have : n ≤ i := hg; omega) fun h' eb => ⟨rfl, I.turned (t' := s.toks) (fun b o hb e => eb b o hb e) f0 f1 f3 f4 f5⟩
  self := fun _ _ _ _ _ st h => wpAny_pyIter_rangeiter st h
end L2

namespace L2
open PySem PySem.Spec PyProof.Rows
section
variable {X : Cx} {tg : Expr}
def iList (K : PySem.W.Frag) (tl : TE) : TI := fun σ H R => tl σ H fun x H1 => ∃ a, x = .ref a ∧ (∃ xs, SqL K H1 a xs) ∧ R (Itl K a) H1
def iTup (K : PySem.W.Frag) (tl : TE) : TI := fun σ H R => tl σ H fun x H1 => ∃ a, x = .ref a ∧ (∃ xs, SqT K H1 a xs) ∧ R (Itt K a) H1
theorem pi_list {l : Expr} {tl : TE} (hl : PE X l tl) : PI X tg l (iList X.K tl) := by
  intro pins s σ H R I h
  refine thn (hl pins s σ H _ I h) fun v s1 ⟨x, H1, I1, r1, q1⟩ => ?_
  obtain ⟨a, e, ⟨xs, hq⟩, q⟩ := q1
  subst e
  cases r1
  obtain ⟨its, rv, p, hz⟩ := I1.list hq
  refine wpAny_pyIter_list p.isList ?_
  refine ⟨s1.heap.objs.size, [s1.heap.objs.size], _, _, H1, rfl, I1.kept (t' := s1.toks) fun b o e => Heap.get?_push_of_some _ e, turn_list a _, ⟨_, Heap.get?_push_size _ rfl, rfl, rfl⟩, fun b hb => ?_, q⟩
  have e : b = s1.heap.objs.size := by simpa using hb
  subst e
  exact I1.fpOk (Nat.le_refl _) (I1.hok.fresh (Nat.le_refl _))
theorem pi_tup {l : Expr} {tl : TE} (hl : PE X l tl) : PI X tg l (iTup X.K tl) := by
  intro pins s σ H R I h
  refine thn (hl pins s σ H _ I h) fun v s1 ⟨x, H1, I1, r1, q1⟩ => ?_
  obtain ⟨a, e, ⟨xs, hq⟩, q⟩ := q1
  subst e
  cases r1
  obtain ⟨its, rv, p, hz⟩ := I1.tuple hq
  refine wpAny_pyIter_tuple (show s1.heap.IsTuple a its.toArray from p) ?_
  refine ⟨s1.heap.objs.size, [s1.heap.objs.size], _, _, H1, rfl, I1.kept (t' := s1.toks) fun b o e => Heap.get?_push_of_some _ e, turn_tuple a _, ⟨_, Heap.get?_push_size _ rfl, rfl, rfl⟩, fun b hb => ?_, q⟩
  have e : b = s1.heap.objs.size := by simpa using hb
  subst e
  exact I1.fpOk (Nat.le_refl _) (I1.hok.fresh (Nat.le_refl _))
theorem range_it {pins : List (Addr × Obj)} {σ : St} {H : Hp} {s : Shared} {R : It → Hp → Prop} {E : Value → Shared → Prop} {lo hi : Int} {t u v : Tok} {tk : Nat} (I : Inv X pins σ H s) (h1 : -(2 ^ 62) ≤ lo) (h2 : lo < 2 ^ 62) (h3 : -(2 ^ 62) ≤ hi) (h4 : hi < 2 ^ 62)
    (q : R (Itr lo (hi - lo).toNat) H) : wpAny (model X.prog X.w) X.A (pyIter (.ref s.heap.objs.size)) (PIE X pins σ tg R) E { s with heap := s.heap.push { cls := .type "range", data := .fields #[.int lo t, .int hi u, .int 1 v] }, toks := tk } := by
  refine wpAny_pyIter_range (IsRange.new ..) (small_one h1 h2 h3 h4) ?_
  have I1 : Inv X pins σ H { s with heap := s.heap.push { cls := .type "range", data := .fields #[.int lo t, .int hi u, .int 1 v] }, toks := tk } := I.kept fun b o e => Heap.get?_push_of_some _ e
  refine ⟨(s.heap.push { cls := .type "range", data := .fields #[.int lo t, .int hi u, .int 1 v] }).objs.size, [(s.heap.push { cls := .type "range", data := .fields #[.int lo t, .int hi u, .int 1 v] }).objs.size], _, _, H, rfl,
    I1.kept (t' := tk) fun b o e => Heap.get?_push_of_some _ e, turn_range _ lo (hi - lo).toNat, ?_, fun b hb => ?_, q⟩
  · have e1 : lo + ((0 : Nat) : Int) * 1 = lo := by simp
    have e2 : (((hi - lo).toNat : Nat) : Int) - ((0 : Nat) : Int) = Builtin.Range.rangeSize lo hi 1 := by rw [rangeSize_one]; split <;> omega
    show IsRangeIter _ _ (lo + ((0 : Nat) : Int) * 1) ((((hi - lo).toNat : Nat) : Int) - ((0 : Nat) : Int)) 1
    rw [e1, e2]
    exact Heap.get?_push_size _ rfl
  · have e : b = (s.heap.push { cls := .type "range", data := .fields #[.int lo t, .int hi u, .int 1 v] }).objs.size := by simpa using hb
    subst e
    exact I1.fpOk (Nat.le_refl _) (I1.hok.fresh (Nat.le_refl _))
def iRng1 (ta : TA) : TI := fun σ H R => ta σ H fun vs H1 => ∃ j : Int, vs = [.int j] ∧ -(2 ^ 62) ≤ j ∧ j < 2 ^ 62 ∧ R (Itr 0 j.toNat) H1
theorem pi_range1 {a : Expr} {ta : TA} {p pos : Pos} (hg : Gl X "range") (hm : X.mg "range" = none) (ha : PA X [a] ta) (hs : starEach [a] X.env = [(false, eval a X.env)] := by rfl) : PI X tg (.Call (.Name "range" p) [a] [] pos) (iRng1 ta) := by
  intro pins s σ H R I h
  refine Call_ (ld_blt I hg hm boot_range (PyProof.Rows.callWith_type1 (thn (ha pos pins s σ H _ I h) fun us s1 ⟨vs, H1, I1, r1, q1⟩ => ?_) hs rfl))
  obtain ⟨j, e, q1, q2, q⟩ := q1
  subst e
  cases r1 with
  | cons r rr =>
    cases rr
    obtain ⟨t, rfl⟩ := r
    exact call_range_1 (range_it I1 (by omega) (by omega) q1 q2 (by simpa using q))
def tFor (wi : TI) (g : TG) (tb : TS) : TS := fun D σ H => wi σ H fun J H1 => ∃ W : Nat → Nat → St → Hp → Prop, (∃ m, W 0 m σ H1) ∧ ∀ i m σ H, W i m σ H →
  (J.stop i H ∧ D.nx σ H) ∨ (J.go i H ∧ ∃ N : St → Hp → Prop, (∀ σ' H', N σ' H' → ∃ m', m' < m ∧ W (i + 1) m' σ' H') ∧ ∀ x H', J.yld i H x H' → g x σ H' fun σ2 H2 => tb { D with nx := N, ct := N, bk := D.nx } σ2 H2)
def pinsAt (fp : List Addr) (h : Heap) : List (Addr × Obj) := fp.filterMap fun b => (h.get? b).map fun o => (b, o)
theorem mem_pinsAt {fp : List Addr} {h : Heap} {b : Addr} {o : Obj} (hb : b ∈ fp) (e : h.get? b = some o) : (b, o) ∈ pinsAt fp h := List.mem_filterMap.mpr ⟨b, hb, by rw [e]; rfl⟩
theorem of_pinsAt {fp : List Addr} {h : Heap} {p : Addr × Obj} (hp : p ∈ pinsAt fp h) : p.1 ∈ fp ∧ h.get? p.1 = some p.2 := by
  obtain ⟨b, hb, e⟩ := List.mem_filterMap.mp hp
  cases q : h.get? b with
  | none => rw [q] at e; cases e
  | some o =>
    rw [q] at e
    have e' : (b, o) = p := Option.some.inj e
    subst e'
    exact ⟨hb, q⟩
theorem Inv.pinned {pins : List (Addr × Obj)} {σ : St} {H : Hp} {s : Shared} {fp : List Addr} (I : Inv X pins σ H s) (hf : ∀ b ∈ fp, FpOk X pins H b) (ho : ∀ b ∈ fp, ∃ o, s.heap.get? b = some o ∧ ∀ v, o.data ≠ .cell v) : Inv X (pins ++ pinsAt fp s.heap) σ H s :=
  I.pins_of fun p hp => (List.mem_append.mp hp).elim (fun z => I.pin p (List.mem_append_right _ z)) fun z => by
    obtain ⟨hb, e⟩ := of_pinsAt z
    obtain ⟨f0, f1, f2, _⟩ := hf p.1 hb
    obtain ⟨o, e', d⟩ := ho p.1 hb
    rw [e] at e'; cases e'
    exact ⟨e, f0, f1, f2, d⟩
theorem Inv.unpinned {pins pl : List (Addr × Obj)} {σ : St} {H : Hp} {s : Shared} (I : Inv X (pins ++ pl) σ H s) : Inv X pins σ H s := I.pins_of fun p hp => I.pin p (List.mem_append_right _ (List.mem_append_left _ hp))
theorem ps_for {iter : Expr} {body : List Stmt} {wi : TI} {g : TG} {tb : TS} {pos : Pos} (hp : PassesOwn (model X.prog X.w) X.A X.env X.xe) (hc : X.calm = true) (hi : PI X tg iter wi) (hg : PG X tg g) (hb : PSs X body tb)
    (hs : ∀ x, foldedSetIterable iter X.env x = pure x := by intro _; rfl) : PS X (.For tg iter body [] pos) (tFor wi g tb) := by
  intro pins s σ H D I h
  refine wpAny_For (thn (hi pins s σ H _ I h) fun v s1 h1 => thn h1 fun itv s2 h2 => ?_) hs
  obtain ⟨it, fp, tn, J, H2, e, I2, T, st2, f2, W, ⟨m0, w0⟩, turn⟩ := h2
  subst e
  -- what stays true of the iterator's objects through the loop
  have stat : ∀ {H' : Hp}, (∀ b ∈ fp, H' b = none) → ∀ b ∈ fp, FpOk X pins H' b := fun hn b hb => ⟨hn b hb, (f2 b hb).2⟩
  refine codeAny_forLoop_any (fun n s' => ∃ i σ' H', Inv X pins σ' H' s' ∧ tn i s'.heap ∧ (∀ b ∈ fp, H' b = none) ∧ W i n σ' H') ?_ m0 ⟨0, σ, H2, I2, st2, fun b hb => (f2 b hb).1, w0⟩
  rintro n s3 ⟨i, σ3, H3, I3, st3, fr3, w3⟩
  rcases turn i n σ3 H3 w3 with ⟨stop, qn⟩ | ⟨go, N, hN, step⟩
  · refine wpAny_passesOwn hp (thn (T.done X rfl rfl rfl hc i pins s3 σ3 H3 X.xe I3 (stat fr3) st3 stop) fun r s4 ⟨hr, I4⟩ => ?_)
    subst hr
    exact wpAny_execs_nil ⟨σ3, H3, I4, qn⟩
  · refine wpAny_passesOwn hp (thn (T.item X rfl rfl rfl hc i pins s3 σ3 H3 X.xe I3 (stat fr3) st3 go) fun r s4 ⟨u, hr, h4⟩ => ?_)
    subst hr
    refine wpAny_passesOwn hp (thn h4 fun _ s5 ⟨x, H5, I5, r5, y5, st5, fr5⟩ => ?_)
    have I5' := I5.pinned (stat fr5) (T.obj _ _ st5)
    refine wpAny_passesOwn hp (thn (hg _ s5 σ3 H5 x u _ I5' r5 (step x H5 y5)) fun _ s6 ⟨σ6, H6, I6, q6⟩ => ?_)
    refine wpAny_passesOwn hp (thn (hb _ s6 σ6 H6 _ I6 q6) fun f s7 q7 => ?_)
    have again : ∀ {σ7 : St} {H7 : Hp}, Inv X (pins ++ pinsAt fp s5.heap) σ7 H7 s7 → N σ7 H7 → ∃ m, m < n ∧ ∃ i σ' H', Inv X pins σ' H' s7 ∧ tn i s7.heap ∧ (∀ b ∈ fp, H' b = none) ∧ W i m σ' H' := fun {σ7 H7} I7 n7 => by
      obtain ⟨m', hm, w7⟩ := hN σ7 H7 n7
      refine ⟨m', hm, i + 1, σ7, H7, I7.unpinned, T.keep _ _ _ st5 fun b hb o e => (I7.pin (b, o) (List.mem_append_right _ (List.mem_append_right _ (mem_pinsAt hb e)))).1, fun b hb => ?_, w7⟩
      obtain ⟨o, e, d⟩ := T.obj _ _ st5 b hb
      exact (I7.pin (b, o) (List.mem_append_right _ (List.mem_append_right _ (mem_pinsAt hb e)))).2.1
    cases f with
    | next => obtain ⟨σ7, H7, I7, n7⟩ := q7; exact again I7 n7
    | cont => obtain ⟨σ7, H7, I7, n7⟩ := q7; exact again I7 n7
    | brk => obtain ⟨σ7, H7, I7, q7⟩ := q7; exact ⟨σ7, H7, I7.unpinned, q7⟩
    | ret v => obtain ⟨x7, σ7, H7, I7, r7, q7⟩ := q7; exact ⟨x7, σ7, H7, I7.unpinned, r7, q7⟩
end

theorem for_list {K : PySem.W.Frag} {a : Addr} {xs : List V} {g : TG} {tb : TS} {D : Ends} {σ : St} {H : Hp} (Pv : Nat → St → Hp → Prop) (h0 : Pv 0 σ H) (hl : ∀ i σ H, i ≤ xs.length → Pv i σ H → SqL K H a xs)
    (hs : ∀ i x σ H, xs[i]? = some x → Pv i σ H → g x σ H fun σ2 H2 => tb { D with nx := Pv (i + 1), ct := Pv (i + 1), bk := D.nx } σ2 H2) (hd : ∀ σ H, Pv xs.length σ H → D.nx σ H) :
    ∃ W : Nat → Nat → St → Hp → Prop, (∃ m, W 0 m σ H) ∧ ∀ i m σ H, W i m σ H →
      ((Itl K a).stop i H ∧ D.nx σ H) ∨ ((Itl K a).go i H ∧ ∃ N : St → Hp → Prop, (∀ σ' H', N σ' H' → ∃ m', m' < m ∧ W (i + 1) m' σ' H') ∧ ∀ x H', (Itl K a).yld i H x H' → g x σ H' fun σ2 H2 => tb { D with nx := N, ct := N, bk := D.nx } σ2 H2) := by
  refine ⟨fun i m σ H => m = xs.length - i ∧ i ≤ xs.length ∧ Pv i σ H, ⟨xs.length, by simp, Nat.zero_le _, h0⟩, ?_⟩
  rintro i m σ H ⟨rfl, hi, p⟩
  have q := hl i σ H hi p
  by_cases hlt : i < xs.length
  · refine .inr ⟨⟨xs, xs[i], q, by simp [hlt]⟩, Pv (i + 1), fun σ' H' p' => ⟨xs.length - (i + 1), by omega, rfl, hlt, p'⟩, fun x H' y => ?_⟩
    obtain ⟨e, y⟩ := y
    subst e
    exact hs i x σ _ (y xs q) p
  · have e : i = xs.length := by omega
    subst e
    exact .inl ⟨⟨xs, q, Nat.le_refl _⟩, hd σ H p⟩
theorem for_tup {K : PySem.W.Frag} {a : Addr} {xs : List V} {g : TG} {tb : TS} {D : Ends} {σ : St} {H : Hp} (Pv : Nat → St → Hp → Prop) (h0 : Pv 0 σ H) (hl : ∀ i σ H, i ≤ xs.length → Pv i σ H → SqT K H a xs)
    (hs : ∀ i x σ H, xs[i]? = some x → Pv i σ H → g x σ H fun σ2 H2 => tb { D with nx := Pv (i + 1), ct := Pv (i + 1), bk := D.nx } σ2 H2) (hd : ∀ σ H, Pv xs.length σ H → D.nx σ H) :
    ∃ W : Nat → Nat → St → Hp → Prop, (∃ m, W 0 m σ H) ∧ ∀ i m σ H, W i m σ H →
      ((Itt K a).stop i H ∧ D.nx σ H) ∨ ((Itt K a).go i H ∧ ∃ N : St → Hp → Prop, (∀ σ' H', N σ' H' → ∃ m', m' < m ∧ W (i + 1) m' σ' H') ∧ ∀ x H', (Itt K a).yld i H x H' → g x σ H' fun σ2 H2 => tb { D with nx := N, ct := N, bk := D.nx } σ2 H2) := by
  refine ⟨fun i m σ H => m = xs.length - i ∧ i ≤ xs.length ∧ Pv i σ H, ⟨xs.length, by simp, Nat.zero_le _, h0⟩, ?_⟩
  rintro i m σ H ⟨rfl, hi, p⟩
  have q := hl i σ H hi p
  by_cases hlt : i < xs.length
  · refine .inr ⟨⟨xs, xs[i], q, by simp [hlt]⟩, Pv (i + 1), fun σ' H' p' => ⟨xs.length - (i + 1), by omega, rfl, hlt, p'⟩, fun x H' y => ?_⟩
    obtain ⟨e, y⟩ := y
    subst e
    exact hs i x σ _ (y xs q) p
  · have e : i = xs.length := by omega
    subst e
    exact .inl ⟨⟨xs, q, Nat.le_refl _⟩, hd σ H p⟩
theorem for_range {lo : Int} {n : Nat} {g : TG} {tb : TS} {D : Ends} {σ : St} {H : Hp} (Pv : Nat → St → Hp → Prop) (h0 : Pv 0 σ H)
    (hs : ∀ i σ H, i < n → Pv i σ H → g (.int (lo + i)) σ H fun σ2 H2 => tb { D with nx := Pv (i + 1), ct := Pv (i + 1), bk := D.nx } σ2 H2) (hd : ∀ σ H, Pv n σ H → D.nx σ H) :
    ∃ W : Nat → Nat → St → Hp → Prop, (∃ m, W 0 m σ H) ∧ ∀ i m σ H, W i m σ H →
      ((Itr lo n).stop i H ∧ D.nx σ H) ∨ ((Itr lo n).go i H ∧ ∃ N : St → Hp → Prop, (∀ σ' H', N σ' H' → ∃ m', m' < m ∧ W (i + 1) m' σ' H') ∧ ∀ x H', (Itr lo n).yld i H x H' → g x σ H' fun σ2 H2 => tb { D with nx := N, ct := N, bk := D.nx } σ2 H2) := by
  refine ⟨fun i m σ H => m = n - i ∧ i ≤ n ∧ Pv i σ H, ⟨n, by simp, Nat.zero_le _, h0⟩, ?_⟩
  rintro i m σ H ⟨rfl, hi, p⟩
  by_cases hlt : i < n
  · refine .inr ⟨hlt, Pv (i + 1), fun σ' H' p' => ⟨n - (i + 1), by omega, rfl, hlt, p'⟩, fun x H' y => ?_⟩
    obtain ⟨e, y⟩ := y
    subst e y
    exact hs i σ _ hlt p
  · have e : i = n := by omega
    subst e
    exact .inl ⟨Nat.le_refl _, hd σ H p⟩
end L2

namespace L2
open PySem PySem.Spec PyProof.Rows

abbrev R2 := V → V → Hp → VK → Prop
def OpR (X : Cx) (f : Value → Value → Sem Value) (r : R2) : Prop :=
  ∀ (pins : List (Addr × Obj)) (s : Shared) (σ : St) (H : Hp) (x y : V) (v u : Value) (Q : VK), Inv X pins σ H s → RelV x v → RelV y u → r x y H Q →
    wpAny (model X.prog X.w) X.A (f v u) (EP X pins σ Q) X.xe s
def UnR (X : Cx) (f : Value → Sem Value) (r : V → Hp → VK → Prop) : Prop :=
  ∀ (pins : List (Addr × Obj)) (s : Shared) (σ : St) (H : Hp) (x : V) (v : Value) (Q : VK), Inv X pins σ H s → RelV x v → r x H Q →
    wpAny (model X.prog X.w) X.A (f v) (EP X pins σ Q) X.xe s
def CallR (X : Cx) (f : Value) (r : List V → Hp → VK → Prop) : Prop :=
  ∀ (pins : List (Addr × Obj)) (s : Shared) (σ : St) (H : Hp) (xs : List V) (us : List Value) (Q : VK), Inv X pins σ H s → Vals xs us → r xs H Q →
    wpAny (model X.prog X.w) X.A (call f us) (EP X pins σ Q) X.xe s
def tOp (r : R2) (ta tb : TE) : TE := fun σ H Q => ta σ H fun x H1 => tb σ H1 fun y H2 => r x y H2 Q
def tUn (r : V → Hp → VK → Prop) (ta : TE) : TE := fun σ H Q => ta σ H fun x H1 => r x H1 Q
def rI (C : Int → Int → Prop) (g : Int → Int → V) : R2 := fun x y H Q => ∃ i j, x = .int i ∧ y = .int j ∧ C i j ∧ Q (g i j) H
def rI0 (g : Int → Int → V) : R2 := fun x y H Q => ∃ i j, x = .int i ∧ y = .int j ∧ Q (g i j) H
def rU (g : Int → V) : V → Hp → VK → Prop := fun x H Q => ∃ i, x = .int i ∧ Q (g i) H

section
variable {X : Cx} {a b c : Expr} {ta tb tc : TE} {pos : Pos}

theorem binT (ha : PE X a ta) (hb : PE X b tb) {pins : List (Addr × Obj)} {s : Shared} {σ : St} {H : Hp} {R : V → V → Hp → Prop} (I : Inv X pins σ H s)
    (h : ta σ H fun x H1 => tb σ H1 fun y H2 => R x y H2) {Q : Value → Shared → Prop} {f : Value → Value → Sem Value}
    (hf : ∀ v u s2 x y H2, Inv X pins σ H2 s2 → RelV x v → RelV y u → R x y H2 → wpAny (model X.prog X.w) X.A (f v u) Q X.xe s2) :
    wpAny (model X.prog X.w) X.A (eval a X.env) (fun v s₁ => wpAny (model X.prog X.w) X.A (eval b X.env) (fun u s₂ => wpAny (model X.prog X.w) X.A (f v u) Q X.xe s₂) X.xe s₁) X.xe s := by
  refine thn (ha pins s σ H _ I h) fun v s1 ⟨x, H1, I1, r1, q1⟩ => ?_
  refine thn (hb pins s1 σ H1 _ I1 q1) fun u s2 ⟨y, H2, I2, r2, q2⟩ => ?_
  exact hf v u s2 x y H2 I2 r1 r2 q2

theorem pe_op {op : Operator} {r : R2} (ho : OpR X (binaryOp op) r) (ha : PE X a ta) (hb : PE X b tb) : PE X (.BinOp a op b pos) (tOp r ta tb) := by
  intro pins s σ H Q I h
  exact wpAny_BinOp (binT ha hb I h fun v u s2 x y H2 I2 rx ry q => ho pins s2 σ H2 x y v u Q I2 rx ry q)
theorem pe_un {op : UnaryOp} {r : V → Hp → VK → Prop} (ho : UnR X (unaryOp op) r) (ha : PE X a ta) : PE X (.UnaryOp op a pos) (tUn r ta) := by
  intro pins s σ H Q I h
  exact UnaryOp_ (thn (ha pins s σ H _ I h) fun v s1 ⟨x, H1, I1, r1, q1⟩ => ho pins s1 σ H1 x v Q I1 r1 q1)
theorem opI {f : Value → Value → Sem Value} {C : Int → Int → Prop} {g : Int → Int → Int}
    (rule : ∀ (i j : Int) (t u : Tok) (s : Shared) (Q : Value → Shared → Prop) (E : Value → Shared → Prop), C i j → Q (.int (g i j) s.toks) { s with toks := s.toks + 1 } → wpAny (model X.prog X.w) X.A (f (.int i t) (.int j u)) Q E s) :
    OpR X f (rI C fun i j => .int (g i j)) := by
  intro pins s σ H x y v u Q I rx ry h
  obtain ⟨i, j, rfl, rfl, hc, q⟩ := h
  obtain ⟨t, rfl⟩ := rx
  obtain ⟨t', rfl⟩ := ry
  exact rule i j t t' s _ _ hc ⟨.int (g i j), H, I.tok _, ⟨_, rfl⟩, q⟩
theorem opI0 {f : Value → Value → Sem Value} {g : Int → Int → Int}
    (rule : ∀ (i j : Int) (t u : Tok) (s : Shared) (Q : Value → Shared → Prop) (E : Value → Shared → Prop), Q (.int (g i j) s.toks) { s with toks := s.toks + 1 } → wpAny (model X.prog X.w) X.A (f (.int i t) (.int j u)) Q E s) :
    OpR X f (rI0 fun i j => .int (g i j)) := by
  intro pins s σ H x y v u Q I rx ry h
  obtain ⟨i, j, rfl, rfl, q⟩ := h
  obtain ⟨t, rfl⟩ := rx
  obtain ⟨t', rfl⟩ := ry
  exact rule i j t t' s _ _ ⟨.int (g i j), H, I.tok _, ⟨_, rfl⟩, q⟩
theorem opB0 {f : Value → Value → Sem Value} {g : Int → Int → Bool}
    (rule : ∀ (i j : Int) (t u : Tok) (s : Shared) (Q : Value → Shared → Prop) (E : Value → Shared → Prop), Q (.bool (g i j)) s → wpAny (model X.prog X.w) X.A (f (.int i t) (.int j u)) Q E s) :
    OpR X f (rI0 fun i j => .bl (g i j)) := by
  intro pins s σ H x y v u Q I rx ry h
  obtain ⟨i, j, rfl, rfl, q⟩ := h
  obtain ⟨t, rfl⟩ := rx
  obtain ⟨t', rfl⟩ := ry
  exact rule i j t t' s _ _ ⟨.bl (g i j), H, I, rfl, q⟩

def CDiv (i j : Int) : Prop := 0 < j ∧ j < 1073741824
def CMul (i j : Int) : Prop := (-(2 ^ 64) < i ∧ i < 2 ^ 64) ∨ (-(2 ^ 64) < j ∧ j < 2 ^ 64)
theorem CMul.ok {i j : Int} (h : CMul i j) : IntMulOk i j := by
  rcases h with ⟨h1, h2⟩ | ⟨h1, h2⟩
  · exact .of_left (intBits_le_64 h1 h2)
  · exact .of_right (intBits_le_64 h1 h2)
theorem op_add : OpR X (binaryOp .Add) (rI0 fun i j => .int (i + j)) := opI0 fun _ _ _ _ _ _ _ q => add_int q
theorem op_sub : OpR X (binaryOp .Sub) (rI0 fun i j => .int (i - j)) := opI0 fun _ _ _ _ _ _ _ q => sub_int q
theorem op_mul : OpR X (binaryOp .Mult) (rI CMul fun i j => .int (i * j)) := opI fun _ _ _ _ _ _ _ hc q => mul_int q hc.ok
theorem op_fdiv : OpR X (binaryOp .FloorDiv) (rI CDiv fun i j => .int (i / j)) := opI fun i j _ _ _ _ _ hc q => by
  have h1 : (0 : Int) < j := hc.1
  have h2 : j < 1073741824 := hc.2
  exact floordiv_int (by omega) (by rw [Int.fdiv_eq_ediv_of_nonneg i (by omega)]; exact q) (.inl (PyProof.noPylong_small (by omega)))
theorem op_mod : OpR X (binaryOp .Mod) (rI (fun _ j => 0 < j) fun i j => .int (i % j)) := opI fun i j _ _ _ _ _ hc q => by
  have h1 : (0 : Int) < j := hc
  exact mod_int' (by omega) (by rw [Int.fmod_eq_emod_of_nonneg i (by omega)]; exact q)
theorem unI {f : Value → Sem Value} {g : Int → Int}
    (rule : ∀ (i : Int) (t : Tok) (s : Shared) (Q : Value → Shared → Prop) (E : Value → Shared → Prop), Q (.int (g i) s.toks) { s with toks := s.toks + 1 } → wpAny (model X.prog X.w) X.A (f (.int i t)) Q E s) :
    UnR X f (rU fun i => .int (g i)) := by
  intro pins s σ H x v Q I rx h
  obtain ⟨i, rfl, q⟩ := h
  obtain ⟨t, rfl⟩ := rx
  exact rule i t s _ _ ⟨.int (g i), H, I.tok _, ⟨_, rfl⟩, q⟩
theorem un_neg : UnR X (unaryOp .USub) (rU fun i => .int (-i)) := unI fun _ _ _ _ _ q => neg_int q
end

def scal : V → V → Bool
  | .non, .non => true | .non, .int _ => true | .int _, .non => true | .non, .bl _ => true | .bl _, .non => true | .non, .str _ => true | .str _, .non => true
  | .int _, .int _ => true | .bl _, .bl _ => true | .str _, .str _ => true | .byt _, .byt _ => true
  | .int _, .str _ => true | .str _, .int _ => true | .bl _, .str _ => true | .str _, .bl _ => true
  | _, _ => false
def rEq : R2 := fun x y H Q => scal x y = true ∧ Q (.bl (decide (x = y))) H
def rNe : R2 := fun x y H Q => scal x y = true ∧ Q (.bl (!decide (x = y))) H

theorem dec_int {i j : Int} : decide (V.int i = V.int j) = (i == j) := by
  rw [Bool.eq_iff_iff]
  simp
theorem dec_bl {i j : Bool} : decide (V.bl i = V.bl j) = (i == j) := by
  rw [Bool.eq_iff_iff]
  simp
theorem dec_str {i j : Str} : decide (V.str i = V.str j) = (i == j) := by
  rw [Bool.eq_iff_iff]
  simp
theorem dec_byt {i j : Array UInt8} : decide (V.byt i = V.byt j) = (i.toList == j.toList) := by
  rw [Bool.eq_iff_iff]
  cases i
  cases j
  simp

section
variable {X : Cx} {a b c : Expr} {ta tb tc : TE} {pos : Pos}
theorem fin_bl {pins : List (Addr × Obj)} {σ : St} {H : Hp} {s : Shared} {Q : VK} {k k' : Bool} (I : Inv X pins σ H s) (q : Q (.bl k) H) (e : k = k') : EP X pins σ Q (.bool k') s := by
  subst e
  exact ⟨.bl k, H, I, rfl, q⟩
theorem op_eq : OpR X (compareOp .Eq) rEq := by
  intro pins s σ H x y v u Q I rx ry h
  obtain ⟨hs, q⟩ := h
  cases x with
  | non =>
    cases rx
    cases y with
    | non => cases ry; exact PySem.EqNone.eq_none_none (fin_bl I q (by simp))
    | bl j => cases ry; exact PySem.EqNone.eq_none_bool (fin_bl I q (by simp))
    | int j => obtain ⟨t', rfl⟩ := ry; exact PySem.EqNone.eq_none_int (fin_bl I q (by simp))
    | str j => obtain ⟨t', rfl⟩ := ry; exact PySem.EqNone.eq_none_str (fin_bl I q (by simp))
    | _ => exact absurd (show false = true from hs) Bool.false_ne_true
  | bl i =>
    cases rx
    cases y with
    | non => cases ry; exact PySem.EqNone.eq_bool_none (fin_bl I q (by simp))
    | bl j => cases ry; exact eq_bool (fin_bl I q dec_bl)
    | str j => obtain ⟨t', rfl⟩ := ry; exact PySem.EqMixed.eq_bool_str (fin_bl I q (by simp))
    | _ => exact absurd (show false = true from hs) Bool.false_ne_true
  | int i =>
    obtain ⟨t, rfl⟩ := rx
    cases y with
    | non => cases ry; exact PySem.EqNone.eq_int_none (fin_bl I q (by simp))
    | int j => obtain ⟨t', rfl⟩ := ry; exact eq_int (fin_bl I q dec_int)
    | str j => obtain ⟨t', rfl⟩ := ry; exact PySem.EqMixed.eq_int_str (fin_bl I q (by simp))
    | _ => exact absurd (show false = true from hs) Bool.false_ne_true
  | str i =>
    obtain ⟨t, rfl⟩ := rx
    cases y with
    | non => cases ry; exact PySem.EqNone.eq_str_none (fin_bl I q (by simp))
    | bl j => cases ry; exact PySem.EqMixed.eq_str_bool (fin_bl I q (by simp))
    | int j => obtain ⟨t', rfl⟩ := ry; exact PySem.EqMixed.eq_str_int (fin_bl I q (by simp))
    | str j => obtain ⟨t', rfl⟩ := ry; exact eq_str (fin_bl I q dec_str)
    | _ => exact absurd (show false = true from hs) Bool.false_ne_true
  | byt i =>
    obtain ⟨t, rfl⟩ := rx
    cases y with
    | byt j => obtain ⟨t', rfl⟩ := ry; exact PySem.W.eq_bytes (fin_bl I q dec_byt)
    | _ => exact absurd (show false = true from hs) Bool.false_ne_true
  | _ => cases y <;> exact absurd (show false = true from hs) Bool.false_ne_true
theorem op_ne : OpR X (compareOp .NotEq) rNe := by
  intro pins s σ H x y v u Q I rx ry h
  obtain ⟨hs, q⟩ := h
  cases x with
  | non =>
    cases rx
    cases y with
    | non => cases ry; exact PySem.EqNone.ne_none_none (fin_bl I q (by simp))
    | bl j => cases ry; exact PySem.EqNone.ne_none_bool (fin_bl I q (by simp))
    | int j => obtain ⟨t', rfl⟩ := ry; exact PySem.EqNone.ne_none_int (fin_bl I q (by simp))
    | str j => obtain ⟨t', rfl⟩ := ry; exact PySem.EqNone.ne_none_str (fin_bl I q (by simp))
    | _ => exact absurd (show false = true from hs) Bool.false_ne_true
  | bl i =>
    cases rx
    cases y with
    | non => cases ry; exact PySem.EqNone.ne_bool_none (fin_bl I q (by simp))
    | bl j => cases ry; exact ne_bool (fin_bl I q (congrArg not dec_bl))
    | str j => obtain ⟨t', rfl⟩ := ry; exact PySem.EqMixed.ne_bool_str (fin_bl I q (by simp))
    | _ => exact absurd (show false = true from hs) Bool.false_ne_true
  | int i =>
    obtain ⟨t, rfl⟩ := rx
    cases y with
    | non => cases ry; exact PySem.EqNone.ne_int_none (fin_bl I q (by simp))
    | int j => obtain ⟨t', rfl⟩ := ry; exact ne_int (fin_bl I q (congrArg not dec_int))
    | str j => obtain ⟨t', rfl⟩ := ry; exact PySem.EqMixed.ne_int_str (fin_bl I q (by simp))
    | _ => exact absurd (show false = true from hs) Bool.false_ne_true
  | str i =>
    obtain ⟨t, rfl⟩ := rx
    cases y with
    | non => cases ry; exact PySem.EqNone.ne_str_none (fin_bl I q (by simp))
    | bl j => cases ry; exact PySem.EqMixed.ne_str_bool (fin_bl I q (by simp))
    | int j => obtain ⟨t', rfl⟩ := ry; exact PySem.EqMixed.ne_str_int (fin_bl I q (by simp))
    | str j => obtain ⟨t', rfl⟩ := ry; exact ne_str (fin_bl I q (congrArg not dec_str))
    | _ => exact absurd (show false = true from hs) Bool.false_ne_true
  | byt i =>
    obtain ⟨t, rfl⟩ := rx
    cases y with
    | byt j => obtain ⟨t', rfl⟩ := ry; exact PySem.W.ne_bytes (fin_bl I q (congrArg not dec_byt))
    | _ => exact absurd (show false = true from hs) Bool.false_ne_true
  | _ => cases y <;> exact absurd (show false = true from hs) Bool.false_ne_true

theorem op_lt : OpR X (compareOp .Lt) (rI0 fun i j => .bl (decide (i < j))) := opB0 fun _ _ _ _ _ _ _ q => lt_int q
theorem op_le : OpR X (compareOp .LtE) (rI0 fun i j => .bl (decide (i ≤ j))) := opB0 fun _ _ _ _ _ _ _ q => le_int q
theorem op_gt : OpR X (compareOp .Gt) (rI0 fun i j => .bl (decide (j < i))) := opB0 fun _ _ _ _ _ _ _ q => gt_int q
theorem nomark (b : Expr) {op : CmpOp} (h : op ≠ .In := by decide) (h2 : op ≠ .NotIn := by decide) : behindInMarks op b = false := by
  have e1 : (op == CmpOp.In) = false := by cases op <;> first | rfl | exact absurd rfl h
  have e2 : (op == CmpOp.NotIn) = false := by cases op <;> first | rfl | exact absurd rfl h2
  cases b <;> simp [behindInMarks, e1, e2]
theorem pe_cmpR {op : CmpOp} {r : R2} (ho : OpR X (compareOp op) r) (ha : PE X a ta) (hb : PE X b tb) (hm : behindInMarks op b = false) : PE X (.Compare a [op] [b] pos) (tOp r ta tb) := by
  intro pins s σ H Q I h
  exact wpAny_Compare1 (binT ha hb I h fun v u s2 x y H2 I2 rx ry q => ho pins s2 σ H2 x y v u Q I2 rx ry q) hm
def tTest (t : TE) : TT := fun σ H Q => t σ H fun x H' => ∃ k, x = .bl k ∧ Q k H'
theorem pt_cmpR {op : CmpOp} {r : R2} (ho : OpR X (compareOp op) r) (ha : PE X a ta) (hb : PE X b tb) (hm : behindInMarks op b = false) : PT X (.Compare a [op] [b] pos) (tTest (tOp r ta tb)) := by
  intro pins s σ H Q I h
  refine wpAny_isTrue_Compare1 (thn (ha pins s σ H _ I h) fun v s1 ⟨x, H1, I1, r1, q1⟩ => thn (hb pins s1 σ H1 _ I1 q1) fun u s2 ⟨y, H2, I2, r2, q2⟩ =>
    thn (ho pins s2 σ H2 x y v u _ I2 r1 r2 q2) fun c s3 ⟨z, H3, I3, r3, k, e, q3⟩ => ?_) hm
  subst e
  cases r3
  exact wpAny_truthy_bool ⟨H3, I3, q3⟩
def tChain (r r' : R2) (ta tb tc : TE) : TE := fun σ H Q => ta σ H fun x H1 => tb σ H1 fun y H2 => r x y H2 fun z H3 => ∃ k, z = .bl k ∧
  (if k = true then tc σ H3 fun w' H4 => r' y w' H4 Q else Q (.bl false) H3)
theorem pt_chain {op op' : CmpOp} {r r' : R2} (ho : OpR X (compareOp op) r) (ho' : OpR X (compareOp op') r') (ha : PE X a ta) (hb : PE X b tb) (hc : PE X c tc)
    (hm : lastMarks [op, op'] [b, c] = false := by with_unfolding_all rfl) : PT X (.Compare a [op, op'] [b, c] pos) (tTest (tChain r r' ta tb tc)) := by
  intro pins s σ H Q I h
  refine isTrue_chain (thn (ha pins s σ H _ I h) fun v s1 ⟨x, H1, I1, r1, q1⟩ => test_link (thn (hb pins s1 σ H1 _ I1 q1) fun u s2 ⟨y, H2, I2, r2, q2⟩ =>
    thn (ho pins s2 σ H2 x y v u _ I2 r1 r2 q2) fun d s3 ⟨z, H3, I3, r3, k, e, q3⟩ => ?_)) hm
  subst e
  cases r3
  refine wpAny_truthy_bool ?_
  cases k with
  | false =>
    obtain ⟨k', e', q'⟩ := q3
    cases e'
    exact ite_ff ⟨H3, I3, q'⟩
  | true =>
    refine ite_tt (test_last (thn (hc pins s3 σ H3 _ I3 q3) fun w' s4 ⟨z', H4, I4, r4, q4⟩ => thn (ho' pins s4 σ H4 y z' u w' _ I4 r2 r4 q4) fun d' s5 ⟨z2, H5, I5, r5, k2, e2, q5⟩ => ?_))
    subst e2
    cases r5
    exact wpAny_truthy_bool ⟨H5, I5, q5⟩

theorem line63 : (sizeLine : Nat) < 2 ^ 63 := by rw [sizeLine_eq]; decide
theorem vals1 {x : V} {us : List Value} (r : Vals [x] us) : ∃ u, us = [u] ∧ RelV x u := by
  cases r with
  | cons r1 r2 => cases r2; exact ⟨_, rfl, r1⟩
theorem vals2 {x y : V} {us : List Value} (r : Vals [x, y] us) : ∃ u w', us = [u, w'] ∧ RelV x u ∧ RelV y w' := by
  cases r with
  | cons r1 r2 =>
    cases r2 with
    | cons r3 r4 => cases r4; exact ⟨_, _, rfl, r1, r3⟩
theorem call_max2 (hc : X.calm = true) : CallR X (.builtin "max") (fun xs H Q => ∃ i j, xs = [.int i, .int j] ∧ Q (.int (if j > i then j else i)) H) := by
  intro pins s σ H xs us Q I r h
  obtain ⟨i, j, rfl, q⟩ := h
  obtain ⟨u, w', rfl, ⟨t, rfl⟩, ⟨t', rfl⟩⟩ := vals2 r
  refine max_two_ints (I.ok.hd hc) fun h' tk k => ⟨_, H, I.kept k, ?_, q⟩
  by_cases hj : j > i
  · rw [if_pos hj, if_pos hj]; exact ⟨_, rfl⟩
  · rw [if_neg hj, if_neg hj]; exact ⟨_, rfl⟩
end
end L2

namespace L2
open PySem PySem.Spec PyProof.Rows

structure ObjM (h : Heap) (x dx C : Addr) (mA : Str → Option Value) : Prop where
  obj : h.get? x = some (PySem.W.instObj C dx)
  ns : h.Ns1 dx mA
  ne : dx ≠ x

theorem lookIn_ns {h : Heap} {dx : Addr} {mA : Str → Option Value} (n : h.Ns1 dx mA) : ∃ od, h.get? dx = some od ∧ ∀ name, PySem.W.lookIn name od = some (mA name) := by
  obtain ⟨o, es, ep, ho, hd, hk, _, hm⟩ := n
  refine ⟨o, ho, fun name => ?_⟩
  have e := hm name
  unfold nsFind findBy at e
  rw [← Array.find?_toList] at e
  unfold PySem.W.lookIn
  rw [hd]
  dsimp only
  split
  · rename_i y q
    rw [q] at e
    exact congrArg some e
  · rename_i q
    rw [q] at e
    have a : es.toList.any (·.refKey) = false := by
      rw [List.any_eq_false]
      intro y hy
      obtain ⟨z, t, hkey⟩ := hk y (Array.mem_toList_iff.mp hy)
      simp [DictEntry.refKey, hkey]
    have a' : ¬ es.toList.any (·.refKey) = true := by rw [a]; exact Bool.false_ne_true
    rw [if_neg a']
    exact congrArg some e

theorem ObjM.look {h : Heap} {x dx C : Addr} {mA : Str → Option Value} (I : ObjM h x dx C mA) : ∃ od, PySem.W.InstAt h x (PySem.W.instObj C dx) C (some od) ∧ ∀ name, PySem.W.lookIn name od = some (mA name) :=
  let ⟨od, ho, hl⟩ := lookIn_ns I.ns
  ⟨od, ⟨I.obj, rfl, rfl, ho⟩, hl⟩

section
variable {prog : Program} {w : World} {A : Around} {E : Value → Shared → Prop} {s : Shared} {K : PySem.W.Frag} {x dx C f : Addr} {mA : Str → Option Value} {name : Str} {v : Value}

theorem get_map {expr : Bool} {Q : Value → Shared → Prop} (X : K.In s.heap) (I : ObjM s.heap x dx C mA) (hg : PySem.W.plainGet K C name = true) (hh : PySem.W.hasDictIn K C = true)
    (ha : PySem.W.findIn K (.ref C) name = some none) (hv : mA name = some v) (hv' : PySem.W.handedIn v = true) (h : Q v { s with toks := s.toks + 1 }) :
    wpAny (model prog w) A (getAttr (.ref x) name expr) Q E s := by
  obtain ⟨od, J, hl⟩ := I.look
  exact PySem.W.get_value X J (PySem.W.plainGet_of hg).1 (PySem.W.findObj_own hh ha rfl (by rw [hl, hv])) hv' h

theorem get_meth {pl : Sem Bool} {Q : Value × List Value → Shared → Prop} (X : K.In s.heap) (I : ObjM s.heap x dx C mA) (hg : PySem.W.plainGet K C name = true)
    (hf : PySem.W.findIn K (.ref C) name = some (some (.ref f))) (ht : PySem.W.isFn K (.ref f) = true) (hv : mA name = none) (h : Q (.ref f, [.ref x]) s) :
    wpAny (model prog w) A (getMethod (.ref x) name pl) Q E s := by
  obtain ⟨od, J, hl⟩ := I.look
  exact PySem.W.method_fn X J (PySem.W.plainGet_of hg).1 (PySem.W.plainGet_of hg).2 hf (beq_iff_eq.mp ht) (by show (PySem.W.lookIn name od).map (·.isSome) = some false; rw [hl, hv]; rfl) h

theorem set_map {ns : List Str} {Q : Unit → Shared → Prop} (X : K.In s.heap) (I : ObjM s.heap x dx C mA)
    (hs : PySem.W.findIn K (.ref C) "__setattr__" = some (some (.builtin "object.__setattr__"))) (hp : PySem.W.plainOver K C = true) (ht : PySem.W.takerIn K C name = some none) (hh : PySem.W.hasDictIn K C = true)
    (hw : PySem.Within mA ns) (hsz : ns.length ≤ sizeLine)
    (h : ∀ h', ObjM h' x dx C (fun y => if y = name then some v else mA y) → Heap.SameBut dx s.heap h' → Q () { s with heap := h', toks := s.toks + 2 }) :
    wpAny (model prog w) A (setAttr (.ref x) name v) Q E s := by
  obtain ⟨od, J, hl⟩ := I.look
  refine PySem.W.set_plain X J hs (PySem.W.osa_open (s := { s with toks := s.toks + 1 }) (r := none) X J hp ht fun b => ?_)
  obtain ⟨cd, hc, hd'⟩ := PySem.W.any_some hh
  have hx : s.heap.get? x = some ⟨.ref C, some dx, .plain, #[]⟩ := I.obj
  refine wpAny_bind (wpAny_pure (wpAny_bind (wpAny_bind (wpAny_loadPart hx (wpAny_bind (PySem.W.Looks.here (s := { s with toks := s.toks + 1 }) (PySem.W.looks_clsIn X hc) ?_))))))
  rw [hd']
  refine wpAny_pure (a := some dx) (wpAny_bind (wpAny_pure (wpAny_bind ?_)))
  refine wpAny_nsSet1 (s := { s with toks := s.toks + 1 }) I.ns fun h' hn2 hs2 => ?_
  obtain ⟨oD, esD, epD, hoD, hdD, hcD⟩ := hn2.count (PySem.Within.cons name v hw)
  refine wpAny_bind (wpAny_lookBehind hoD (by rw [hdD]; exact pastItsLine_dict (Nat.le_trans hcD (by rw [List.length_cons]; omega))) ?_)
  exact wpAny_pure (h _ ⟨(hs2.2 _ (Ne.symm I.ne)).trans I.obj, hn2, I.ne⟩ hs2)

theorem make_map {R : Result → Shared → Prop} {vs : List Value} {kw : List (Str × Value)} (X : K.In s.heap) (hm : PySem.W.makesIn K C = true)
    (hi : PySem.W.findIn K (.ref C) "__init__" = some (some (.ref f))) (hf : PySem.W.typeIn K (.ref f) = some (.type "function"))
    (h : codeAny (model prog w) (A.under (.builtin "type.__call__" ⟨.ref C :: vs, kw⟩)) (.call (.ref f) ⟨.ref (s.heap.objs.size + 1) :: vs, kw⟩) (PySem.W.InitBack (s.heap.objs.size + 1) R)
      { s with heap := (s.heap.push PySem.W.emptyDict).push (PySem.W.instObj C s.heap.objs.size) }) :
    codeAny (model prog w) A (.call (.ref C) ⟨vs, kw⟩) R s := by
  obtain ⟨hh, g, d, t, os⟩ := s
  exact PySem.W.make_core (PySem.W.makes_of X hm) (PySem.W.looks_findIn X hi) (fun self => PySem.W.bind_fn X self hf) (.inl rfl) h
end

def putF (f : Str) (v : V) : List (Str × V) → List (Str × V)
  | [] => [(f, v)]
  | (g, x) :: r => if g = f then (g, v) :: r else (g, x) :: putF f v r
theorem lookup_putF (f g : Str) (v : V) : ∀ fs : List (Str × V), (putF f v fs).lookup g = if g = f then some v else fs.lookup g
  | [] => by
    show List.lookup g [(f, v)] = _
    by_cases h : g = f
    · have hb : (g == f) = true := beq_iff_eq.mpr h
      simp only [List.lookup, hb, if_pos h]
    · have hb : (g == f) = false := beq_eq_false_iff_ne.mpr h
      simp only [List.lookup, hb, if_neg h]
  | (k, x) :: r => by
    have ih := lookup_putF f g v r
    rw [show putF f v ((k, x) :: r) = (if k = f then (k, v) :: r else (k, x) :: putF f v r) from rfl]
    by_cases hk : k = f
    · rw [if_pos hk]
      by_cases h : g = k
      · have hb : (g == k) = true := beq_iff_eq.mpr h
        simp only [List.lookup, hb, if_pos (h.trans hk)]
      · have hb : (g == k) = false := beq_eq_false_iff_ne.mpr h
        simp only [List.lookup, hb, if_neg (fun e : g = f => h (e.trans hk.symm))]
    · rw [if_neg hk]
      by_cases h : g = k
      · have hb : (g == k) = true := beq_iff_eq.mpr h
        simp only [List.lookup, hb, if_neg (fun e : g = f => hk (h.symm.trans e))]
      · have hb : (g == k) = false := beq_eq_false_iff_ne.mpr h
        simp only [List.lookup, hb]
        exact ih
theorem keys_putF (f : Str) (v : V) : ∀ fs : List (Str × V), f ∈ (putF f v fs).map (·.1) ∧ ∀ g, g ∈ fs.map (·.1) → g ∈ (putF f v fs).map (·.1)
  | [] => ⟨by simp [putF], fun g h => by simp at h⟩
  | (k, x) :: r => by
    obtain ⟨i1, i2⟩ := keys_putF f v r
    rw [show putF f v ((k, x) :: r) = (if k = f then (k, v) :: r else (k, x) :: putF f v r) from rfl]
    by_cases hk : k = f
    · rw [if_pos hk]
      subst hk
      exact ⟨by simp, fun g h => by simpa using h⟩
    · rw [if_neg hk]
      refine ⟨?_, fun g h => ?_⟩
      · rw [List.map_cons]
        exact List.mem_cons_of_mem _ i1
      · rw [List.map_cons] at h ⊢
        rcases List.mem_cons.mp h with e | e
        · exact List.mem_cons.mpr (.inl e)
        · exact List.mem_cons_of_mem _ (i2 g e)
theorem length_putF (f : Str) (v : V) : ∀ fs : List (Str × V), (putF f v fs).length ≤ fs.length + 1
  | [] => by simp [putF]
  | (k, x) :: r => by
    have ih := length_putF f v r
    rw [show putF f v ((k, x) :: r) = (if k = f then (k, v) :: r else (k, x) :: putF f v r) from rfl]
    by_cases hk : k = f
    · rw [if_pos hk, List.length_cons, List.length_cons]; omega
    · rw [if_neg hk, List.length_cons, List.length_cons]; omega

theorem RelO.some_of {v : V} {o : Option Value} (r : RelO (some v) o) : ∃ u, o = some u ∧ RelV v u := by
  cases o with
  | none => exact (show False from r).elim
  | some u => exact ⟨u, rfl, r⟩
theorem RelO.none_of {o : Option Value} (r : RelO none o) : o = none := by
  cases o with
  | none => rfl
  | some u => exact (show False from r).elim
theorem handed_of {v : V} {u : Value} (r : RelV v u) : PySem.W.handedIn u = true := by
  cases v with
  | non => cases (show u = Value.none from r); rfl
  | bl b => cases (show u = Value.bool b from r); rfl
  | int i => obtain ⟨t, e⟩ := (show ∃ t, u = Value.int i t from r); cases e; rfl
  | str x => obtain ⟨t, e⟩ := (show ∃ t, u = Value.str x t from r); cases e; rfl
  | byt b => obtain ⟨t, e⟩ := (show ∃ t, u = Value.bytes b t from r); cases e; rfl
  | flt b => obtain ⟨t, e⟩ := (show ∃ t, u = Value.float b t from r); cases e; rfl
  | ref a => cases (show u = Value.ref a from r); rfl
  | ty n => cases (show u = Value.type n from r); rfl

section
variable {P : Program} {w : World} {H H' : Hp} {h h' : Heap} {a C dx : Addr} {fs fs' : List (Str × V)}
theorem ins_get (hok : HOk P w H h) (e : H a = some (.ins C dx fs)) : ∃ mA, ObjM h a dx C mA ∧ (∀ f, RelO (fs.lookup f) (mA f)) ∧ PySem.Within mA (fs.map (·.1)) ∧ fs.length ≤ 1000 ∧ H dx = some (.own a) := by
  obtain ⟨d, z, ne, ob, mA, n, r, q⟩ := (show ObjOk P w H h a (.ins C dx fs) from hok a _ e)
  exact ⟨mA, ⟨ob, n, ne⟩, r, q, z, d⟩
end

structure Cls (K : PySem.W.Frag) (C : Addr) : Prop where
  pg : PySem.W.plainGet K C Str.empty = true
  hd : PySem.W.hasDictIn K C = true
  po : PySem.W.plainOver K C = true
  sa : PySem.W.findIn K (.ref C) "__setattr__" = some (some (.builtin "object.__setattr__"))
theorem Cls.get {K : PySem.W.Frag} {C : Addr} (c : Cls K C) (f : Str) : PySem.W.plainGet K C f = true := c.pg
def NoAttr (K : PySem.W.Frag) (C : Addr) (f : Str) : Prop := PySem.W.findIn K (.ref C) f = some none
theorem NoAttr.taker {K : PySem.W.Frag} {C : Addr} {f : Str} (n : NoAttr K C f) : PySem.W.takerIn K C f = some none := by
  unfold PySem.W.takerIn
  rw [show PySem.W.findIn K (.ref C) f = some none from n]
  rfl
structure Con (K : PySem.W.Frag) (C : Addr) (f : Str) (v : V) (u : Value) : Prop where
  at_ : PySem.W.findIn K (.ref C) f = some (some u)
  rel : RelV v u
  get : PySem.W.specialIn K u "__get__" = some none
  cp : PySem.W.copiedNames.contains f = false
structure Meth (K : PySem.W.Frag) (C : Addr) (m : Str) (f : Addr) : Prop where
  at_ : PySem.W.findIn K (.ref C) m = some (some (.ref f))
  fn : PySem.W.isFn K (.ref f) = true
  kp : PySem.W.keepIn K (.ref f) = true

section
variable {X : Cx} {pins : List (Addr × Obj)} {σ : St} {H : Hp} {s : Shared} {a C dx : Addr} {fs : List (Str × V)} {f : Str} {v : V} {A : Around} {E : Value → Shared → Prop}

theorem getattr_ok {b : Bool} {Q : Value → Shared → Prop} (I : Inv X pins σ H s) (e : H a = some (.ins C dx fs)) (c : Cls X.K C) (n : NoAttr X.K C f) (l : fs.lookup f = some v)
    (h : ∀ u s', Inv X pins σ H s' → RelV v u → Q u s') : wpAny (model X.prog X.w) A (getAttr (.ref a) f b) Q E s := by
  obtain ⟨mA, O, r, _, _, _⟩ := ins_get I.hok e
  obtain ⟨u, hu, ru⟩ := RelO.some_of (v := v) (o := mA f) (by rw [← l]; exact r f)
  exact get_map I.kIn O (c.get f) c.hd n hu (handed_of ru) (h u _ (I.tok _) ru)

theorem getmeth_ok {m : Str} {g : Addr} {pl : Sem Bool} {Q : Value × List Value → Shared → Prop} (I : Inv X pins σ H s) (e : H a = some (.ins C dx fs)) (c : Cls X.K C) (k : Meth X.K C m g) (l : fs.lookup m = none)
    (h : Q (.ref g, [.ref a]) s) : wpAny (model X.prog X.w) A (getMethod (.ref a) m pl) Q E s := by
  obtain ⟨mA, O, r, _, _, _⟩ := ins_get I.hok e
  have hn : mA m = none := RelO.none_of (by rw [← l]; exact r m)
  exact get_meth I.kIn O (c.get m) k.at_ k.fn hn h

theorem setattr_ok {y : V} {u : Value} {Q : Unit → Shared → Prop} (I : Inv X pins σ H s) (e : H a = some (.ins C dx fs)) (c : Cls X.K C) (n : NoAttr X.K C f) (hl : fs.length < 1000) (ry : RelV y u)
    (h : ∀ s', Inv X pins σ (upd H a (.ins C dx (putF f y fs))) s' → Q () s') : wpAny (model X.prog X.w) A (setAttr (.ref a) f u) Q E s := by
  obtain ⟨mA, O, r, wi, _, ho⟩ := ins_get I.hok e
  have hz : (fs.map (·.1)).length ≤ sizeLine := by rw [List.length_map, sizeLine_eq]; omega
  refine set_map I.kIn O c.sa c.po n.taker c.hd wi hz fun h' O' sb => h _ ?_
  have hd : ∃ o, h'.get? dx = some o := let ⟨o, _, _, e', _⟩ := O'.ns; ⟨o, e'⟩
  refine I.write (x := a) (e := dx) (by rw [e]; exact True.intro) (.inr ho) (fun b q hb z => (sb.2 b hb).trans z) hd ?_
  refine ⟨by rw [upd_ne O.ne]; exact ho, ?_, O.ne, O'.obj, _, O'.ns, fun g => ?_, fun g hg => ?_⟩
  · have := length_putF f y fs; omega
  · show RelO ((putF f y fs).lookup g) (if g = f then some u else mA g)
    rw [lookup_putF]
    by_cases q : g = f
    · rw [if_pos q, if_pos q]; exact ry
    · rw [if_neg q, if_neg q]; exact r g
  · by_cases q : g = f
    · rw [q]; exact (keys_putF f y fs).1
    · refine (keys_putF f y fs).2 g (wi g fun z => hg ?_)
      show (if g = f then some u else mA g) = none
      rw [if_neg q]; exact z

theorem Inv.made (I : Inv X pins σ H s) : Inv X pins σ (upd (upd H s.heap.objs.size (.own (s.heap.objs.size + 1))) (s.heap.objs.size + 1) (.ins C s.heap.objs.size []))
    { s with heap := (s.heap.push PySem.W.emptyDict).push (PySem.W.instObj C s.heap.objs.size) } := by
  have e1 : (s.heap.push PySem.W.emptyDict).get? s.heap.objs.size = some PySem.W.emptyDict := Heap.get?_push_size s.heap rfl
  have e2 : ((s.heap.push PySem.W.emptyDict).push (PySem.W.instObj C s.heap.objs.size)).get? (s.heap.objs.size + 1) = some (PySem.W.instObj C s.heap.objs.size) := by
    have := Heap.get?_push_size (s.heap.push PySem.W.emptyDict) (o := PySem.W.instObj C s.heap.objs.size) rfl
    rwa [Heap.size_push] at this
  have e3 : (s.heap.push PySem.W.emptyDict).Ns s.heap.objs.size (fun _ => none) := ⟨PySem.W.emptyDict, #[], _, e1, rfl, (fun e he => absurd he (by simp)), fun _ => rfl⟩
  have I1 := I.laid (a := s.heap.objs.size) (o := .own (s.heap.objs.size + 1)) (h' := s.heap.push PySem.W.emptyDict) (t' := s.toks) (fun b u q => Heap.get?_push_of_some _ q) (Nat.le_refl _) ⟨_, e1⟩
  refine I1.laid (a := s.heap.objs.size + 1) (o := .ins C s.heap.objs.size []) (t' := s.toks) (fun b u q => Heap.get?_push_of_some _ q) (Nat.le_of_eq (Heap.size_push _ _)) ?_
  have ne : s.heap.objs.size ≠ s.heap.objs.size + 1 := Nat.ne_of_lt (Nat.lt_succ_self _)
  refine ⟨by rw [upd_ne ne, upd_same], Nat.zero_le _, ne, e2, fun _ => none, (Heap.Ns1.of_empty e3).at fun o q => Heap.get?_push_of_some _ q, fun _ => True.intro, fun y hy => absurd rfl hy⟩

theorem attr_of {prog : Program} {w : World} {env : Env} {e : Expr} {f : Str} {pos : Pos} {s : Shared} {Q : Value → Shared → Prop} (hb : attributeBase e f env (eval e env) = eval e env)
    (h : wpAny (model prog w) A (eval e env) (fun o s₁ => wpAny (model prog w) A (getAttr o f true) Q E s₁) E s) : wpAny (model prog w) A (eval (.Attribute e f pos) env) Q E s :=
  Attribute_any_ h (by rw [arm_eval_Attribute, hb])
end

def tFld (K : PySem.W.Frag) (ta : TE) (f : Str) : TE := fun σ H Q => ta σ H fun x H1 => ∃ a C dx fs v, x = .ref a ∧ H1 a = some (.ins C dx fs) ∧ Cls K C ∧ NoAttr K C f ∧ fs.lookup f = some v ∧ Q v H1
def sFld (K : PySem.W.Frag) (ta tv : TE) (f : Str) : TS := fun D σ H => tv σ H fun y H1 => ta σ H1 fun x H2 => ∃ a C dx fs, x = .ref a ∧ H2 a = some (.ins C dx fs) ∧ Cls K C ∧ NoAttr K C f ∧ fs.length < 1000 ∧
  D.nx σ (upd H2 a (.ins C dx (putF f y fs)))
section
variable {X : Cx} {o e value : Expr} {f : Str} {pos pos' tpos : Pos} {ta tv : TE}
theorem pe_fld (he : PE X e ta) (hb : attributeBase e f X.env (eval e X.env) = eval e X.env) : PE X (.Attribute e f pos) (tFld X.K ta f) := by
  intro pins s σ H Q I h
  refine attr_of hb (thn (he pins s σ H _ I h) fun u s1 ⟨x, H1, I1, rx, a, C, dx, fs, v, ex, ea, c, n, l, q⟩ => ?_)
  subst ex
  obtain rfl : u = Value.ref a := rx
  exact getattr_ok I1 ea c n l fun u' s2 I2 ru => ⟨v, H1, I2, ru, q⟩
theorem ps_fld (ha : PE X o ta) (hv : PE X value tv) (hs : swapsWith value (some (.Attribute o f pos')) pos.line X.env = pure false) : PS X (.Assign [.Attribute o f pos'] value pos) (sFld X.K ta tv f) := by
  intro pins s σ H D I h
  refine plainObj_wpAny_Assign_Attribute (thn (hv pins s σ H _ I h) fun u s1 ⟨y, H1, I1, ry, q⟩ => thn (ha pins s1 σ H1 _ I1 q) fun ov s2 ⟨x, H2, I2, rx, a, C, dx, fs, ex, ea, c, n, l, q2⟩ => ?_) hs
  subst ex
  obtain rfl : ov = Value.ref a := rx
  exact setattr_ok I2 ea c n l ry fun s3 I3 => ⟨σ, _, I3, q2⟩
end

section
variable {X : Cx} {pins : List (Addr × Obj)} {σ : St} {H : Hp} {s : Shared} {A : Around} {E : Value → Shared → Prop} {Q : Value → Shared → Prop} {c : Value} {b : Bool}
inductive TyOf (K : PySem.W.Frag) (H : Hp) : V → Value → Prop where
  | non : TyOf K H .non (.type "NoneType")
  | bl (x : Bool) : TyOf K H (.bl x) (.type "bool")
  | int (i : Int) : TyOf K H (.int i) (.type "int")
  | str (x : Str) : TyOf K H (.str x) (.type "str")
  | flt (x : UInt64) : TyOf K H (.flt x) (.type "float")
  | lst {a : Addr} {xs : List V} (e : H a = some (.lst xs)) : TyOf K H (.ref a) (.type "list")
  | frz {a : Addr} {o : Obj} {xs : List V} (e : H a = some (.frz o (.lst xs))) : TyOf K H (.ref a) (.type "list")
  | tup {a : Addr} {xs : List V} (e : H a = some (.tup xs)) : TyOf K H (.ref a) (.type "tuple")
  | dK {a : Addr} {kvs : List (Key × V)} (e : H a = some (.dK kvs)) : TyOf K H (.ref a) (.type "dict")
  | dT {a : Addr} {kvs : List (List Key × V)} (e : H a = some (.dT kvs)) : TyOf K H (.ref a) (.type "dict")
  | ins {a C dx : Addr} {fs : List (Str × V)} (e : H a = some (.ins C dx fs)) (cl : Cls K C) (ha : PySem.W.findIn K (.ref C) "__class__" = some (some (.builtin "object.__class__")))
      (hn : PySem.W.specialIn K (.builtin "object.__class__") "__get__" = some (some (.builtin "getset_descriptor.__get__"))) (htk : PySem.W.takesIn K (.builtin "object.__class__") = some true)
      (hm : PySem.W.mroIn K C (.type "object") = some true) : TyOf K H (.ref a) (.ref C)
theorem isinst_ok {x : V} {u t : Value} (I : Inv X pins σ H s) (rx : RelV x u) (ty : TyOf X.K H x t) (e : PySem.W.kitOne X.K t c = some b) (h : ∀ tk, Q (.bool b) { s with toks := tk }) :
    wpAny (model X.prog X.w) A (call (.builtin "isinstance") [u, c]) Q E s := by
  cases ty with
  | non => cases (show u = Value.none from rx); exact PySem.W.kia_one PySem.W.kitx_none I.kIn True.intro e (fun z => nomatch z) h
  | bl y => cases (show u = Value.bool y from rx); exact PySem.W.kia_one PySem.W.kitx_bool I.kIn True.intro e (fun z => nomatch z) h
  | int i => obtain ⟨t, q⟩ := (show ∃ t, u = Value.int i t from rx); cases q; exact PySem.W.kia_one PySem.W.kitx_int I.kIn True.intro e (fun z => nomatch z) h
  | str y => obtain ⟨t, q⟩ := (show ∃ t, u = Value.str y t from rx); cases q; exact PySem.W.kia_one PySem.W.kitx_str I.kIn True.intro e (fun z => nomatch z) h
  | flt y => obtain ⟨t, q⟩ := (show ∃ t, u = Value.float y t from rx); cases q; exact PySem.W.kia_one PySem.W.kitx_float I.kIn True.intro e (fun z => nomatch z) h
  | @lst a xs ea =>
    cases (show u = Value.ref a from rx)
    obtain ⟨_, _, n, _, h1⟩ := (show ObjOk X.prog X.w H s.heap a (.lst xs) from I.hok a _ ea)
    exact PySem.W.kia_one PySem.W.kitx_list I.kIn ⟨_, h1, rfl⟩ e (fun z => nomatch z) h
  | @frz a ob xs ea =>
    cases (show u = Value.ref a from rx)
    obtain ⟨_, _, _, n, _, h1⟩ := (show ObjOk X.prog X.w H s.heap a (.frz ob (.lst xs)) from I.hok a _ ea)
    exact PySem.W.kia_one PySem.W.kitx_list I.kIn ⟨_, h1, rfl⟩ e (fun z => nomatch z) h
  | @tup a xs ea =>
    cases (show u = Value.ref a from rx)
    obtain ⟨_, _, _, p⟩ := (show ObjOk X.prog X.w H s.heap a (.tup xs) from I.hok a _ ea)
    obtain ⟨o, h1, h2, _⟩ := p
    exact PySem.W.kia_one PySem.W.kitx_tuple I.kIn ⟨o, h1, h2⟩ e (fun z => nomatch z) h
  | @dK a kvs ea =>
    cases (show u = Value.ref a from rx)
    obtain ⟨_, _, vs, _, p⟩ := (show ObjOk X.prog X.w H s.heap a (.dK kvs) from I.hok a _ ea)
    obtain ⟨o, es, ep, h1, h2, _⟩ := p
    exact PySem.W.kia_one PySem.W.kitx_dict I.kIn ⟨o, h1, h2.1⟩ e (fun z => nomatch z) h
  | @dT a kvs ea =>
    cases (show u = Value.ref a from rx)
    obtain ⟨_, _, xs, _, o, es, ep, h1, h2, _⟩ := (show ObjOk X.prog X.w H s.heap a (.dT kvs) from I.hok a _ ea)
    exact PySem.W.kia_one PySem.W.kitx_dict I.kIn ⟨o, h1, h2.1⟩ e (fun z => nomatch z) h
  | @ins a C dx fs ea cl ha hn htk hm =>
    cases (show u = Value.ref a from rx)
    obtain ⟨mA, O, _⟩ := ins_get I.hok ea
    obtain ⟨od, J, _⟩ := O.look
    exact PySem.W.kia_one (PySem.W.kitx_own (cl.get _) cl.hd ha hn htk hm) I.kIn J e (fun z => nomatch z) h
end
end L2

namespace L2
open PySem PySem.Spec PyProof.Rows

structure Room (k : Nat) (A : Around) : Prop where
  hd : A.handled = none
  dp : A.depth + 3 * k + 5 < recursionLimit
  un : A.units + 16 * k + 200 < cLine
theorem Room.mono {j k : Nat} {A : Around} (r : Room k A) (h : j ≤ k) : Room j A := ⟨r.hd, by have := r.dp; omega, by have := r.un; omega⟩
theorem Room.deeper {k : Nat} {A : Around} (r : Room (k + 1) A) (env : Env) : Room k (A.deeper env) :=
  ⟨r.hd, by have := r.dp; show A.depth + 1 + 3 * k + 5 < _; omega, by have := r.un; show A.units + 3 + 16 * k + 200 < _; omega⟩
theorem make_depth {A : Around} {C : Addr} {us : List Value} {kw : List (Str × Value)} : (A.under (.builtin "type.__call__" ⟨.ref C :: us, kw⟩)).depth = A.depth + 1 := by
  first | rfl | simp [Around.under, Code.weight, Code.isCreation, Code.isGuard, Code.isCaller, Code.frames, Code.isFrame, guardIds]
theorem make_units {A : Around} {C : Addr} {us : List Value} {kw : List (Str × Value)} : (A.under (.builtin "type.__call__" ⟨.ref C :: us, kw⟩)).units = A.units + 1 := by
  first | rfl | simp [Around.under, Code.cUnits, Code.frames, Code.isFrame]
theorem Room.make {k : Nat} {A : Around} (r : Room (k + 1) A) (C : Addr) (us : List Value) (kw : List (Str × Value)) : Room k (A.under (.builtin "type.__call__" ⟨.ref C :: us, kw⟩)) :=
  ⟨r.hd, by have := r.dp; rw [make_depth]; omega, by have := r.un; rw [make_units]; omega⟩
theorem Room.depth {k : Nat} {A : Around} (r : Room k A) : A.depth < recursionLimit := by have := r.dp; omega
theorem Room.units {k : Nat} {A : Around} (r : Room k A) : A.units + 64 < cLine := by have := r.un; omega
theorem Room.units0 {k : Nat} {A : Around} (r : Room k A) : A.units < cLine := by have := r.un; omega

def tNil : TA := fun _ H Q => Q [] H
def tCons (ta : TE) (tr : TA) : TA := fun σ H Q => ta σ H fun x H1 => tr σ H1 fun xs H2 => Q (x :: xs) H2
section
variable {X : Cx} {e : Expr} {es : List Expr} {te : TE} {t : TA} {pos : Pos}
theorem pa_nil : PA X [] tNil := fun _ _ _ _ H Q I h => Calls.spliced_nil ⟨[], H, I, .nil, h⟩
theorem pa_cons (ha : PE X e te) (hr : PA X es t) (hs : starEach (e :: es) X.env = (false, eval e X.env) :: starEach es X.env := by rfl) : PA X (e :: es) (tCons te t) := by
  intro pos pins s σ H Q I h
  rw [hs]
  show wpAny _ _ (spliced ((false, eval e X.env) :: backTo pos (starEach es X.env))) _ _ s
  refine Calls.spliced_cons (thn (ha pins s σ H _ I h) fun u s1 ⟨x, H1, I1, r1, q1⟩ => ?_)
  exact thn (hr pos pins s1 σ H1 _ I1 q1) fun us s2 ⟨xs, H2, I2, r2, q2⟩ => ⟨x :: xs, H2, I2, .cons r1 r2, q2⟩

end

abbrev Sp := List V → Hp → VK → XK → Prop
abbrev CXT := List Env → Hp → Shared → XK → Value → Shared → Prop

structure Env0 (P : Program) (w : World) (K : PySem.W.Frag) (mg : Str → Option Value) (base : Heap) (A : Around) (outer : List Env) (s : Shared) (H : Hp) : Prop where
  frames : A.frames = some outer
  mod : Mod K mg base
  bs : ∀ b o, base.get? b = some o → s.heap.get? b = some o ∧ H b = none
  bsz : base.objs.size ≤ s.heap.objs.size
  funs : s.heap.FunFrames base outer
  frf : ∀ b ∈ frs outer, H b = none
  hok : HOk P w H s.heap
  bare : AllBare s.gens
def CE (outer : List Env) (P : Program) (w : World) (H : Hp) (s : Shared) (Q : VK) (u : Value) (s' : Shared) : Prop :=
  ∃ v H', s'.os = s.os ∧ AllBare s'.gens ∧ Un (frs outer) [] H H' s.heap s'.heap ∧ HOk P w H' s'.heap ∧ RelV v u ∧ Q v H'
def CR (CX : CXT) (outer : List Env) (P : Program) (w : World) (H : Hp) (s : Shared) (Q : VK) (E : XK) (r : Result) (s' : Shared) : Prop :=
  match r with
  | .ok (.ret u) => CE outer P w H s Q u s'
  | .ok _ => False
  | .error e => CX outer H s E e s'
structure FnOk (P : Program) (w : World) (K : PySem.W.Frag) (mg : Str → Option Value) (base : Heap) (CX : CXT) (k : Nat) (f : Addr) (fd : FuncData) (ps : List Str) (sp : Sp) : Prop where
  len : ∀ vs H Q E, sp vs H Q E → vs.length = ps.length
  run : ∀ (A : Around) (outer : List Env) (s : Shared) (H : Hp) (args : Args) (us : List Value) (vs : List V) (Q : VK) (E : XK), Room k A → Env0 P w K mg base A outer s H → BindsTo s fd args (ps.zip us) → Vals vs us → sp vs H Q E →
    codeAny (model P w) A (.call (.ref f) args) (CR CX outer P w H s Q E) s
theorem FnOk.imp {P : Program} {w : World} {K : PySem.W.Frag} {mg : Str → Option Value} {base : Heap} {CX : CXT} {k : Nat} {f : Addr} {fd : FuncData} {ps : List Str} {sp sp' : Sp} (F : FnOk P w K mg base CX k f fd ps sp)
    (h : ∀ vs H Q E, sp' vs H Q E → sp vs H Q E) : FnOk P w K mg base CX k f fd ps sp' :=
  ⟨fun vs H Q E q => F.len vs H Q E (h _ _ _ _ q), fun A outer s H args us vs Q E hr he hb hv hs => F.run A outer s H args us vs Q E hr he hb hv (h _ _ _ _ hs)⟩

theorem Env0.make {P : Program} {w : World} {K : PySem.W.Frag} {mg : Str → Option Value} {base : Heap} {A : Around} {outer : List Env} {s : Shared} {H : Hp} (e : Env0 P w K mg base A outer s H) (C : Addr) (us : List Value) (kw : List (Str × Value)) :
    Env0 P w K mg base (A.under (.builtin "type.__call__" ⟨.ref C :: us, kw⟩)) outer s H := ⟨by first | exact e.frames | (simpa [Around.under, Code.envs, Code.isFrame, pushEnvs] using e.frames), e.mod, e.bs, e.bsz, e.funs, e.frf, e.hok, e.bare⟩
section
variable {X : Cx} {pins : List (Addr × Obj)} {σ : St} {H : Hp} {s s' : Shared}
theorem Inv.env0 (I : Inv X pins σ H s) : Env0 X.prog X.w X.K X.mg X.base X.A X.stack s H :=
  ⟨I.ok.frames, I.ok.mod, I.bs, Nat.le_trans I.ok.bsz I.sz, I.stack, I.stkFree, I.hok, I.bare⟩
theorem Inv.after {Q : VK} {u : Value} (I : Inv X pins σ H s) (h : CE X.stack X.prog X.w H s Q u s') : EP X pins σ Q u s' := by
  obtain ⟨v, H', os, bare, un, hok, r, q⟩ := h
  obtain ⟨hh, g, d, t, os'⟩ := s'
  obtain rfl : os' = s.os := os
  exact ⟨v, H', I.call (h' := hh) (g' := g) (d' := d) (t' := t) (ch := []) un hok bare (fun b z => absurd z (by simp)), r, q⟩
end

def tCall (sp : Sp) (dvs : List V) (E : XK) (t : TA) : TE := fun σ H Q => t σ H fun vs H1 => sp (vs ++ dvs) H1 Q E
def tMeth (C : Addr) (m : Str) (sp : Sp) (dvs : List V) (E : XK) (ta : TE) (t : TA) : TE := fun σ H Q => ta σ H fun x H1 => ∃ a dx fs, x = .ref a ∧ H1 a = some (.ins C dx fs) ∧ fs.lookup m = none ∧
  t σ H1 fun vs H2 => sp (x :: (vs ++ dvs)) H2 Q E
def tMake (C : Addr) (sp : Sp) (dvs : List V) (E : XK) (t : TA) : TE := fun σ H Q => t σ H fun vs H1 => ∀ x dx, H1 x = none → H1 dx = none → dx ≠ x →
  sp (.ref x :: (vs ++ dvs)) (upd (upd H1 dx (.own x)) x (.ins C dx [])) (fun v H2 => v = .non ∧ Q (.ref x) H2) E

def Binds (K : PySem.W.Frag) (fd : FuncData) (ps : List Str) (ds : List Value) : Prop :=
  ∀ (s : Shared) (us : List Value), K.In s.heap → (us ++ ds).length = ps.length → BindsTo s fd ⟨us, []⟩ (ps.zip (us ++ ds))
theorem Binds.all {K : PySem.W.Frag} {fd : FuncData} {ps : List Str} (h : ∀ us : List Value, us.length = ps.length → bindArgs fd ⟨us, []⟩ = pure (ps.zip us)) : Binds K fd ps [] := fun s us _ hl => by
  rw [List.append_nil] at hl ⊢
  exact .of_eq (h us hl)

def Passes (CX : CXT) (X : Cx) (E : XK) : Prop := ∀ (pins : List (Addr × Obj)) (σ : St) (H : Hp) (s : Shared) (e : Value) (s' : Shared), Inv X pins σ H s → CX X.stack H s E e s' → X.xe e s'

section
variable {X : Cx} {CX : CXT} {k : Nat} {f C : Addr} {fd : FuncData} {ps : List Str} {sp : Sp} {dvs : List V} {ds : List Value} {E : XK} {x m : Str} {p pos apos : Pos} {e o : Expr} {es : List Expr} {ta : TE} {t : TA}

theorem run_fn {pins : List (Addr × Obj)} {σ : St} {H : Hp} {s : Shared} {Q : VK} {us : List Value} {vs : List V} (F : FnOk X.prog X.w X.K X.mg X.base CX k f fd ps sp) (hr : Room k X.A) (hb : Binds X.K fd ps ds) (hd : Vals dvs ds) (hx : Passes CX X E)
    (I : Inv X pins σ H s) (r : Vals vs us) (h : sp (vs ++ dvs) H Q E) : wpAny (model X.prog X.w) X.A (call (.ref f) us) (EP X pins σ Q) X.xe s := by
  have r2 : Vals (vs ++ dvs) (us ++ ds) := r.append hd
  have hl : (us ++ ds).length = ps.length := by rw [← r2.length]; exact F.len _ _ _ _ h
  refine wpAny_call (codeAny_mono (F.run X.A X.stack s H ⟨us, []⟩ (us ++ ds) (vs ++ dvs) Q E hr I.env0 (hb s us I.kIn hl) r2 h) fun r s' hq => ?_)
  cases r with
  | error e => exact hx pins σ H s e s' I hq
  | ok fl =>
    cases fl with
    | ret u => exact I.after hq
    | next => exact False.elim hq
    | brk => exact False.elim hq
    | cont => exact False.elim hq

theorem pe_call (F : FnOk X.prog X.w X.K X.mg X.base CX k f fd ps sp) (hr : Room k X.A) (hg : Gl X x) (hm : X.mg x = some (.ref f)) (hk : PySem.W.keepIn X.K (.ref f) = true) (hb : Binds X.K fd ps ds) (hd : Vals dvs ds) (hx : Passes CX X E)
    (ha : PA X (e :: es) t) (hdb : (x == ("__debug__" : Str)) = false := by decide) (he : starEach (e :: es) X.env = (false, eval e X.env) :: starEach es X.env := by rfl) (hpl : (backTo pos (starEach es X.env)).any (·.1) = false := by rfl) :
    PE X (.Call (.Name x p) (e :: es) [] pos) (tCall sp dvs E t) := by
  intro pins s σ H Q I h
  refine wpAny_Call_Name_kw (ld_glob I hg hm ?_ hdb)
  refine PySem.W.callWith_K (h₀ := X.base) I.ok.mod.kin hk (thn (ha pos pins s σ H _ I h) fun us s1 ⟨vs, H1, I1, r, q⟩ => ⟨I1.kIn, ?_⟩) he hpl
  exact run_fn F hr hb hd hx I1 r q
theorem pe_meth0 {pl : Sem Bool} (he : PE X o ta) (c : Cls X.K C) (hm : Meth X.K C m f) (F : FnOk X.prog X.w X.K X.mg X.base CX k f fd ps sp) (hr : Room k X.A) (hb : Binds X.K fd ps ds) (hd : Vals dvs ds) (hx : Passes CX X E)
    (ht : eval (.Call (.Attribute o m apos) [] [] pos) X.env = (do
      let ov ← eval o X.env
      standAt apos.atName
      let (f, first) ← holding [ov] (getMethod ov m pl)
      callWith pos f first (backTo pos (starEach [] X.env)) (backToKw pos (keywordEach [] X.env))) := by rfl) :
    PE X (.Call (.Attribute o m apos) [] [] pos) (tMeth C m sp dvs E ta tNil) := by
  intro pins s σ H Q I h
  refine PySem.W.methodCall_KW (pl := pl) (thn (he pins s σ H _ I h) fun u s1 ⟨x, H1, I1, rx, a, dx, fs, ex, ea, l, q⟩ => ?_) ht
  subst ex
  obtain rfl : u = Value.ref a := rx
  refine getmeth_ok I1 ea c hm l ?_
  exact PySem.W.callWith_K0 (first := [.ref a]) I1.kIn hm.kp (run_fn (us := [.ref a]) (vs := [.ref a]) F hr hb hd hx I1 (.cons rfl .nil) q)

structure Mk (K : PySem.W.Frag) (C f : Addr) : Prop where
  makes : PySem.W.makesIn K C = true
  init : PySem.W.findIn K (.ref C) "__init__" = some (some (.ref f))
  fn : PySem.W.isFn K (.ref f) = true
  kp : PySem.W.keepIn K (.ref C) = true

theorem run_make {pins : List (Addr × Obj)} {σ : St} {H : Hp} {s : Shared} {Q : VK} {us : List Value} {vs : List V} (M : Mk X.K C f) (F : FnOk X.prog X.w X.K X.mg X.base CX k f fd ps sp) (hr : Room (k + 1) X.A) (hb : Binds X.K fd ps ds) (hd : Vals dvs ds)
    (hx : Passes CX X E) (I : Inv X pins σ H s) (r : Vals vs us)
    (h : ∀ x dx, H x = none → H dx = none → dx ≠ x → sp (.ref x :: (vs ++ dvs)) (upd (upd H dx (.own x)) x (.ins C dx [])) (fun v H2 => v = .non ∧ Q (.ref x) H2) E) :
    wpAny (model X.prog X.w) X.A (call (.ref C) us) (EP X pins σ Q) X.xe s := by
  have hq := h (s.heap.objs.size + 1) s.heap.objs.size (I.hok.fresh (Nat.le_succ _)) (I.hok.fresh (Nat.le_refl _)) (Nat.ne_of_lt (Nat.lt_succ_self _))
  have I2 := Inv.made (C := C) I
  have r2 : Vals (V.ref (s.heap.objs.size + 1) :: (vs ++ dvs)) (Value.ref (s.heap.objs.size + 1) :: (us ++ ds)) := .cons rfl (r.append hd)
  have hl : (Value.ref (s.heap.objs.size + 1) :: us ++ ds).length = ps.length := by
    have e := r2.length
    rw [F.len _ _ _ _ hq] at e
    exact e.symm
  refine wpAny_call (make_map (f := f) I.kIn M.makes M.init (beq_iff_eq.mp M.fn) (codeAny_mono (F.run _ X.stack _ _ ⟨Value.ref (s.heap.objs.size + 1) :: us, []⟩ (Value.ref (s.heap.objs.size + 1) :: (us ++ ds)) _ _ E (hr.make C us [])
    (I2.env0.make C us []) (hb _ (Value.ref (s.heap.objs.size + 1) :: us) I2.kIn hl) r2 hq) fun r s' hq' => ?_))
  cases r with
  | error e => exact hx pins σ _ _ e s' I2 hq'
  | ok fl =>
    cases fl with
    | ret u =>
      obtain ⟨v, H', I3, rv, ev, q3⟩ := I2.after hq'
      subst ev
      exact ⟨rv, ⟨V.ref (s.heap.objs.size + 1), H', I3, rfl, q3⟩⟩
    | next => exact False.elim hq'
    | brk => exact False.elim hq'
    | cont => exact False.elim hq'
theorem pe_make (M : Mk X.K C f) (F : FnOk X.prog X.w X.K X.mg X.base CX k f fd ps sp) (hr : Room (k + 1) X.A) (hg : Gl X x) (hm : X.mg x = some (.ref C)) (hb : Binds X.K fd ps ds) (hd : Vals dvs ds) (hx : Passes CX X E)
    (ha : PA X (e :: es) t) (hdb : (x == ("__debug__" : Str)) = false := by decide) (he : starEach (e :: es) X.env = (false, eval e X.env) :: starEach es X.env := by rfl) (hpl : (backTo pos (starEach es X.env)).any (·.1) = false := by rfl) :
    PE X (.Call (.Name x p) (e :: es) [] pos) (tMake C sp dvs E t) := by
  intro pins s σ H Q I h
  refine wpAny_Call_Name_kw (ld_glob I hg hm ?_ hdb)
  refine PySem.W.callWith_K (h₀ := X.base) I.ok.mod.kin M.kp (thn (ha pos pins s σ H _ I h) fun us s1 ⟨vs, H1, I1, r, q⟩ => ⟨I1.kIn, ?_⟩) he hpl
  exact run_make M F hr hb hd hx I1 r q
end

section
variable {X : Cx} {CX : CXT} {k : Nat} {f C : Addr} {fd : FuncData} {ps ks : List Str} {sp : Sp} {E : XK} {x m : Str} {p pos apos kpos : Pos} {e o : Expr} {es : List Expr} {kws : List Keyword} {te ta : TE} {t tk : TA} {nm : Option Str}
structure KBinds (K : PySem.W.Frag) (fd : FuncData) (ps ks : List Str) (g : List Value → List Value → List Value) (gV : List V → List V → List V) : Prop where
  to : ∀ (s : Shared) (us ws : List Value), K.In s.heap → (g us ws).length = ps.length → BindsTo s fd ⟨us, ks.zip ws⟩ (ps.zip (g us ws))
  rel : ∀ {vs : List V} {us : List Value} {zs : List V} {ws : List Value}, Vals vs us → Vals zs ws → Vals (gV vs zs) (g us ws)
variable {g : List Value → List Value → List Value} {gV : List V → List V → List V}
end

structure FnScope (N P : List Str) (sc : Scope) : Prop where
  kind : sc.kind = .function
  co : sc.isCoroutine = false
  gen : sc.isGenerator = false
  nd : N.Nodup
  pre : N.take P.length = P
  par : ∀ x ∈ P, sc.names.lookup x = some .local ∨ sc.names.lookup x = some .cell
  nofree : ∀ y ∈ sc.names, y.2 ≠ .free

theorem bindL_out {kindOf : Str → Option NameKind} {x : Str} : ∀ {binds : List (Str × Value)} {m : Str → Option Value}, (∀ v, (x, v) ∉ binds) → bindL kindOf binds m x = m x
  | [], _, _ => rfl
  | (n, v) :: r, m, h => by
    unfold bindL
    rw [bindL_out fun w hw => h w (List.mem_cons_of_mem _ hw)]
    split
    · have : x ≠ n := by rintro rfl; exact h v List.mem_cons_self
      simp [this]
    · rfl
theorem bindC_out {kindOf : Str → Option NameKind} {x : Str} : ∀ {binds : List (Str × Value)} {m : Str → Option Value}, (∀ v, (x, v) ∉ binds) → bindC kindOf binds m x = m x
  | [], _, _ => rfl
  | (n, v) :: r, m, h => by
    unfold bindC
    rw [bindC_out fun w hw => h w (List.mem_cons_of_mem _ hw)]
    split
    · rfl
    · have : x ≠ n := by rintro rfl; exact h v List.mem_cons_self
      simp [this]
theorem bindL_get {kindOf : Str → Option NameKind} {x : Str} {v : Value} : ∀ {P : List Str} {vs : List Value} {i : Nat} {m : Str → Option Value}, P.Nodup → P[i]? = some x → vs[i]? = some v → kindOf x = some .local →
    bindL kindOf (P.zip vs) m x = some v
  | [], _, _, _, _, h, _, _ => by simp at h
  | _ :: _, [], _, _, _, _, h, _ => by simp at h
  | p :: P, w :: vs, 0, m, nd, h1, h2, hk => by
    simp at h1 h2; subst h1; subst h2
    show bindL kindOf ((p, w) :: P.zip vs) m p = _
    unfold bindL
    rw [bindL_out fun v hv => (List.nodup_cons.mp nd).1 (List.of_mem_zip hv).1, if_pos hk]
    simp
  | p :: P, w :: vs, i + 1, m, nd, h1, h2, hk => by
    show bindL kindOf ((p, w) :: P.zip vs) m x = _
    unfold bindL
    exact bindL_get (i := i) (List.nodup_cons.mp nd).2 (by simpa using h1) (by simpa using h2) hk
theorem bindC_get {kindOf : Str → Option NameKind} {x : Str} {v : Value} : ∀ {P : List Str} {vs : List Value} {i : Nat} {m : Str → Option Value}, P.Nodup → P[i]? = some x → vs[i]? = some v → kindOf x ≠ some .local →
    bindC kindOf (P.zip vs) m x = some v
  | [], _, _, _, _, h, _, _ => by simp at h
  | _ :: _, [], _, _, _, _, h, _ => by simp at h
  | p :: P, w :: vs, 0, m, nd, h1, h2, hk => by
    simp at h1 h2; subst h1; subst h2
    show bindC kindOf ((p, w) :: P.zip vs) m p = _
    unfold bindC
    rw [bindC_out fun v hv => (List.nodup_cons.mp nd).1 (List.of_mem_zip hv).1, if_neg hk]
    simp
  | p :: P, w :: vs, i + 1, m, nd, h1, h2, hk => by
    show bindC kindOf ((p, w) :: P.zip vs) m x = _
    unfold bindC
    exact bindC_get (i := i) (List.nodup_cons.mp nd).2 (by simpa using h1) (by simpa using h2) hk

def start (N : List Str) (vs : List V) : St := vs.map some ++ List.replicate (N.length - vs.length) none

def cxOf (CX : CXT) (P : Program) (w : World) (K : PySem.W.Frag) (mg : Str → Option Value) (base : Heap) (N : List Str) (qual : Str) (scope : Scope) (f : Addr) (cd : Value) (A : Around) (outer : List Env) (s : Shared) (H : Hp) (E : XK) : Cx where
  prog := P
  w := w
  K := K
  mg := mg
  base := base
  A := A.deeper (envOfC qual scope s.heap.objs.size f cd)
  N := N
  s₀ := s
  H₀ := H
  env := envOfC qual scope s.heap.objs.size f cd
  outer := outer
  stack := envOfC qual scope s.heap.objs.size f cd :: outer
  ex := []
  calm := true
  fn := fun _ => true
  pn := []
  xe := fun e s' => wpAny (model P w) (A.deeper (envOfC qual scope s.heap.objs.size f cd)) (leaving (envOfC qual scope s.heap.objs.size f cd) e) (fun _ s'' => CX outer H s E e s'') (fun e' s'' => CX outer H s E e' s'') s'

theorem cell_has {sc : Scope} {n : Nat} {x : Str} (h : sc.names.lookup x = some .cell) : ∃ c, (cellsFrom n sc.names []).lookup x = some c := by
  have q := PySem.W.cellsFrom_some sc.names n [] (.inl h)
  exact Option.isSome_iff_exists.mp q

theorem inv_start {CX : CXT} {P : Program} {w : World} {K : PySem.W.Frag} {mg : Str → Option Value} {base : Heap} {N ps : List Str} {qual : Str} {scope : Scope} {f : Addr} {cd : Value} {A : Around} {outer : List Env} {s s1 : Shared} {H : Hp} {E : XK} {us : List Value} {vs : List V}
    (S : FnScope N ps scope) (hd : A.handled = none) (e0 : Env0 P w K mg base A outer s H) (hl : vs.length = ps.length) (r : Vals vs us)
    (x : InCallC s s.heap.objs.size (bindL (envOfC qual scope s.heap.objs.size f cd).kindOf (ps.zip us) fun _ => none) (cellsFrom (s.heap.objs.size + 1) scope.names []) (bindC (envOfC qual scope s.heap.objs.size f cd).kindOf (ps.zip us) fun _ => none) s1) :
    Inv (cxOf CX P w K mg base N qual scope f cd A outer s H E) [] (start N vs) H s1 := by
  have hpl : ps.length ≤ N.length := by have := congrArg List.length S.pre; rw [List.length_take] at this; omega
  obtain ⟨h1, tk, rfl, hk⟩ := x.done
  have noA : ∀ b : Addr, b ∉ (cxOf CX P w K mg base N qual scope f cd A outer s H E).ex := fun b z => absurd (show b ∈ ([] : List Addr) from z) (by simp)
  refine ⟨⟨e0.mod, S.kind, rfl, rfl, Nat.le_refl _, fun y z c h1 h2 => ?_, fun y hy => ?_, fun y c _ h => ?_, fun _ => hd, Around.frames_deeper e0.frames, .inr ⟨rfl, rfl⟩, fun b z => absurd z (noA b), e0.bs, e0.bsz, fun b _ _ => noA b, fun b z => absurd z (noA b), e0.funs, e0.frf⟩,
    rfl, e0.bare, Un.kept hk, ⟨_, x.toInCall.ns, fun i y v h1 h2 h3 => ?_⟩, fun y c h => ⟨_, x.cell y c h⟩, e0.hok.fresh (Nat.le_refl _), fun y c h => ?_, fun p hp => absurd (show p ∈ ([] : List (Addr × Obj)) from hp) (by simp), e0.hok.kept hk, ?_⟩
  · exact name_of_addr x.apart (PySem.mem_of_lookup h1) (PySem.mem_of_lookup h2)
  · have hy : scope.names.lookup y = some .cell ∨ scope.names.lookup y = some .free := hy
    rcases hy with hy | hy
    · exact cell_has hy
    · exact absurd rfl (S.nofree _ (PySem.mem_of_lookup hy))
  · exact Nat.le_of_lt (x.above y c (PySem.mem_of_lookup h))
  · have hi : i < vs.length := by
      unfold start at h2
      by_cases hi : i < vs.length
      · exact hi
      · rw [List.getElem?_append_right (by simpa using hi)] at h2
        rw [List.getElem?_replicate] at h2
        split at h2 <;> cases h2
    have ha : vs[i]? = some v := by
      unfold start at h2
      rw [List.getElem?_append_left (by simpa using hi), List.getElem?_map] at h2
      cases e : vs[i]? with
      | none => rw [e] at h2; cases h2
      | some a => rw [e] at h2; cases h2; rfl
    obtain ⟨u, hu, rv⟩ := r.get ha
    have hp : ps[i]? = some y := by
      rw [← S.pre, List.getElem?_take_of_lt (by omega)]; exact h1
    have ndP : ps.Nodup := by rw [← S.pre]; exact S.nd.sublist (List.take_sublist _ _)
    refine ⟨u, rv, ?_⟩
    rcases S.par y (List.mem_of_getElem? hp) with k | k
    · exact .inl ⟨k, bindL_get ndP hp hu k⟩
    · obtain ⟨c, e⟩ := cell_has (n := s.heap.objs.size + 1) k
      refine .inr ⟨.inl k, c, e, ?_⟩
      have q := x.cell y c e
      rw [bindC_get ndP hp hu (by show scope.names.lookup y ≠ _; rw [k]; decide)] at q
      exact q
  · exact e0.hok.fresh (Nat.le_of_lt (x.above y c (PySem.mem_of_lookup h)))
  · unfold start
    show _ = N.length
    rw [List.length_append, List.length_map, List.length_replicate]
    omega

theorem fn_of {CX : CXT} {P : Program} {w : World} {K : PySem.W.Frag} {mg : Str → Option Value} {base : Heap} {k : Nat} {f : Addr} {name qual : Str} {params : Arguments} {body : List Stmt} {scope : Scope} {dV kV doc pm cdv ct oc : Value} {an od : Option Addr}
    {osl : Array (Option Value)} {N ps : List Str} {sp : Sp} (lk : K.lookup f = some ⟨oc, od, .func (PySem.W.fnOf name qual params body scope dV kV doc pm an cdv ct), osl⟩) (hcd : PySem.W.codeIn K cdv qual = true) (S : FnScope N ps scope)
    (len : ∀ vs H Q E, sp vs H Q E → vs.length = ps.length)
    (hbody : ∀ (A : Around) (outer : List Env) (s : Shared) (H : Hp) (vs : List V) (Q : VK) (E : XK), Room k (A.deeper (envOfC qual scope s.heap.objs.size f cdv)) → sp vs H Q E →
      ∃ t, PSs (cxOf CX P w K mg base N qual scope f cdv A outer s H E) body t ∧ t { nx := fun _ H' => Q .non H', rt := Q } (start N vs) H) :
    FnOk P w K mg base CX (k + 1) f (PySem.W.fnOf name qual params body scope dV kV doc pm an cdv ct) ps sp := by
  refine ⟨len, fun A outer s H args us vs Q E hr e0 hb r hsp => ?_⟩
  have hl := len _ _ _ _ hsp
  have KX : K.In s.heap := e0.mod.kin.keeps fun b o e => (e0.bs b o e).1
  have lim : s.heap.NoLimit := e0.mod.nolimit.keeps fun b o e => (e0.bs b o e).1
  have hkind : ∀ y ∈ ps.zip us, scope.names.lookup y.1 = some .local ∨ (scope.names.lookup y.1 = some .cell ∧ ((cellsFrom (s.heap.objs.size + 1) scope.names []).lookup y.1).isSome = true) := fun ⟨n, v⟩ hy => by
    rcases S.par n (List.of_mem_zip hy).1 with q | q
    · exact .inl q
    · exact .inr ⟨q, PySem.W.cellsFrom_some _ _ _ (.inl q)⟩
  refine codeAny_call_function hr.depth (KX _ _ lk) rfl S.co S.gen rfl (PySem.W.codeRec_of KX hcd) (hb _ _ _ _ ?_)
  refine wpAny_newFunctionEnv_cells S.kind hkind fun env he s1 x => ?_
  subst he
  refine ⟨lim.keeps x.toInCall.keep, codeAny_func ?_⟩
  obtain ⟨t, ht, hq⟩ := hbody A outer s H vs Q E (hr.deeper _) hsp
  have I : Inv (cxOf CX P w K mg base N qual scope f cdv A outer s H E) [] (start N vs) H s1 := inv_start S hr.hd e0 hl r x
  refine wpAny_mono (ht [] s1 (start N vs) H _ I hq) (fun fl s' hs => ?_) fun e s' hs => hs
  have fin : ∀ {σ' : St} {H' : Hp} {v : V} {u : Value}, Inv (cxOf CX P w K mg base N qual scope f cdv A outer s H E) [] σ' H' s' → RelV v u → Q v H' → CE outer P w H s Q u s' :=
    fun {σ' H' v u} J rv q => ⟨v, H', J.os, J.bare, J.base, J.hok, rv, q⟩
  cases fl with
  | ret u =>
    obtain ⟨v, σ', H', J, rv, q⟩ := hs
    exact fin J rv q
  | next =>
    obtain ⟨σ', H', J, q⟩ := hs
    exact fin (v := V.non) (u := Value.none) J rfl q
  | brk =>
    obtain ⟨_, _, _, q⟩ := hs
    exact False.elim q
  | cont =>
    obtain ⟨_, _, _, q⟩ := hs
    exact False.elim q
end L2

namespace L2
open PySem PySem.Spec PyProof.Rows
section
variable {X : Cx} {x : Str} {p pos : Pos} {e : Expr} {es : List Expr} {t : TA} {id T : String} {r : List V → Hp → VK → Prop}

def tCB (r : List V → Hp → VK → Prop) (t : TA) : TE := fun σ H Q => t σ H fun vs H1 => r vs H1 Q
theorem pe_callB (hc : CallR X (.builtin id) r) (hg : Gl X x) (hm : X.mg x = none) (hv : bootBuiltins x = some (.builtin id)) (ha : PA X (e :: es) t) (hn : x ≠ "__name__" := by decide) (hdb : (x == ("__debug__" : Str)) = false := by decide)
    (he : starEach (e :: es) X.env = (false, eval e X.env) :: starEach es X.env := by rfl) (hpl : (backTo pos (starEach es X.env)).any (·.1) = false := by rfl) : PE X (.Call (.Name x p) (e :: es) [] pos) (tCB r t) := by
  intro pins s σ H Q I h
  refine wpAny_Call_Name_kw (ld_blt I hg hm hv ?_ hn hdb)
  exact PyProof.Rows.callWith_builtin1 (thn (ha pos pins s σ H _ I h) fun us s1 ⟨vs, H1, I1, r1, q1⟩ => hc pins s1 σ H1 vs us Q I1 r1 q1) he hpl
theorem pe_callTy (hc : CallR X (.type T) r) (hg : Gl X x) (hm : X.mg x = none) (hv : bootBuiltins x = some (.type T)) (ha : PA X (e :: es) t) (hn : x ≠ "__name__" := by decide) (hdb : (x == ("__debug__" : Str)) = false := by decide)
    (he : starEach (e :: es) X.env = (false, eval e X.env) :: starEach es X.env := by rfl) (hpl : (backTo pos (starEach es X.env)).any (·.1) = false := by rfl) : PE X (.Call (.Name x p) (e :: es) [] pos) (tCB r t) := by
  intro pins s σ H Q I h
  refine wpAny_Call_Name_kw (ld_blt I hg hm hv ?_ hn hdb)
  exact PyProof.Rows.callWith_type1 (thn (ha pos pins s σ H _ I h) fun us s1 ⟨vs, H1, I1, r1, q1⟩ => hc pins s1 σ H1 vs us Q I1 r1 q1) he hpl
end
end L2

namespace HT
open PySem PyProof.Rows

theorem rcLt_int (A : Around) (s : Shared) (a : Int) (t : Tok) (c : Int) (u : Tok) (prog : Program) (w : World) (E : Value → Shared → Prop) (Q : Value → Shared → Prop) (h : Q (.bool (decide (a < c))) s) :
    wpAny (model prog w) A (richCompare .Lt (.int a t) (.int c u)) Q E s :=
  (PyProof.Rows.lt_int h : wpAny (model prog w) A (compareOp .Lt (.int a t) (.int c u)) Q E s)

section
open PySem.SeqAt
open PySem.AutoSeq1 (wpAny_loadPart')
open PySem.MeetsSeq PySem.MeetsSeq2 PySem.MeetsSeq3

end

section
variable {prog : Program} {w : World} {A : Around} {E : Value → Shared → Prop} {s : Shared}

theorem cat_tup {t b : Addr} {vs ws : List Value} {Q : Value → Shared → Prop} (ht : IsTup s.heap t vs.toArray) (hb : IsTup s.heap b ws.toArray) (hv : vs ≠ [])
    (h1 : ws = [] → Q (.ref t) s) (h2 : ws ≠ [] → Q (.ref s.heap.objs.size) { s with heap := s.heap.push { cls := .type "tuple", data := .seq (vs ++ ws).toArray } })
    (hsz : vs.length + ws.length ≤ sizeLine) : wpAny (model prog w) A (binaryOp .Add (.ref t) (.ref b)) Q E s := by
  obtain ⟨⟨cls, dd, data, sl⟩, ho, hc, n, hd⟩ := id ht
  obtain ⟨⟨cls2, dd2, data2, sl2⟩, ho2, hc2, n2, hd2⟩ := id hb
  simp only at hc hd hc2 hd2
  subst hc hd hc2 hd2
  have e : vs.toArray ++ ws.toArray = (vs ++ ws).toArray := by simp
  by_cases hw : ws = []
  · exact concat_meets ⟨_, ho, rfl⟩ ⟨_, ho2, rfl⟩ noFill_tuple_add seq_tuple_add PySem.F.slot_tuple_add PySem.F.entry_tuple_add (PySem.F.args_tuple_add_2 _ _)
      (tuple_addW1 t b vs.toArray ws.toArray n n2 dd dd2 sl sl2 (by simpa using hv) (by simp [hw])) ⟨ho, ho2, h1 hw⟩
  · refine concat_meets ⟨_, ho, rfl⟩ ⟨_, ho2, rfl⟩ noFill_tuple_add seq_tuple_add PySem.F.slot_tuple_add PySem.F.entry_tuple_add (PySem.F.args_tuple_add_2 _ _)
      (tuple_addW2 t b vs.toArray ws.toArray n n2 dd dd2 sl sl2 (by simpa using hv) (by simpa using hw) (by rw [List.size_toArray, List.size_toArray]; exact hsz)) ⟨ho, ho2, ?_⟩
    rw [e]
    exact h2 hw

def sIx (n d : Nat) : Option Int → Nat
  | none => d
  | some v => if v < 0 then (v + (n : Int)).toNat else min v.toNat n
theorem sIx_none (n d : Nat) : sIx n d none = d := rfl
theorem sIx_le (n d : Nat) (hd : d ≤ n) (o : Option Int) : sIx n d o ≤ n := by
  cases o with
  | none => exact hd
  | some v =>
    show (if v < 0 then (v + (n : Int)).toNat else min v.toNat n) ≤ n
    by_cases hv : v < 0
    · rw [if_pos hv]; omega
    · rw [if_neg hv]; exact Nat.min_le_right _ _
theorem clip_eq (v : Int) (n d : Nat) : (if v < 0 then max (v + (n : Int)) 0 else min v (n : Int)) = ((sIx n d (some v) : Nat) : Int) := by
  show (if v < 0 then max (v + (n : Int)) 0 else min v (n : Int)) = (((if v < 0 then (v + (n : Int)).toNat else min v.toNat n) : Nat) : Int)
  by_cases hv : v < 0
  · simp only [if_pos hv]; omega
  · simp only [if_neg hv]; omega
theorem adjust_gen (lo hi : Option Int) (n : Nat) : Builtin.Slice.sliceAdjust lo hi 1 (n : Int) = (((sIx n 0 lo : Nat) : Int), ((sIx n n hi : Nat) : Int)) := by
  have h1 : ¬ ((1 : Int) < 0) := by omega
  unfold Builtin.Slice.sliceAdjust
  simp only [h1, if_false]
  refine Prod.ext ?_ ?_
  · cases lo with
    | none => rfl
    | some v => exact clip_eq v n 0
  · cases hi with
    | none => rfl
    | some v => exact clip_eq v n n
theorem places_gen (i j : Nat) : Builtin.Slice.slicePlaces (i : Int) (j : Int) 1 = j - i := by
  unfold Builtin.Slice.slicePlaces
  have h1 : (1 : Int) > 0 := by omega
  simp only [h1, if_true, Int.ediv_one]
  split <;> omega
theorem slicePart_ {v : Value} {o : Option Int} {Q : Option Int → Shared → Prop} (p : IsPart v o) (h : Q o s) : wpAny (model prog w) A (Builtin.Slice.slicePartIndex v) Q E s := by
  cases p with
  | none => exact slicePart_none h
  | int i t => exact slicePart_int h
theorem sliceApplied_gen {sl : Addr} {vl vu : Value} {lo hi : Option Int} {n : Nat} {Q : Int × Int × Nat → Shared → Prop} (hs : s.heap.IsSliceOf sl vl vu .none) (pl : IsPart vl lo) (pu : IsPart vu hi)
    (h : Q (((sIx n 0 lo : Nat) : Int), 1, sIx n n hi - sIx n 0 lo) s) : wpAny (model prog w) A (Builtin.Slice.sliceApplied (.ref sl) (pure (n : Int))) Q E s := by
  obtain ⟨os, hos, hcs, hds⟩ := id hs
  unfold Builtin.Slice.sliceApplied Builtin.Slice.sliceFields
  refine wpAny_bind (wpAny_bind (wpAny_field hos hds (x := vl) rfl (wpAny_bind (wpAny_field hos hds (x := vu) rfl (wpAny_bind (wpAny_field hos hds (x := .none) rfl (wpAny_pure ?_)))))))
  refine wpAny_bind (slicePart_none ?_)
  show wpAny _ _ (if ((1 : Int) == 0) = true then _ else _) _ _ s
  rw [if_neg (by decide)]
  refine wpAny_bind (slicePart_ pl (wpAny_bind (slicePart_ pu (wpAny_bind (wpAny_pure ?_)))))
  show wpAny _ _ (match Builtin.Slice.sliceAdjust lo hi 1 (n : Int) with | (lo, hi) => pure (lo, (1 : Int), Builtin.Slice.slicePlaces lo hi 1)) _ _ s
  rw [adjust_gen lo hi n]
  show wpAny _ _ (pure (((sIx n 0 lo : Nat) : Int), (1 : Int), Builtin.Slice.slicePlaces ((sIx n 0 lo : Nat) : Int) ((sIx n n hi : Nat) : Int) 1)) _ _ s
  rw [places_gen]
  exact wpAny_pure h
theorem pick_gen (xs : Array Value) (i k : Nat) : ((List.range k).filterMap fun (m : Nat) => xs[((i : Int) + (m : Int) * 1).toNat]?).toArray = ((xs.toList.drop i).take k).toArray := by
  have e : (fun (m : Nat) => xs[((i : Int) + (m : Int) * 1).toNat]?) = fun m => xs[i + m]? := by
    funext m
    have : ((i : Int) + (m : Int) * 1).toNat = i + m := by omega
    rw [this]
  rw [e]
  have := pick_run xs i k
  rw [List.filterMap_map] at this
  have e2 : ((fun x => xs[x]?) ∘ fun x => i + x) = fun m => xs[i + m]? := rfl
  rw [e2] at this
  rw [this]

theorem getItem_tuple_cut {t sl : Addr} {items : Array Value} {vl vu : Value} {lo hi : Option Int} {Q : Value → Shared → Prop} (ht : IsTup s.heap t items) (hs : s.heap.IsSliceOf sl vl vu .none) (pl : IsPart vl lo) (pu : IsPart vu hi)
    (hw : ¬ (sIx items.size 0 lo = 0 ∧ sIx items.size items.size hi = items.size))
    (h : Q (.ref s.heap.objs.size) { s with heap := s.heap.push { cls := .type "tuple", data := .seq ((items.toList.drop (sIx items.size 0 lo)).take (sIx items.size items.size hi - sIx items.size 0 lo)).toArray } })
    (hsz : items.size ≤ sizeLine) : wpAny (model prog w) A (getItem (.ref t) (.ref sl)) Q E s := by
  have htake : sizeOk (.seq ((items.toList.drop (sIx items.size 0 lo)).take (sIx items.size items.size hi - sIx items.size 0 lo)).toArray) := by
    show ((items.toList.drop (sIx items.size 0 lo)).take (sIx items.size items.size hi - sIx items.size 0 lo)).toArray.size ≤ sizeLine
    rw [List.size_toArray, List.length_take, List.length_drop, Array.length_toList]
    omega
  have hj : sIx items.size items.size hi ≤ items.size := sIx_le _ _ (Nat.le_refl _) hi
  obtain ⟨os, hos, hcs, hds⟩ := id hs
  have hTs : s.TypeIs (.ref sl) "slice" := ⟨os, hos, hcs⟩
  unfold getItem
  try with_reducible refine wpAny_holding ?_
  first | refine wpAny_bind (wpAny_pure ?_) | skip
  refine wpAny_bind (wpAny_sequenceKey ht.typeIs (by decide) ?_)
  refine wpAny_bind (wpAny_callSpecial?_slot (name := Str.ofString "__getitem__") ht.typeIs PyProof.Rows.slot_tuple_getitem
    (wpAny_call_entry PyProof.Rows.slot_tuple_getitem ht.typeIs entry_tuple_getitem ?_ (args_tuple_getitem _ _)))
  show wpAny _ _ (Builtin.Tuple.tupleItemsOf (.ref t) >>= _) _ _ s
  refine wpAny_bind (tupleItemsOf_ ht ?_)
  refine wpAny_bind (wpAny_typeOf hTs ?_)
  rw [if_pos (by decide)]
  refine wpAny_bind (sliceApplied_gen hs pl pu ?_)
  have hno : ¬ ((((sIx items.size 0 lo : Nat) : Int) == 0 && (1 : Int) == 1 && (sIx items.size items.size hi - sIx items.size 0 lo) == items.size) = true) := by
    intro q
    rw [Bool.and_eq_true, Bool.and_eq_true] at q
    have q1 : ((sIx items.size 0 lo : Nat) : Int) = 0 := eq_of_beq q.1.1
    have q2 : sIx items.size items.size hi - sIx items.size 0 lo = items.size := eq_of_beq q.2
    exact hw ⟨by omega, by omega⟩
  show wpAny _ _ (if (((sIx items.size 0 lo : Nat) : Int) == 0 && (1 : Int) == 1 && (sIx items.size items.size hi - sIx items.size 0 lo) == items.size) = true then _ else _) _ _ s
  rw [if_neg hno, pick_gen]
  first
    | exact wpAny_bind (m := Builtin.Tuple.tupleExact _) (wpAny_newObj_type (wpAny_pure ⟨_, rfl, wpAny_pure h⟩) htake)
    | exact wpAny_bind (m := Builtin.Tuple.tupleExact _) (wpAny_newObj_type (wpAny_bind (wpAny_pure (wpAny_pure ⟨_, rfl, wpAny_pure h⟩))) htake)
    | exact wpAny_bind (wpAny_bind (m := Builtin.Tuple.tupleExact _) (wpAny_newObj_type (wpAny_pure (wpAny_pure ⟨_, rfl, wpAny_pure h⟩)) htake))
    | exact wpAny_bind (wpAny_bind (m := Builtin.Tuple.tupleExact _) (wpAny_newObj_type (wpAny_pure ⟨_, rfl, wpAny_pure h⟩) htake))
end
end HT

namespace L2
open PySem PySem.Spec PyProof.Rows

abbrev TO := St → Hp → (Option Int → Hp → Prop) → Prop
def PO (X : Cx) (e : Option Expr) (t : TO) : Prop :=
  ∀ (pins : List (Addr × Obj)) (s : Shared) (σ : St) (H : Hp) (Q : Option Int → Hp → Prop), Inv X pins σ H s → t σ H Q →
    wpAny (model X.prog X.w) X.A (evalPart e X.env) (fun u s' => ∃ o H', Inv X pins σ H' s' ∧ IsPart u o ∧ Q o H') X.xe s
def tNoPart : TO := fun _ H Q => Q none H
def tPart (t : TE) : TO := fun σ H Q => t σ H fun x H1 => ∃ i, x = .int i ∧ Q (some i) H1

theorem intsAre_of {ns : List Int} : ∀ {us : List Value}, Vals (ns.map V.int) us → IntsAre us ns := by
  induction ns with
  | nil => intro us r; rw [List.map_nil] at r; cases r; exact .nil
  | cons n ns ih =>
    intro us r
    rw [List.map_cons] at r
    cases r with
    | cons r1 r2 =>
      obtain ⟨t, e⟩ := r1
      subst e
      exact .cons n t (ih r2)

section
variable {X : Cx} {e : Expr} {te : TE} {lo hi : Option Expr} {tl th : TO} {pos p2 : Pos}

theorem po_none : PO X none tNoPart := by
  intro pins s σ H Q I h
  rw [evalPart_none]
  exact wpAny_pure ⟨none, H, I, .none, h⟩
theorem po_some (h : PE X e te) : PO X (some e) (tPart te) := by
  intro pins s σ H Q I hw
  rw [evalPart_some]
  refine thn (h pins s σ H _ I hw) fun u s1 ⟨x, H1, I1, r1, q1⟩ => ?_
  obtain ⟨i, rfl, q⟩ := q1
  obtain ⟨t, rfl⟩ := r1
  exact ⟨some i, H1, I1, .int i t, q⟩

def SlR (X : Cx) (r : V → Option Int → Option Int → Hp → VK → Prop) : Prop :=
  ∀ (pins : List (Addr × Obj)) (s : Shared) (σ : St) (H : Hp) (x : V) (v vl vu : Value) (lo hi : Option Int) (sl : Addr) (Q : VK), Inv X pins σ H s → RelV x v → s.heap.IsSliceOf sl vl vu .none → IsPart vl lo → IsPart vu hi → r x lo hi H Q →
    ∃ T id, typeLookup (.type T) "__getitem__" = pure (some (.builtin id)) ∧ s.TypeIs v T ∧ wpAny (model X.prog X.w) X.A (getItem v (.ref sl)) (EP X pins σ Q) X.xe s
def tSl (r : V → Option Int → Option Int → Hp → VK → Prop) (te : TE) (tl th : TO) : TE := fun σ H Q => te σ H fun x H1 => tl σ H1 fun l H2 => th σ H2 fun u H3 => r x l u H3 Q
theorem pe_slice {r : V → Option Int → Option Int → Hp → VK → Prop} (hr : SlR X r) (he : PE X e te) (hl : PO X lo tl) (hu : PO X hi th) : PE X (.Subscript e (.Slice lo hi none p2) pos) (tSl r te tl th) := by
  intro pins s σ H Q I h
  refine Subscript_ (thn (he pins s σ H _ I h) fun v s1 ⟨x, H1, I1, r1, q1⟩ => ?_)
  refine wpAny_Slice (thn (hl pins s1 σ H1 _ I1 q1) fun vl s2 ⟨l, H2, I2, pl, q2⟩ => thn (hu pins s2 σ H2 _ I2 q2) fun vu s3 ⟨u, H3, I3, pu, q3⟩ => ?_)
  rw [evalPart_none]
  refine wpAny_pure ?_
  have I4 : Inv X pins σ H3 { s3 with heap := s3.heap.push { cls := .type "slice", data := .fields #[vl, vu, .none] } } := I3.kept (t' := s3.toks) fun b ob q => Heap.get?_push_of_some _ q
  obtain ⟨T, id, hT, ht, hg⟩ := hr pins { s3 with heap := s3.heap.push { cls := .type "slice", data := .fields #[vl, vu, .none] } } σ H3 x v vl vu l u s3.heap.objs.size Q I4 r1 (Heap.IsSliceOf.new ..) pl pu q3
  show wpAny (model X.prog X.w) X.A (subscriptTail e (.Slice lo hi none p2) v (.ref s3.heap.objs.size)) (EP X pins σ Q) X.xe { s3 with heap := s3.heap.push { cls := .type "slice", data := .fields #[vl, vu, .none] } }
  exact tail_any (ops := [.ref s3.heap.objs.size, v]) ht hT hg (by with_unfolding_all rfl)

def cutV (xs : List V) (lo hi : Option Int) : List V := (xs.drop (HT.sIx xs.length 0 lo)).take (HT.sIx xs.length xs.length hi - HT.sIx xs.length 0 lo)
theorem cutV_length (xs : List V) (lo hi : Option Int) : (cutV xs lo hi).length ≤ xs.length := by
  unfold cutV
  rw [List.length_take, List.length_drop]
  omega
def rSlT (K : PySem.W.Frag) : V → Option Int → Option Int → Hp → VK → Prop := fun x lo hi H Q => ∃ a xs, x = .ref a ∧ SqT K H a xs ∧
  ¬ (HT.sIx xs.length 0 lo = 0 ∧ HT.sIx xs.length xs.length hi = xs.length) ∧ ∀ p, H p = none → Q (.ref p) (upd H p (.tup (cutV xs lo hi)))
theorem sl_tup : SlR X (rSlT X.K) := by
  intro pins s σ H x v vl vu lo hi sl Q I rx hs pl pu h
  obtain ⟨a, xs, rfl, hx, hw, q⟩ := h
  cases rx
  obtain ⟨its, r, ht, hz⟩ := I.tuple hx
  have hlen : its.toArray.size = xs.length := by rw [List.size_toArray]; exact r.length.symm
  refine ⟨"tuple", _, PyProof.Rows.slot_tuple_getitem.lookup, ht.typeIs, ?_⟩
  refine HT.getItem_tuple_cut ht hs pl pu (by rw [hlen]; exact hw) ?_ (by rw [hlen]; exact hz)
  rw [hlen]
  refine ⟨.ref s.heap.objs.size, _, I.laid (t' := s.toks) (o := .tup (cutV xs lo hi)) (fun b ob q => Heap.get?_push_of_some _ q) (Nat.le_refl _) ?_, rfl, q _ (I.hok.fresh (Nat.le_refl _))⟩
  exact ⟨Nat.le_trans (cutV_length xs lo hi) hz, _, (r.drop (HT.sIx xs.length 0 lo)).take (HT.sIx xs.length xs.length hi - HT.sIx xs.length 0 lo), IsTup.new _ _⟩

def rCatT (K : PySem.W.Frag) : R2 := fun x y H Q => ∃ a b xs ys, x = .ref a ∧ y = .ref b ∧ SqT K H a xs ∧ SqT K H b ys ∧ xs ≠ [] ∧ xs.length + ys.length ≤ sizeLine ∧
  (ys = [] → Q (.ref a) H) ∧ (ys ≠ [] → ∀ p, H p = none → Q (.ref p) (upd H p (.tup (xs ++ ys))))
theorem Vals.nil_iff {xs : List V} {us : List Value} (r : Vals xs us) : us = [] ↔ xs = [] := by
  cases r with
  | nil => simp
  | cons _ _ => simp
theorem op_catT : OpR X (binaryOp .Add) (rCatT X.K) := by
  intro pins s σ H x y v u Q I rx ry h
  obtain ⟨a, b, xs, ys, rfl, rfl, ha, hb, hx, hz, q1, q2⟩ := h
  cases rx
  cases ry
  obtain ⟨its, r1, p1, _⟩ := I.tuple ha
  obtain ⟨its2, r2, p2, _⟩ := I.tuple hb
  refine HT.cat_tup p1 p2 (fun z => hx (r1.nil_iff.mp z)) (fun z => ⟨.ref a, H, I, rfl, q1 (r2.nil_iff.mp z)⟩) (fun z => ?_) (by rw [← r1.length, ← r2.length]; exact hz)
  refine ⟨.ref s.heap.objs.size, _, I.laid (t' := s.toks) (o := .tup (xs ++ ys)) (fun b ob q => Heap.get?_push_of_some _ q) (Nat.le_refl _) ?_, rfl, q2 (fun w => z (r2.nil_iff.mpr w)) _ (I.hok.fresh (Nat.le_refl _))⟩
  exact ⟨by rw [List.length_append]; exact hz, _, r1.append r2, IsTup.new _ _⟩
end
end L2

namespace L2
open PySem PySem.Spec PyProof.Rows

def ixN (n : Nat) (i : Int) : Option Nat := if 0 ≤ i then (if i < n then some i.toNat else none) else if -(n : Int) ≤ i then some (i + n).toNat else none
def atI {α : Type} (xs : List α) (i : Int) : Option α := (ixN xs.length i).bind fun j => xs[j]?
theorem ixN_seq {n : Nat} {i : Int} {j : Nat} (h : ixN n i = some j) : seqIndex? i n = some j ∧ j < n ∧ -(n : Int) ≤ i ∧ i < n := by
  unfold ixN at h
  by_cases h0 : 0 ≤ i
  · rw [if_pos h0] at h
    by_cases h1 : i < n
    · rw [if_pos h1] at h
      have e : i.toNat = j := Option.some.inj h
      exact ⟨by rw [seqIndex_of h0 h1, e], by omega, by omega, h1⟩
    · rw [if_neg h1] at h; cases h
  · rw [if_neg h0] at h
    by_cases h1 : -(n : Int) ≤ i
    · rw [if_pos h1] at h
      have e : (i + n).toNat = j := Option.some.inj h
      exact ⟨by rw [seqIndex_neg (by omega) h1, e], by omega, h1, by omega⟩
    · rw [if_neg h1] at h; cases h
theorem atI_get {α : Type} {xs : List α} {i : Int} {v : α} (h : atI xs i = some v) : ∃ j, seqIndex? i xs.length = some j ∧ xs[j]? = some v ∧ j < xs.length ∧ -(xs.length : Int) ≤ i ∧ i < xs.length := by
  unfold atI at h
  cases e : ixN xs.length i with
  | none => rw [e] at h; cases h
  | some j =>
    rw [e] at h
    obtain ⟨h1, h2, h3, h4⟩ := ixN_seq e
    exact ⟨j, h1, h, h2, h3, h4⟩
theorem atI_nat {α : Type} {xs : List α} {j : Nat} {v : α} (h : xs[j]? = some v) : atI xs (j : Int) = some v := by
  have hj : j < xs.length := (List.getElem?_eq_some_iff.mp h).1
  have e : ixN xs.length (j : Int) = some j := by
    unfold ixN
    rw [if_pos (by omega), if_pos (by omega)]; simp
  unfold atI; rw [e]; exact h
def PlainIx (b : Expr) : Prop := ∀ o i, subscripted b false o i = operate [o, i] (getItem o i)
def IxR (X : Cx) (r : R2) : Prop :=
  ∀ (value slice : Expr) (pins : List (Addr × Obj)) (s : Shared) (σ : St) (H : Hp) (x y : V) (v u : Value) (Q : VK), Inv X pins σ H s → RelV x v → RelV y u → r x y H Q →
    subscripted slice false v u = operate [v, u] (getItem v u) → wpAny (model X.prog X.w) X.A (subscriptTail value slice v u) (EP X pins σ Q) X.xe s
def MtR (X : Cx) (id : String) (r : V → List V → Hp → VK → Prop) : Prop :=
  ∀ (pins : List (Addr × Obj)) (s : Shared) (σ : St) (H : Hp) (x : V) (xs : List V) (v : Value) (us : List Value) (Q : VK), Inv X pins σ H s → RelV x v → Vals xs us → r x xs H Q →
    wpAny (model X.prog X.w) X.A (call (.builtin id) (v :: us)) (EP X pins σ Q) X.xe s
section
variable {X : Cx} {a b : Expr} {ta tb : TE} {pos : Pos}
theorem pe_ix {r : R2} (hr : IxR X r) (ha : PE X a ta) (hb : PE X b tb) (hs : PlainIx b) : PE X (.Subscript a b pos) (tOp r ta tb) := by
  intro pins s σ H Q I h
  exact Subscript_ (binT ha hb I h fun v u s2 x y H2 I2 rx ry q => hr a b pins s2 σ H2 x y v u Q I2 rx ry q (hs _ _))

def rIxL (K : PySem.W.Frag) : R2 := fun x y H Q => ∃ p xs i v, x = .ref p ∧ y = .int i ∧ SqL K H p xs ∧ atI xs i = some v ∧ Q v H
def rIxT (K : PySem.W.Frag) : R2 := fun x y H Q => ∃ p xs i v, x = .ref p ∧ y = .int i ∧ SqT K H p xs ∧ atI xs i = some v ∧ Q v H
theorem ix_list : IxR X (rIxL X.K) := by
  intro value slice pins s σ H x y v u Q I rx ry h hs
  obtain ⟨p, xs, i, z, rfl, rfl, hq, he, q⟩ := h
  cases rx
  obtain ⟨t, rfl⟩ := ry
  obtain ⟨its, r, pl, hz⟩ := I.list hq
  obtain ⟨j, h1, h2, h3, h4, h5⟩ := atI_get he
  obtain ⟨w, ew, rw'⟩ := r.get h2
  have hl := r.length
  have hn := line63
  have fin : EP X pins σ Q w s := ⟨z, H, I, rw', q⟩
  by_cases h0 : 0 ≤ i
  · have hj : i.toNat = j := by
      rw [seqIndex_of h0 h5] at h1
      exact Option.some.inj h1
    exact item_listR pl.isList h0 (by omega) (by rw [hj]; simpa using ew) fin hs
  · have hj : (i + (its.toArray.size : Int)).toNat = j := by
      rw [seqIndex_neg (by omega) h4] at h1
      rw [List.size_toArray, ← hl]
      exact Option.some.inj h1
    exact subscriptTail_builtinR (x := w) pl.isList.typeIs slot_list_getitem.lookup
      (wpAny_getItem_list_neg (Q := fun r s' => r = w ∧ EP X pins σ Q r s') pl.isList (by omega) (by rw [List.size_toArray] <;> omega) (by omega) (by rw [hj]; simpa using ew) ⟨rfl, fin⟩) hs
theorem ix_tup : IxR X (rIxT X.K) := by
  intro value slice pins s σ H x y v u Q I rx ry h hs
  obtain ⟨p, xs, i, z, rfl, rfl, hq, he, q⟩ := h
  cases rx
  obtain ⟨t, rfl⟩ := ry
  obtain ⟨its, r, pl, hz⟩ := I.tuple hq
  obtain ⟨j, h1, h2, h3, h4, h5⟩ := atI_get he
  obtain ⟨w, ew, rw'⟩ := r.get h2
  have hl := r.length
  have hn := line63
  have fin : EP X pins σ Q w s := ⟨z, H, I, rw', q⟩
  exact subscriptTail_builtinR (x := w) pl.typeIs slot_tuple_getitem.lookup
    (getItem_tuple (j := j) (Q := fun r s' => r = w ∧ EP X pins σ Q r s') pl (by omega) (by omega) (by rw [List.size_toArray, ← hl]; exact h1) (by simpa using ew) ⟨rfl, fin⟩) hs
theorem slice_bounds (lo hi : Option Int) (n : Nat) : (sliceBounds lo hi none n).1 = ((HT.sIx n 0 lo : Nat) : Int) ∧ (sliceBounds lo hi none n).2.1 = ((HT.sIx n n hi : Nat) : Int) ∧ (sliceBounds lo hi none n).2.2 = 1 := by
  refine ⟨?_, ?_, rfl⟩
  · cases lo with
    | none => simp [sliceBounds, HT.sIx]
    | some i =>
      simp only [sliceBounds, HT.sIx, Option.getD_none, show (1 : Int) > 0 by decide, if_true]
      by_cases h : i < 0
      · simp only [h, if_true] <;> omega
      · simp only [h, if_false] <;> omega
  · cases hi with
    | none => simp [sliceBounds, HT.sIx]
    | some i =>
      simp only [sliceBounds, HT.sIx, Option.getD_none, show (1 : Int) > 0 by decide, if_true]
      by_cases h : i < 0
      · simp only [h, if_true] <;> omega
      · simp only [h, if_false] <;> omega
theorem slicePick_cut (its : List Value) (lo hi : Option Int) : slicePick its.toArray lo hi none = ((its.drop (HT.sIx its.length 0 lo)).take (HT.sIx its.length its.length hi - HT.sIx its.length 0 lo)).toArray := by
  obtain ⟨h1, h2, h3⟩ := slice_bounds lo hi its.toArray.size
  unfold slicePick
  rw [h1, h2, h3]
  simp only [sliceRange_one, pick_run, List.size_toArray] <;> rfl
def rSlL (K : PySem.W.Frag) : V → Option Int → Option Int → Hp → VK → Prop := fun x lo hi H Q => ∃ a xs, x = .ref a ∧ SqL K H a xs ∧ ∀ p, H p = none → Q (.ref p) (upd H p (.lst (cutV xs lo hi)))
theorem sl_list : SlR X (rSlL X.K) := by
  intro pins s σ H x v vl vu lo hi sl Q I rx hs pl pu h
  obtain ⟨a, xs, rfl, hx, q⟩ := h
  cases rx
  obtain ⟨its, r, ht, hz⟩ := I.list hx
  have hlen := r.length
  refine ⟨"list", _, slot_list_getitem.lookup, ht.isList.typeIs, ?_⟩
  refine wpAny_getItem_list_slice ht.isList hs pl pu .none (by simp) ?_ (by rw [List.size_toArray] <;> omega)
  rw [slicePick_cut, ← hlen]
  refine ⟨.ref s.heap.objs.size, _, I.laid (t' := s.toks) (o := .lst (cutV xs lo hi)) (fun b ob q => Heap.get?_push_of_some _ q) (Nat.le_refl _) ?_, rfl, q _ (I.hok.fresh (Nat.le_refl _))⟩
  exact ⟨Nat.le_trans (cutV_length xs lo hi) hz, _, 0, (r.drop (HT.sIx xs.length 0 lo)).take (HT.sIx xs.length xs.length hi - HT.sIx xs.length 0 lo), Heap.get?_push_size _ rfl⟩

def flatV : V → Bool
  | .non => true
  | .bl _ => true
  | .int _ => true
  | .str _ => true
  | _ => false
def eqV : V → V → Bool
  | .non, .non => true
  | .bl a, .bl b => a == b
  | .bl a, .int b => (if a then 1 else 0) == b
  | .int a, .bl b => a == (if b then 1 else 0)
  | .int a, .int b => a == b
  | .str a, .str b => a == b
  | _, _ => false
theorem eqAt_V {A : Around} {s : Shared} {y x : V} {u v : Value} (ry : RelV y u) (rx : RelV x v) (fy : flatV y = true) (fx : flatV x = true) : SeqAt.EqAt A s u v (eqV y x) := by
  cases y with
  | non =>
    cases ry
    cases x with
    | non => cases rx; exact SeqAt.EqAt.same _
    | bl b => cases rx; exact SeqAt.EqAt.none_bool b
    | int b => obtain ⟨t, rfl⟩ := rx; exact SeqAt.EqAt.none_int b t
    | str b => obtain ⟨t, rfl⟩ := rx; exact SeqAt.EqAt.none_str b t
    | _ => exact absurd (show false = true from fx) Bool.false_ne_true
  | bl a =>
    cases ry
    cases x with
    | non => cases rx; exact SeqAt.EqAt.bool_none a
    | bl b => cases rx; exact SeqAt.EqAt.bool_bool a b
    | int b => obtain ⟨t, rfl⟩ := rx; exact SeqAt.EqAt.bool_int a b t
    | str b => obtain ⟨t, rfl⟩ := rx; exact SeqAt.EqAt.bool_str a b t
    | _ => exact absurd (show false = true from fx) Bool.false_ne_true
  | int a =>
    obtain ⟨t', rfl⟩ := ry
    cases x with
    | non => cases rx; exact SeqAt.EqAt.int_none a t'
    | bl b => cases rx; exact SeqAt.EqAt.int_bool a t' b
    | int b => obtain ⟨t, rfl⟩ := rx; exact SeqAt.EqAt.int_int a t' b t
    | str b => obtain ⟨t, rfl⟩ := rx; exact SeqAt.EqAt.int_str a t' b t
    | _ => exact absurd (show false = true from fx) Bool.false_ne_true
  | str a =>
    obtain ⟨t', rfl⟩ := ry
    cases x with
    | non => cases rx; exact SeqAt.EqAt.str_none a t'
    | bl b => cases rx; exact SeqAt.EqAt.str_bool a t' b
    | int b => obtain ⟨t, rfl⟩ := rx; exact SeqAt.EqAt.str_int a t' b t
    | str b => obtain ⟨t, rfl⟩ := rx; exact SeqAt.EqAt.str_str a t' b t
    | _ => exact absurd (show false = true from fx) Bool.false_ne_true
  | _ => exact absurd (show false = true from fy) Bool.false_ne_true
def eqU (x : V) (u : Value) : Bool := match u with
  | .none => eqV .non x
  | .bool b => eqV (.bl b) x
  | .int i _ => eqV (.int i) x
  | .str z _ => eqV (.str z) x
  | _ => false
theorem eqU_of {x y : V} {u : Value} (r : RelV y u) (f : flatV y = true) : eqU x u = eqV y x := by
  cases y with
  | non => cases r; rfl
  | bl b => cases r; rfl
  | int i => obtain ⟨t, rfl⟩ := r; rfl
  | str z => obtain ⟨t, rfl⟩ := r; rfl
  | _ => exact absurd (show false = true from f) Bool.false_ne_true
theorem any_eqU {x : V} : ∀ {xs : List V} {us : List Value}, Vals xs us → xs.all flatV = true → us.any (eqU x) = xs.any fun y => eqV y x
  | _, _, .nil, _ => rfl
  | y :: xs, u :: us, .cons r t, f => by
    rw [List.all_cons, Bool.and_eq_true] at f
    rw [List.any_cons, List.any_cons, eqU_of r f.1, any_eqU t f.2]
theorem mem_eqAt {A : Around} {s : Shared} {x : V} {v : Value} (rx : RelV x v) (fx : flatV x = true) : ∀ {xs : List V} {us : List Value}, Vals xs us → xs.all flatV = true → ∀ u ∈ us, SeqAt.EqAt A s u v (eqU x u)
  | _, _, .nil, _ => fun u hu => by cases hu
  | y :: xs, u :: us, .cons r t, f => fun u' hu => by
    rw [List.all_cons, Bool.and_eq_true] at f
    rcases List.mem_cons.mp hu with rfl | hu
    · rw [eqU_of r f.1]; exact eqAt_V r rx f.1 fx
    · exact mem_eqAt rx fx t f.2 u' hu
def inV (x : V) (xs : List V) : Bool := xs.any fun y => eqV y x
def rIn (K : PySem.W.Frag) (neg : Bool) : R2 := fun x y H Q => ∃ p xs, y = .ref p ∧ (SqL K H p xs ∨ SqT K H p xs) ∧ flatV x = true ∧ xs.all flatV = true ∧ Q (.bl (if neg then !inV x xs else inV x xs)) H
theorem op_notIn_seq : OpR X (compareOp .NotIn) (rIn X.K true) := by
  intro pins s σ H x y v u Q I rx ry h
  obtain ⟨p, xs, rfl, hq, fx, fs, q⟩ := h
  cases ry
  rcases hq with hq | hq
  · obtain ⟨its, r, pl, hz⟩ := I.list hq
    refine SeqAt.notIn_listAt (eqU x) pl.isList (fun w hw => mem_eqAt rx fx r fs w (by simpa using hw)) ⟨.bl _, H, I, rfl, ?_⟩
    rw [show its.toArray.any (eqU x) = its.any (eqU x) by simp, any_eqU r fs]
    exact q
  · obtain ⟨its, r, pl, hz⟩ := I.tuple hq
    refine SeqAt.notIn_tupleAt (eqU x) pl (fun w hw => mem_eqAt rx fx r fs w (by simpa using hw)) ⟨.bl _, H, I, rfl, ?_⟩
    rw [show its.toArray.any (eqU x) = its.any (eqU x) by simp, any_eqU r fs]
    exact q
theorem call_len_seq : CallR X (.builtin "len") (fun xs H Q => ∃ p ys, xs = [.ref p] ∧ (SqL X.K H p ys ∨ SqT X.K H p ys) ∧ Q (.int ys.length) H) := by
  intro pins s σ H xs us Q I r h
  obtain ⟨p, ys, rfl, hq, q⟩ := h
  obtain ⟨u, rfl, rx⟩ := vals1 r
  cases rx
  have hn := line63
  rcases hq with hq | hq
  · obtain ⟨its, r', pl, hz⟩ := I.list hq
    have hlen := r'.length
    exact Calls.call_len_list pl.isList (by simp only [List.size_toArray] <;> omega) ⟨.int ys.length, H, I.tok _, ⟨s.toks + 1, by rw [List.size_toArray, hlen]⟩, q⟩
  · obtain ⟨its, r', pl, hz⟩ := I.tuple hq
    have hlen := r'.length
    exact len_tuple pl (by simp only [List.size_toArray] <;> omega) ⟨.int ys.length, H, I.tok _, ⟨s.toks + 1, by rw [List.size_toArray, hlen]⟩, q⟩
theorem CallR.or {f : Value} {r r' : List V → Hp → VK → Prop} (h : CallR X f r) (h' : CallR X f r') : CallR X f (fun xs H Q => r xs H Q ∨ r' xs H Q) := by
  intro pins s σ H xs us Q I rs q
  rcases q with q | q
  · exact h pins s σ H xs us Q I rs q
  · exact h' pins s σ H xs us Q I rs q
theorem call_list_of : CallR X (.type "list") (fun xs H Q => ∃ p ys, xs = [.ref p] ∧ (SqL X.K H p ys ∨ SqT X.K H p ys) ∧ ∀ l, H l = none → Q (.ref l) (upd H l (.lst ys))) := by
  intro pins s σ H xs us Q I r h
  obtain ⟨p, ys, rfl, hq, q⟩ := h
  obtain ⟨u, rfl, rx⟩ := vals1 r
  cases rx
  have fin : ∀ (its : List Value), Vals ys its → ys.length ≤ sizeLine → ∀ (h' : Heap) (c' : Nat), (∀ b o', s.heap.get? b = some o' → h'.get? b = some o') →
      h'.get? s.heap.objs.size = some { cls := .type "list", dict := none, data := .seq its.toArray c', slots := #[] } → EP X pins σ Q (.ref s.heap.objs.size) { s with heap := h' } := fun its r' hz h' c' kp e =>
    ⟨.ref s.heap.objs.size, _, I.laid (t' := s.toks) kp (Nat.le_refl _) (show ObjOk X.prog X.w _ h' _ (.lst ys) from ⟨hz, its, c', r', e⟩), rfl, q _ (I.hok.fresh (Nat.le_refl _))⟩
  rcases hq with hq | hq
  · obtain ⟨its, r', pl, hz⟩ := I.list hq
    have hlen := r'.length
    obtain ⟨o, ho, hc, n, hd⟩ := pl.isList
    exact call_list_seq p (.inl rfl) ho hc hd (fun h' c' kp e => fin its r' hz h' c' kp e) (by simp only [List.size_toArray] <;> omega)
  · obtain ⟨its, r', pl, hz⟩ := I.tuple hq
    have hlen := r'.length
    obtain ⟨o, ho, hc, n, hd⟩ := pl
    exact call_list_seq p (.inr rfl) ho hc hd (fun h' c' kp e => fin its r' hz h' c' kp e) (by simp only [List.size_toArray] <;> omega)
theorem call_tuple_of : CallR X (.type "tuple") (fun xs H Q => ∃ p ys, xs = [.ref p] ∧ ((SqL X.K H p ys ∧ ∀ l, H l = none → Q (.ref l) (upd H l (.tup ys))) ∨ (SqT X.K H p ys ∧ Q (.ref p) H))) := by
  intro pins s σ H xs us Q I r h
  obtain ⟨p, ys, rfl, h⟩ := h
  obtain ⟨u, rfl, rx⟩ := vals1 r
  cases rx
  rcases h with ⟨hq, q⟩ | ⟨hq, q⟩
  · obtain ⟨its, r', pl, hz⟩ := I.list hq
    have hlen := r'.length
    refine call_tuple_list pl.isList (fun h' kp => ?_) (by simp only [List.size_toArray] <;> omega)
    have I1 : Inv X pins σ H { s with heap := h' } := I.kept (t' := s.toks) kp
    have I2 : Inv X pins σ (upd H h'.objs.size (.tup ys)) { s with heap := h'.push { cls := .type "tuple", data := .seq its.toArray } } :=
      I1.laid (t' := s.toks) (fun b o e => Heap.get?_push_of_some _ e) (Nat.le_refl _) (show ObjOk X.prog X.w _ _ _ (.tup ys) from ⟨hz, its, r', IsTup.new _ _⟩)
    exact ⟨.ref h'.objs.size, _, I2, rfl, q _ (I1.hok.fresh (Nat.le_refl _))⟩
  · obtain ⟨its, r', pl, hz⟩ := I.tuple hq
    exact call_tuple_same pl ⟨.ref p, H, I, rfl, q⟩

def tyV (K : PySem.W.Frag) (T : String) (x : V) (H : Hp) : Prop := match x with
  | .str _ => T = "str"
  | .int _ => T = "int"
  | .ref p => (T = "list" ∧ ∃ xs, SqL K H p xs) ∨ (T = "tuple" ∧ ∃ o, K.lookup p = some o ∧ o.cls = .type "tuple" ∧ o.dict = none) ∨
      (T = "dict" ∧ ((∃ kvs, H p = some (.dK kvs)) ∨ ∃ kvs, H p = some (.dT kvs))) ∨ (T = "set" ∧ ∃ S n, H p = some (.set S n))
  | _ => False
theorem tyV_is {pins : List (Addr × Obj)} {σ : St} {H : Hp} {s : Shared} {T : String} {x : V} {v : Value} (I : Inv X pins σ H s) (r : RelV x v) (ty : tyV X.K T x H) :
    s.TypeIs v T ∧ ∀ a, v = .ref a → ∃ ob, s.heap.get? a = some ob ∧ ob.dict = none := by
  cases x with
  | str z =>
    obtain ⟨t, rfl⟩ := r
    cases (show T = "str" from ty)
    exact ⟨typeIs_str s z t, fun _ e => nomatch e⟩
  | int i =>
    obtain ⟨t, rfl⟩ := r
    cases (show T = "int" from ty)
    exact ⟨typeIs_int s i t, fun _ e => nomatch e⟩
  | ref p =>
    cases r
    rcases ty with ⟨rfl, xs, hq⟩ | ⟨rfl, o, hk, hc, hd⟩ | ⟨rfl, hk⟩ | ⟨rfl, S, n, hk⟩
    · obtain ⟨its, _, pl, _⟩ := I.list hq
      refine ⟨pl.isList.typeIs, fun a e => ?_⟩
      cases e
      obtain ⟨o, n, e, c, hd, _⟩ := pl
      exact ⟨o, e, hd⟩
    · refine ⟨⟨o, I.kIn p o hk, hc⟩, fun a e => ?_⟩
      cases e
      exact ⟨o, I.kIn _ o hk, hd⟩
    · have z : ∃ o, s.heap.get? p = some o ∧ o.ExactDict := by
        rcases hk with ⟨kvs, hk⟩ | ⟨kvs, hk⟩
        · obtain ⟨_, _, _, _, o, _, _, e, ex, _⟩ := I.hok p _ hk
          exact ⟨o, e, ex⟩
        · obtain ⟨_, _, _, _, o, _, _, e, ex, _⟩ := I.hok p _ hk
          exact ⟨o, e, ex⟩
      obtain ⟨o, e, ex⟩ := z
      refine ⟨⟨o, e, ex.1⟩, fun a e2 => ?_⟩
      cases e2
      exact ⟨o, e, ex.2.1⟩
    · obtain ⟨o, _, _, _, e, ex, _⟩ := I.hok p _ hk
      refine ⟨⟨o, e, ex.1⟩, fun a e2 => ?_⟩
      cases e2
      exact ⟨o, e, ex.2.1⟩
  | _ => exact False.elim ty
def tBM0 (K : PySem.W.Frag) (T : String) (r : V → List V → Hp → VK → Prop) (to : TE) : TE := fun σ H Q => to σ H fun x H1 => tyV K T x H1 ∧ r x [] H1 Q
def tBM (K : PySem.W.Frag) (T : String) (r : V → List V → Hp → VK → Prop) (to : TE) (t : TA) : TE := fun σ H Q => to σ H fun x H1 => tyV K T x H1 ∧ t σ H1 fun xs H2 => r x xs H2 Q
variable {o e : Expr} {es : List Expr} {to : TE} {t : TA} {name : Str} {apos cpos : Pos} {T id : String} {r : V → List V → Hp → VK → Prop}
theorem pe_bm0 (pa : PlainAttrs T) (slot : Slot T name id) (hty : typeOf (.builtin id) = pure (.type "method_descriptor")) (hm : MtR X id r) (ho : PE X o to)
    (hbase : attributeBase o name X.env (eval o X.env) = eval o X.env := by rfl) (hline : (apos.endLine == cpos.line) = true := by rfl) : PE X (.Call (.Attribute o name apos) [] [] cpos) (tBM0 X.K T r to) := by
  intro pins s σ H Q I h
  refine wpAny_Call_method0_late hbase hline (thn (ho pins s σ H _ I h) fun v s1 ⟨x, H1, I1, r1, ty, q1⟩ => ?_)
  obtain ⟨h1, h2⟩ := tyV_is I1 r1 ty
  exact ⟨T, id, pa, slot, hty, h1, h2, Calls.callWith_builtin rfl (PySem.evalArgs_none (hm pins s1 σ H1 x [] v [] Q I1 r1 .nil q1))⟩
theorem pe_bm (pa : PlainAttrs T) (slot : Slot T name id) (hty : typeOf (.builtin id) = pure (.type "method_descriptor")) (hm : MtR X id r) (ho : PE X o to) (ha : PA X (e :: es) t)
    (hbase : attributeBase o name X.env (eval o X.env) = eval o X.env := by rfl)
    (hfew : ((backTo cpos (starEach (e :: es) X.env)).all (fun x => !x.1) && (backToKw cpos (keywordEach [] X.env)).all (fun x => x.1.isSome)
      && decide ((e :: es).length + ([] : List Keyword).length + (if ([] : List Keyword).isEmpty then 0 else 1) < 30)) = true := by rfl)
    (hline : (apos.endLine == cpos.line) = true := by rfl) (hs : starEach (e :: es) X.env = (false, eval e X.env) :: starEach es X.env := by rfl) (hplain : (backTo cpos (starEach es X.env)).any (·.1) = false := by rfl) :
    PE X (.Call (.Attribute o name apos) (e :: es) [] cpos) (tBM X.K T r to t) := by
  intro pins s σ H Q I h
  refine wpAny_Call_method_late hbase hfew hline rfl (thn (ho pins s σ H _ I h) fun v s1 ⟨x, H1, I1, r1, ty, q1⟩ => ?_)
  obtain ⟨h1, h2⟩ := tyV_is I1 r1 ty
  refine ⟨T, id, pa, slot, hty, h1, h2, ?_⟩
  have hA := ha cpos pins s1 σ H1 _ I1 q1
  rw [hs] at hA ⊢
  refine Calls.callWith_builtin (by show (false || (backTo cpos (starEach es X.env)).any (·.1)) = false; rw [hplain] <;> rfl) (Calls.evalArgs_plain ?_)
  exact thn hA fun us s2 ⟨vs, H2, I2, r2, q2⟩ => hm pins s2 σ H2 x vs v us Q I2 r1 r2 q2
/- xs.append(e), list.index on a module's tuple .. are MtR facts of 06m -/
end
end L2

namespace L2
open PySem PySem.Spec PyProof.Rows

def MtM (X : Cx) (id : String) (r : V → List V → Hp → VK → Prop) : Prop :=
  ∀ (pins : List (Addr × Obj)) (s : Shared) (σ : St) (H : Hp) (x : V) (xs : List V) (v : Value) (us : List Value) (Q : VK), Inv X pins σ H s → RelV x v → Vals xs us → r x xs H Q →
    wpAny (model X.prog X.w) X.A (call (.builtin id) (v :: us)) (EP X pins σ Q) X.xe s

theorem Vals.one : ∀ {x : V} {us : List Value}, Vals [x] us → ∃ u, us = [u] ∧ RelV x u
  | _, _, .cons r .nil => ⟨_, rfl, r⟩
theorem Vals.zero : ∀ {us : List Value}, Vals [] us → us = []
  | _, .nil => rfl
section
variable {X : Cx} {pins : List (Addr × Obj)} {σ : St} {H : Hp} {s : Shared} {l b : Addr} {xs ys zs : List V}

theorem Inv.lset {its its' : List Value} {n : Nat} {f : Array Value → Array Value} {t' : Nat} (I : Inv X pins σ H s) (hH : H l = some (.lst xs))
    (e : s.heap.get? l = some { cls := .type "list", data := .seq its.toArray n }) (hf : f its.toArray = its'.toArray) (hv : Vals ys its') (hz : ys.length ≤ sizeLine) :
    Inv X pins σ (upd H l (.lst ys)) { s with heap := s.heap.update l (Obj.mapSeq f), toks := t' } := by
  have q := PySem.IsL.update e f
  rw [hf] at q
  refine I.write (x := l) (e := l) (by rw [hH]; exact trivial) (.inl rfl) (fun b' u hb hu => (Heap.get?_update_other s.heap (Obj.mapSeq f) (Ne.symm hb)).trans hu) ⟨_, q⟩ ?_
  exact ⟨hz, its', _, hv, q⟩
theorem Inv.lnew {its : List Value} {t' : Nat} (I : Inv X pins σ H s) (hv : Vals ys its) (hz : ys.length ≤ sizeLine) :
    Inv X pins σ (upd H s.heap.objs.size (.lst ys)) { s with heap := s.heap.push { cls := .type "list", data := .seq its.toArray }, toks := t' } :=
  I.laid (fun _ _ q => Heap.get?_push_of_some _ q) (Nat.le_refl _) ⟨hz, its, 0, hv, Heap.get?_push_size _ rfl⟩
theorem Inv.fresh (I : Inv X pins σ H s) : H s.heap.objs.size = none := I.hok.fresh (Nat.le_refl _)
theorem Inv.lstM (I : Inv X pins σ H s) (hH : H l = some (.lst xs)) : xs.length ≤ sizeLine ∧ ∃ (its : List Value) (n : Nat), Vals xs its ∧ xs.length = its.length ∧ s.heap.get? l = some { cls := .type "list", data := .seq its.toArray n } := by
  obtain ⟨z, its, n, r, e⟩ := I.hok l _ hH
  exact ⟨z, its, n, r, r.length, e⟩

theorem notLongL {n : Nat} (h : n ≤ sizeLine) : Builtin.List.listTooLong n = false := by
  unfold Builtin.List.listTooLong
  exact decide_eq_false (by omega)
end

section
variable {X : Cx}

def rAppend : V → List V → Hp → VK → Prop := fun x vs H Q => ∃ l xs y, x = .ref l ∧ vs = [y] ∧ H l = some (.lst xs) ∧ xs.length < sizeLine ∧ Q .non (upd H l (.lst (xs ++ [y])))
theorem mt_append : MtM X "list.append" rAppend := by
  intro pins s σ H x vs v us Q I rx rv h
  obtain ⟨l, xs, y, rfl, rfl, hH, hz, q⟩ := h
  cases rx
  obtain ⟨u, rfl, ru⟩ := rv.one
  obtain ⟨z, its, n, r, hl, e⟩ := I.lstM hH
  refine call_meets F.slot_list_append ⟨_, e, rfl⟩ F.entry_list_append (F.args_list_append_2 _ _) (PySem.list_append l its.toArray n u (by rw [List.size_toArray]; omega)) ⟨e, ?_⟩
  refine ⟨.non, _, I.lset (its' := its ++ [u]) hH e (by simp) (r.append (.cons ru .nil)) ?_, rfl, q⟩
  rw [List.length_append, List.length_singleton]
  omega

def rExtend : V → List V → Hp → VK → Prop := fun x vs H Q => ∃ l b xs zs, x = .ref l ∧ vs = [.ref b] ∧ H l = some (.lst xs) ∧ H b = some (.lst zs) ∧ xs.length + zs.length ≤ sizeLine ∧ Q .non (upd H l (.lst (xs ++ zs)))
theorem mt_extend : MtM X "list.extend" rExtend := by
  intro pins s σ H x vs v us Q I rx rv h
  obtain ⟨l, b, xs, zs, rfl, rfl, hH, hB, hz, q⟩ := h
  cases rx
  obtain ⟨u, rfl, ru⟩ := rv.one
  cases ru
  obtain ⟨z, its, n, r, hl, e⟩ := I.lstM hH
  obtain ⟨z2, its2, n2, r2, hl2, e2⟩ := I.lstM hB
  have hsz : its.toArray.size + its2.toArray.size ≤ sizeLine := by rw [List.size_toArray, List.size_toArray]; omega
  have hlong : ¬ (!its.toArray.isEmpty && Builtin.List.listTooLong (its.toArray.size + its2.toArray.size)) = true := by
    rw [notLongL hsz, Bool.and_false]
    exact Bool.false_ne_true
  refine call_meets F.slot_list_extend ⟨_, e, rfl⟩ F.entry_list_extend (F.args_list_extend_2 _ _)
    (AutoSeq1.list_extend_list_list_0 l its.toArray n b its2.toArray n2 hlong (by rw [List.size_toArray]; omega) (by omega)) ⟨e, e2, ?_⟩
  refine ⟨.non, _, I.lset (its' := its ++ its2) hH e (by simp) (r.append r2) ?_, rfl, q⟩
  rw [List.length_append]
  omega

def rClear : V → List V → Hp → VK → Prop := fun x vs H Q => ∃ l xs, x = .ref l ∧ vs = [] ∧ H l = some (.lst xs) ∧ Q .non (upd H l (.lst []))
theorem mt_clear : MtM X "list.clear" rClear := by
  intro pins s σ H x vs v us Q I rx rv h
  obtain ⟨l, xs, rfl, rfl, hH, q⟩ := h
  cases rx
  have hus := rv.zero
  subst hus
  obtain ⟨z, its, n, r, hl, e⟩ := I.lstM hH
  refine call_meets F.slot_list_clear ⟨_, e, rfl⟩ F.entry_list_clear (F.args_list_clear_1 _) (AutoSeq1.list_clear_list_0 l its.toArray n (by rw [List.size_toArray]; omega)) ⟨e, ?_⟩
  exact ⟨.non, _, I.lset (its' := []) (ys := []) hH e rfl .nil (Nat.zero_le _), rfl, q⟩

def rCat : R2 := fun x y H Q => ∃ l b xs zs, x = .ref l ∧ y = .ref b ∧ H l = some (.lst xs) ∧ H b = some (.lst zs) ∧ xs.length + zs.length ≤ sizeLine ∧ ∀ p, H p = none → Q (.ref p) (upd H p (.lst (xs ++ zs)))
theorem op_cat : OpR X (binaryOp .Add) rCat := by
  intro pins s σ H x y v u Q I rx ry h
  obtain ⟨l, b, xs, zs, rfl, rfl, hH, hB, hz, q⟩ := h
  cases rx
  cases ry
  obtain ⟨z, its, n, r, hl, e⟩ := I.lstM hH
  obtain ⟨z2, its2, n2, r2, hl2, e2⟩ := I.lstM hB
  refine PySem.P.add_list e e2 ?_ (by rw [List.size_toArray, List.size_toArray]; omega)
  have ea : its.toArray ++ its2.toArray = (its ++ its2).toArray := by simp
  rw [ea]
  exact ⟨.ref _, _, I.lnew (t' := s.toks) (r.append r2) (by rw [List.length_append]; omega), rfl, q _ I.fresh⟩
end

section
variable {prog : Program} {w : World} {A : Around} {E : Value → Shared → Prop} {s : Shared}
end

section
variable {X : Cx}
end
end L2

namespace L2
open PySem PySem.Spec PyProof.Rows

section
variable {κ : Type} [DecidableEq κ]
def valV (kvs : List (κ × V)) (k : κ) : Option V := (kvs.find? fun kv => decide (kv.1 = k)).map (·.2)
def putK (kvs : List (κ × V)) (k : κ) (v : V) : List (κ × V) :=
  if (kvs.any fun kv => decide (kv.1 = k)) = true then kvs.map (fun kv => if kv.1 = k then (kv.1, v) else kv) else kvs ++ [(k, v)]
theorem valV_pos {p : κ × V} {r : List (κ × V)} {k : κ} (e : p.1 = k) : valV (p :: r) k = some p.2 := by simp [valV, List.find?_cons, e]
theorem valV_neg {p : κ × V} {r : List (κ × V)} {k : κ} (e : ¬ p.1 = k) : valV (p :: r) k = valV r k := by simp [valV, List.find?_cons, e]
theorem valV_any (k : κ) : ∀ kvs : List (κ × V), (kvs.any fun kv => decide (kv.1 = k)) = (valV kvs k).isSome
  | [] => rfl
  | p :: r => by
    rw [List.any_cons]
    by_cases e : p.1 = k
    · simp only [valV_pos e, decide_eq_true e, Bool.true_or, Option.isSome_some]
    · rw [valV_neg e, decide_eq_false e, Bool.false_or]; exact valV_any k r
theorem length_putK (kvs : List (κ × V)) (k : κ) (v : V) : (putK kvs k v).length ≤ kvs.length + 1 := by
  unfold putK
  split
  · rw [List.length_map]; omega
  · rw [List.length_append, List.length_cons, List.length_nil]; omega
theorem putK_new {kvs : List (κ × V)} {k : κ} (v : V) (h : valV kvs k = none) : putK kvs k v = kvs ++ [(k, v)] := by
  unfold putK
  rw [valV_any, h]
  exact if_neg (by decide)

theorem RelO.isSome_eq {o : Option V} {u : Option Value} (r : RelO o u) : o.isSome = u.isSome := by
  cases o with
  | none => cases u with
    | none => rfl
    | some _ => exact (show False from r).elim
  | some _ => cases u with
    | none => exact (show False from r).elim
    | some _ => rfl
theorem KV.val {kvs : List (κ × V)} {vs : List (κ × Value)} (r : KV kvs vs) (k : κ) : RelO (valV kvs k) (valueAt vs k) := by
  unfold KV at r
  induction r with
  | nil => exact True.intro
  | @cons p q ps qs h t ih =>
    obtain ⟨h1, h2⟩ := h
    by_cases e : p.1 = k
    · have e' : q.1 = k := h1.symm.trans e
      have b : valueAt (q :: qs) k = some q.2 := by simp [valueAt, List.find?_cons, e']
      rw [valV_pos e, b]; exact h2
    · have e' : ¬ q.1 = k := fun z => e (h1.trans z)
      have b : valueAt (q :: qs) k = valueAt qs k := by simp [valueAt, List.find?_cons, e']
      rw [valV_neg e, b]; exact ih
theorem KV.any {kvs : List (κ × V)} {vs : List (κ × Value)} (r : KV kvs vs) (k : κ) : (kvs.any fun kv => decide (kv.1 = k)) = vs.any fun kv => decide (kv.1 = k) := by
  unfold KV at r
  induction r with
  | nil => rfl
  | cons h t ih => rw [List.any_cons, List.any_cons, ih, h.1]
theorem KV.repl {kvs : List (κ × V)} {vs : List (κ × Value)} (r : KV kvs vs) (k : κ) {y : V} {u : Value} (ry : RelV y u) :
    KV (kvs.map fun kv => if kv.1 = k then (kv.1, y) else kv) (vs.map fun kv => if kv.1 = k then (kv.1, u) else kv) := by
  unfold KV at r ⊢
  induction r with
  | nil => exact .nil
  | @cons p q ps qs h t ih =>
    rw [List.map_cons, List.map_cons]
    refine .cons ?_ ih
    obtain ⟨h1, h2⟩ := h
    by_cases e : p.1 = k
    · rw [if_pos e, if_pos (h1.symm.trans e)]; exact ⟨h1, ry⟩
    · rw [if_neg e, if_neg (fun z => e (h1.trans z))]; exact ⟨h1, h2⟩
theorem KV.put {kvs : List (κ × V)} {vs : List (κ × Value)} (r : KV kvs vs) (k : κ) {y : V} {u : Value} (ry : RelV y u) : KV (putK kvs k y) (stored vs k u) := by
  unfold putK stored
  rw [r.any k]
  by_cases e : (vs.any fun kv => decide (kv.1 = k)) = true
  · rw [if_pos e, if_pos e]; exact r.repl k ry
  · rw [if_neg e, if_neg e]; exact Paired.snoc r ⟨rfl, ry⟩
theorem KV.length {kvs : List (κ × V)} {vs : List (κ × Value)} (r : KV kvs vs) : kvs.length = vs.length := Paired.length r
end


theorem kV_is {P : Program} {w : World} {k : Key} {u : Value} (r : RelV (kV k) u) : (mixKind P w).is k u = true := by
  cases k with
  | inl i => obtain ⟨t, e⟩ := (show ∃ t, u = Value.int i t from r); subst e; exact mixKind_int P w i t
  | inr x => obtain ⟨t, e⟩ := (show ∃ t, u = Value.str x t from r); subst e; exact mixKind_str P w x t
theorem items_are {P : Program} {w : World} : ∀ {ks : List Key} {us : List Value}, Vals (ks.map kV) us → ItemsAre (mixKind P w) ks us
  | [], _, r => by rw [List.map_nil] at r; cases r; exact .nil
  | k :: ks, _, r => by
    rw [List.map_cons] at r
    cases r with
    | cons h t => exact .cons (kV_is h) (items_are t)

abbrev KT (H : Hp) : List (List Key × V) → List (List Key × Addr × Value) → Prop := Paired fun p q => p.1 = q.1 ∧ H q.2.1 = some (.tup (p.1.map kV)) ∧ RelV p.2 q.2.2
theorem KT.val {H : Hp} {kvs : List (List Key × V)} {xs : List (List Key × Addr × Value)} (r : KT H kvs xs) (k : List Key) : RelO (valV kvs k) ((atKey xs k).map (·.2)) := by
  induction r with
  | nil => exact True.intro
  | @cons p q ps qs h t ih =>
    obtain ⟨h1, _, h2⟩ := h
    by_cases e : p.1 = k
    · have e' : q.1 = k := h1.symm.trans e
      have b : atKey (q :: qs) k = some q.2 := by simp [atKey, List.find?_cons, e']
      rw [valV_pos e, b]; exact h2
    · have e' : ¬ q.1 = k := fun z => e (h1.trans z)
      have b : atKey (q :: qs) k = atKey qs k := by simp [atKey, List.find?_cons, e']
      rw [valV_neg e, b]; exact ih
theorem KT.repl {H : Hp} {kvs : List (List Key × V)} {xs : List (List Key × Addr × Value)} (r : KT H kvs xs) (k : List Key) {y : V} {u : Value} (ry : RelV y u) :
    KT H (kvs.map fun kv => if kv.1 = k then (kv.1, y) else kv) (xs.map (putAt k u)) := by
  induction r with
  | nil => exact .nil
  | @cons p q ps qs h t ih =>
    rw [List.map_cons, List.map_cons]
    refine .cons ?_ ih
    obtain ⟨h1, h2, h3⟩ := h
    unfold putAt
    by_cases e : p.1 = k
    · rw [if_pos e, if_pos (h1.symm.trans e)]; exact ⟨h1, h2, ry⟩
    · rw [if_neg e, if_neg (fun z => e (h1.trans z))]; exact ⟨h1, h2, h3⟩
theorem KT.put {H : Hp} {kvs : List (List Key × V)} {xs : List (List Key × Addr × Value)} (r : KT H kvs xs) (k : List Key) {b : Addr} {y : V} {u : Value} (hb : H b = some (.tup (k.map kV))) (ry : RelV y u) :
    KT H (putK kvs k y) (storedH xs k b u) := by
  have e : (kvs.any fun kv => decide (kv.1 = k)) = (atKey xs k).isSome := by
    rw [valV_any, (r.val k).isSome_eq, Option.isSome_map]
  unfold putK storedH
  rw [e]
  by_cases q : (atKey xs k).isSome = true
  · rw [if_pos q, if_pos q]; exact r.repl k ry
  · rw [if_neg q, if_neg q]; exact Paired.snoc r ⟨rfl, hb, ry⟩
theorem KT.keeps {H H' : Hp} {kvs : List (List Key × V)} {xs : List (List Key × Addr × Value)} (r : KT H kvs xs) (ht : ∀ b ys, H b = some (.tup ys) → H' b = some (.tup ys)) : KT H' kvs xs :=
  Paired.mapP r fun _ _ z => ⟨z.1, ht _ _ z.2.1, z.2.2⟩

section
variable {P : Program} {w : World} {H : Hp} {h : Heap} {a : Addr}
theorem rd_of {u : HO} (ok : HOk P w H h) (e : Rd H a u) : ObjOk P w H h a u := e.ok ok
theorem dk_rd {kvs : List (Key × V)} (ok : HOk P w H h) (e : Rd H a (.dK kvs)) : kvs.length ≤ sizeLine ∧ (a == sysModules) = false ∧ ∃ vs, KV kvs vs ∧ h.DictOf (mixKind P w) a vs :=
  show ObjOk P w H h a (.dK kvs) from rd_of ok e
theorem dk_of {kvs : List (Key × V)} (ok : HOk P w H h) (e : H a = some (.dK kvs)) : kvs.length ≤ sizeLine ∧ (a == sysModules) = false ∧ ∃ vs, KV kvs vs ∧ h.DictOf (mixKind P w) a vs := dk_rd ok (.inl e)
theorem key_of {ks : List Key} (ok : HOk P w H h) (e : H a = some (.tup (ks.map kV))) : (tupleKind (mixKind P w)).is h ks a := by
  obtain ⟨_, its, r, o, h1, h2, n, h3⟩ := (show ObjOk P w H h a (.tup (ks.map kV)) from ok a _ e)
  exact ⟨o, its.toArray, n, h1, h2, h3, by simpa using items_are r⟩
theorem dt_rd {kvs : List (List Key × V)} (ok : HOk P w H h) (e : Rd H a (.dT kvs)) : kvs.length ≤ sizeLine ∧ (a == sysModules) = false ∧
    ∃ xs, KT H kvs xs ∧ h.DictOfH (tupleKind (mixKind P w)) a xs := by
  obtain ⟨z, y, xs, r, o, es, ep, h1, h2, h3, h4, h5⟩ := (show ObjOk P w H h a (.dT kvs) from rd_of ok e)
  refine ⟨z, y, xs, r, o, es, ep, h1, h2, h3, h4, fun x hx => ?_, h5⟩
  have all : ∀ {l : List (List Key × V)} {m : List (List Key × Addr × Value)}, KT H l m → ∀ x ∈ m, (tupleKind (mixKind P w)).is h x.1 x.2.1 := by
    intro l m q
    induction q with
    | nil => intro x hx; exact nomatch hx
    | @cons p q ps qs hq t ih =>
      intro x hx
      rcases List.mem_cons.mp hx with e | hx
      · subst e
        exact key_of ok (by rw [← hq.1]; exact hq.2.1)
      · exact ih x hx
  exact all r x hx
theorem dt_of {kvs : List (List Key × V)} (ok : HOk P w H h) (e : H a = some (.dT kvs)) : kvs.length ≤ sizeLine ∧ (a == sysModules) = false ∧
    ∃ xs, KT H kvs xs ∧ h.DictOfH (tupleKind (mixKind P w)) a xs := dt_rd ok (.inl e)
end

def DGet (H : Hp) (a : Addr) (y : V) (r : Option V) : Prop :=
  (∃ kvs k, Rd H a (.dK kvs) ∧ y = kV k ∧ r = valV kvs k) ∨ ∃ kvs k b, Rd H a (.dT kvs) ∧ y = .ref b ∧ H b = some (.tup (k.map kV)) ∧ r = valV kvs k
def DPut (H : Hp) (a : Addr) (y v : V) (H' : Hp) : Prop :=
  (∃ kvs k, H a = some (.dK kvs) ∧ y = kV k ∧ kvs.length < sizeLine ∧ H' = upd H a (.dK (putK kvs k v))) ∨
  ∃ kvs k b, H a = some (.dT kvs) ∧ y = .ref b ∧ H b = some (.tup (k.map kV)) ∧ kvs.length < sizeLine ∧ H' = upd H a (.dT (putK kvs k v))
theorem DPut.t {H : Hp} {a b : Addr} {kvs : List (List Key × V)} {k : List Key} {v : V} (e : H a = some (.dT kvs)) (eb : H b = some (.tup (k.map kV))) (hl : kvs.length < sizeLine) :
    DPut H a (.ref b) v (upd H a (.dT (putK kvs k v))) := .inr ⟨kvs, k, b, e, rfl, eb, hl, rfl⟩


section
variable {X : Cx} {pins : List (Addr × Obj)} {σ : St} {H : Hp} {s : Shared} {a : Addr} {y v : V} {u r : Value} {o : Option V} {A : Around} {E : Value → Shared → Prop}

theorem Inv.big (I : Inv X pins σ H s) : sysModules < s.heap.objs.size := by
  have h : mainGlobals < s.heap.objs.size := (I.mod.glob.keeps I.bk).lt
  exact Nat.lt_trans (by decide) h

theorem d_getItem {Q : Value → Shared → Prop} (hu : A.units + 1 < cLine) (I : Inv X pins σ H s) (g : DGet H a y (some v)) (ry : RelV y u) (h : ∀ w' s', Inv X pins σ H s' → RelV v w' → Q w' s') :
    wpAny (model X.prog X.w) A (getItem (.ref a) u) Q E s := by
  rcases g with ⟨kvs, k, e, ey, l⟩ | ⟨kvs, k, b, e, ey, eb, l⟩
  · subst ey
    obtain ⟨z, hd, vs, rel, dd⟩ := dk_rd I.hok e
    obtain ⟨w', hw, rw'⟩ := RelO.some_of (v := v) (o := valueAt vs k) (by rw [l]; exact rel.val k)
    exact wpAny_getItem_of (kV_is ry) dd.mapOf hw (h w' _ (I.tok _) rw')
  · subst ey
    cases (show u = Value.ref b from ry)
    obtain ⟨z, hd, xs, rel, dd⟩ := dt_rd I.hok e
    obtain ⟨w', hw, rw'⟩ := RelO.some_of (v := v) (o := (atKey xs k).map (·.2)) (by rw [l]; exact rel.val k)
    obtain ⟨p, hp, hp2⟩ := Option.map_eq_some_iff.mp hw
    refine wpAny_getItem_heap (tupleKind_room_in1 hu) (key_of I.hok eb) dd hp ?_
    rw [hp2]
    exact h w' _ (I.tok _) rw'
theorem d_write {h' : Heap} {t' : Nat} {ob : HO} (I : Inv X pins σ H s) (mu : Mut (H a)) (hs : Heap.SameBut a s.heap h') (he : ∃ q, h'.get? a = some q) (new : ObjOk X.prog X.w (upd H a ob) h' a ob) :
    Inv X pins σ (upd H a ob) { s with heap := h', toks := t' } :=
  I.write (x := a) (e := a) mu (.inl rfl) (fun b q hb z => (hs.2 b hb).trans z) he new
theorem dk_new {P : Program} {w : World} {H' : Hp} {h' : Heap} {kvs : List (Key × V)} {vs : List (Key × Value)} (z : kvs.length ≤ sizeLine) (hd : (a == sysModules) = false) (rel : KV kvs vs) (dd : h'.DictOf (mixKind P w) a vs) :
    ObjOk P w H' h' a (.dK kvs) := ⟨z, hd, vs, rel, dd⟩
theorem d_setItem {H' : Hp} {Q : Unit → Shared → Prop} (hu : A.units + 1 < cLine) (I : Inv X pins σ H s) (g : DPut H a y v H') (ry : RelV y u) (rv : RelV v r) (h : ∀ s', Inv X pins σ H' s' → Q () s') :
    wpAny (model X.prog X.w) A (setItem (.ref a) u r) Q E s := by
  rcases g with ⟨kvs, k, e, ey, l, eH⟩ | ⟨kvs, k, b, e, ey, eb, l, eH⟩
  · subst ey eH
    obtain ⟨z, hd, vs, rel, dd⟩ := dk_of I.hok e
    have hz : vs.length ≤ sizeLine := by rw [← rel.length]; exact z
    have hl : (putK kvs k v).length ≤ sizeLine := by have := length_putK kvs k v; omega
    refine wpAny_setItem_pairs (hsz := hz) (kV_is ry) dd fun h' dd' hs => h _ ?_
    have he : ∃ q, h'.get? a = some q := let ⟨q, _, _, hq, _⟩ := dd'; ⟨q, hq⟩
    exact d_write I (by rw [e]; exact True.intro) hs he (dk_new hl hd (rel.put k rv) dd')
  · subst ey eH
    cases (show u = Value.ref b from ry)
    obtain ⟨z, hd, xs, rel, dd⟩ := dt_of I.hok e
    have hz : xs.length ≤ sizeLine := by rw [← Paired.length rel]; exact z
    have hl : (putK kvs k v).length ≤ sizeLine := by have := length_putK kvs k v; omega
    refine wpAny_setItem_heap (hsz := hz) (tupleKind_room_in1 hu) (key_of I.hok eb) dd fun h' dd' hs => h _ ?_
    obtain ⟨q, es, ep, hq, h2, h3, h4, _, h5⟩ := dd'
    refine d_write I (by rw [e]; exact True.intro) hs ⟨q, hq⟩ ⟨hl, hd, _, (rel.put k eb rv).keeps fun c ys ec => ?_, q, es, ep, hq, h2, h3, h4, h5⟩
    rw [upd_ne (ne_of ec e (fun z => nomatch z))]
    exact ec
end

section
variable {X : Cx} {pins : List (Addr × Obj)} {σ : St} {H : Hp} {s : Shared} {a : Addr} {kvs : List (Key × V)} {k : Key} {u : Value} {A : Around} {E : Value → Shared → Prop}
end


def NoSl (i : Expr) : Prop := ∀ ov iv, subscripted i false ov iv = operate [ov, iv] (getItem ov iv)
theorem subD_of {prog : Program} {w : World} {A : Around} {E : Value → Shared → Prop} {s : Shared} {env : Env} {value slice : Expr} {pos : Pos} {T id : String} {Q : Value → Shared → Prop}
    (hl : typeLookup (.type T) "__getitem__" = pure (some (.builtin id))) (hs : NoSl slice)
    (h : wpAny (model prog w) A (eval value env) (fun o s₁ => wpAny (model prog w) A (eval slice env) (fun i s₂ => s₂.TypeIs o T ∧ wpAny (model prog w) A (getItem o i) Q E s₂) E s₁) E s) :
    wpAny (model prog w) A (eval (.Subscript value slice pos) env) Q E s := by
  refine Subscript_ (wpAny_mono h (fun o s₁ h₁ => wpAny_mono h₁ (fun i s₂ h₂ => ?_) fun _ _ x => x) fun _ _ x => x)
  obtain ⟨hT, h₂⟩ := h₂
  unfold subscriptTail
  refine wpAny_bind ?_
  rw [getitemInPython_of_ne hT.not_modules]
  refine wpAny_bind (wpAny_specialOf hT hl ?_)
  have fin : wpAny (model prog w) A (subscripted slice false o i) (fun r s₃ => wpAny (model prog w) A (letTemporaryGo value o r >>= fun _ => pure r) Q E s₃) E s₂ := by
    rw [hs o i]
    exact wpAny_operating (wpAny_mono h₂ (fun r s₃ h₃ => wpAny_bind (wpAny_letTemporaryGo (wpAny_pure h₃))) fun _ _ x => x)
  first
    | exact wpAny_pure (wpAny_bind fin)
    | exact wpAny_bind (wpAny_pure (wpAny_bind fin))
    | exact wpAny_bind fin

theorem dict_typeIs {X : Cx} {pins : List (Addr × Obj)} {σ : St} {H : Hp} {s : Shared} {a : Addr} {y : V} {o : Option V} (I : Inv X pins σ H s) (g : DGet H a y o) : s.TypeIs (.ref a) "dict" := by
  rcases g with ⟨kvs, k, e, _, _⟩ | ⟨kvs, k, b, e, _, _, _⟩
  · obtain ⟨_, _, vs, _, dd⟩ := dk_rd I.hok e
    exact dd.typeIs
  · obtain ⟨_, _, xs, _, dd⟩ := dt_rd I.hok e
    exact dd.typeIs
def tDGet (td ty : TE) : TE := fun σ H Q => td σ H fun x H1 => ty σ H1 fun y H2 => ∃ a v, x = .ref a ∧ DGet H2 a y (some v) ∧ Q v H2
def sDPut (td ty tv : TE) : TS := fun D σ H => tv σ H fun v H1 => td σ H1 fun x H2 => ty σ H2 fun y H3 => ∃ a H4, x = .ref a ∧ DPut H3 a y v H4 ∧ D.nx σ H4
section
variable {X : Cx} {o i e value : Expr} {pos pos' tpos : Pos} {td ty tv : TE}
theorem pe_dget (hu : X.A.units + 1 < cLine) (ho : PE X o td) (hi : PE X i ty) (hs : NoSl i) : PE X (.Subscript o i pos) (tDGet td ty) := by
  intro pins s σ H Q I h
  refine subD_of PySem.F.slot_dict_getitem.lookup hs (thn (ho pins s σ H _ I h) fun u s1 ⟨x, H1, I1, rx, q1⟩ => thn (hi pins s1 σ H1 _ I1 q1) fun iv s2 ⟨y, H2, I2, ry, a, v, ex, g, q2⟩ => ?_)
  subst ex
  obtain rfl : u = Value.ref a := rx
  exact ⟨dict_typeIs I2 g, d_getItem hu I2 g ry fun w' s3 I3 rw' => ⟨v, H2, I3, rw', q2⟩⟩
theorem ps_dput (hu : X.A.units + 1 < cLine) (ho : PE X o td) (hi : PE X i ty) (hv : PE X value tv) (hs : swapsWith value (some (.Subscript o i pos')) pos.line X.env = pure false) :
    PS X (.Assign [.Subscript o i pos'] value pos) (sDPut td ty tv) := by
  intro pins s σ H D I h
  refine wpAny_Assign_Subscript (thn (hv pins s σ H _ I h) fun r s1 ⟨v, H1, I1, rv, q1⟩ => thn (ho pins s1 σ H1 _ I1 q1) fun u s2 ⟨x, H2, I2, rx, q2⟩ => thn (hi pins s2 σ H2 _ I2 q2) fun iv s3 ⟨y, H3, I3, ry, a, H4, ex, g, q3⟩ => ?_) hs
  subst ex
  obtain rfl : u = Value.ref a := rx
  exact d_setItem hu I3 g ry rv fun s4 I4 => ⟨σ, H4, I4, q3⟩
end


theorem dt_empty {P : Program} {w : World} {H : Hp} (h : Heap) (hb : sysModules < h.objs.size) : ObjOk P w H (h.push { cls := .type "dict", data := .dict #[] }) h.objs.size (.dT []) :=
  ⟨Nat.zero_le _, beq_eq_false_iff_ne.mpr (Ne.symm (Nat.ne_of_lt hb)), [], .nil, _, #[], 0, Heap.get?_push_size _ rfl, ⟨rfl, rfl, rfl⟩, rfl, rfl, List.nodup_nil⟩
def tDNewT : TE := fun _ H Q => ∀ p, H p = none → Q (.ref p) (upd H p (.dT []))
section
variable {X : Cx} {pos : Pos}
theorem pe_dnewT : PE X (.Dict [] [] pos) tDNewT := fun pins s σ H Q I h =>
  wpAny_Dict_empty ⟨.ref s.heap.objs.size, _, I.laid (a := s.heap.objs.size) (o := .dT []) (t' := s.toks) (fun _ _ q => Heap.get?_push_of_some _ q) (Nat.le_refl _) (dt_empty s.heap I.big), rfl, h _ (I.hok.fresh (Nat.le_refl _))⟩
end

structure M1 (X : Cx) (o : Expr) (m : Str) (apos : Pos) (e : Expr) (cpos : Pos) : Prop where
  base : attributeBase o m X.env (eval o X.env) = eval o X.env
  few : ((backTo cpos (starEach [e] X.env)).all (fun x => !x.1) && (backToKw cpos (keywordEach [] X.env)).all (fun x => x.1.isSome)
    && decide (([e] : List Expr).length + ([] : List Keyword).length + (if ([] : List Keyword).isEmpty then 0 else 1) < 30)) = true
  line : (apos.endLine == cpos.line) = true
  trees : backTo cpos (starEach [e] X.env) = [(false, eval e X.env)]
structure M2 (X : Cx) (o : Expr) (m : Str) (apos : Pos) (e f : Expr) (cpos : Pos) : Prop where
  base : attributeBase o m X.env (eval o X.env) = eval o X.env
  few : ((backTo cpos (starEach [e, f] X.env)).all (fun x => !x.1) && (backToKw cpos (keywordEach [] X.env)).all (fun x => x.1.isSome)
    && decide (([e, f] : List Expr).length + ([] : List Keyword).length + (if ([] : List Keyword).isEmpty then 0 else 1) < 30)) = true
  line : (apos.endLine == cpos.line) = true
  trees : backTo cpos (starEach [e, f] X.env) = [(false, eval e X.env), (false, eval f X.env)]

def IsD (H : Hp) (a : Addr) : Prop := (∃ kvs, Rd H a (.dK kvs)) ∨ ∃ kvs, Rd H a (.dT kvs)
theorem isD_at {X : Cx} {pins : List (Addr × Obj)} {σ : St} {H : Hp} {s : Shared} {a : Addr} (I : Inv X pins σ H s) (d : IsD H a) :
    s.TypeIs (.ref a) "dict" ∧ (∀ b, Value.ref a = .ref b → ∃ ob, s.heap.get? b = some ob ∧ ob.dict = none) ∧ (a == sysModules) = false := by
  rcases d with ⟨kvs, e⟩ | ⟨kvs, e⟩
  · obtain ⟨_, hd, vs, _, dd⟩ := dk_rd I.hok e
    refine ⟨dd.typeIs, fun b q => ?_, hd⟩
    cases q
    obtain ⟨ob, _, _, h1, h2, _⟩ := dd
    exact ⟨ob, h1, h2.2.1⟩
  · obtain ⟨_, hd, xs, _, dd⟩ := dt_rd I.hok e
    refine ⟨dd.typeIs, fun b q => ?_, hd⟩
    cases q
    obtain ⟨ob, _, _, h1, h2, _⟩ := dd
    exact ⟨ob, h1, h2.2.1⟩

section
variable {X : Cx} {pins : List (Addr × Obj)} {σ : St} {H : Hp} {s : Shared} {a : Addr} {y d : V} {u r : Value} {o : Option V} {A : Around} {E : Value → Shared → Prop}
end

section
variable {X : Cx} {o e f : Expr} {apos cpos : Pos} {td ty tx : TE}
end

section
variable {X : Cx} {pins : List (Addr × Obj)} {σ : St} {H : Hp} {s : Shared} {a : Addr} {kvs : List (Key × V)} {A : Around} {E : Value → Shared → Prop}
end


section
variable {X : Cx} {pins : List (Addr × Obj)} {σ : St} {H : Hp} {s : Shared} {a : Addr} {y : V} {u : Value} {A : Around} {E : Value → Shared → Prop}
end
end L2

namespace Att
open PySem PySem.W PySem.Calls PyProof.Rows

theorem ints_of_wellAll {P : Params} {h : Heap} : ∀ (ns : List Int) (vs : List Value), WellAll P h vs (ns.map WData.int) → IntsAre vs ns := by
  intro ns
  induction ns with
  | nil =>
    intro vs w
    rw [List.map_nil] at w
    cases w
    exact .nil
  | cons n ns ih =>
    intro vs w
    rw [List.map_cons] at w
    cases w with
    | cons a b =>
      cases a
      exact .cons _ _ (ih _ b)

theorem script_of {l : OpenLaw} {n : Nat} (hn : l.most = some n) {P : Params} {h : Heap} {args : List WData} {vals : List Value}
    (hpre : l.row.toRowW.claim.pre args = true) (hwl : WellAll P h vals args) :
    ∃ a vs ns, vals = [Value.ref a] ∧ args = [WData.list (ns.map WData.int)] ∧ h.get? a = some { cls := .type "list", data := .seq vs.toArray } ∧ IntsAre vs ns ∧ ns.length ≤ n := by
  have hsh : WShape.hasAll [] args [.list .int] = true := (pre_splitW hpre).1
  have hc : l.pre.holds [] { args := args } = true := (pre_splitW hpre).2
  obtain ⟨d, r, rfl, h1, h2⟩ := hasAllW_cons hsh
  obtain rfl := hasAllW_nil h2
  obtain ⟨xs, rfl, h3⟩ := hasW_list h1
  obtain ⟨ns, rfl⟩ := items_int h3
  have hlen : ns.length ≤ n := by
    unfold OpenLaw.pre at hc
    have h4 : (WTm.not (.lt (.lit (.int (n : Int))) (.len (.arg 0)))).holds [] { args := [.list (ns.map .int)] } = true := by
      have h4 := (holds_andW hc).1
      rw [hn] at h4
      exact h4
    have h5 := condW_of h4 (w_not (w_lt w_lit (w_len_list (w_arg rfl))))
    rw [List.length_map] at h5
    refine Nat.le_of_not_lt fun q => ?_
    have q' : (n : Int) < ((ns.length : Nat) : Int) := by omega
    first
      | (rw [decide_eq_true q'] at h5; exact absurd h5 (by decide))
      | (simp at h5; omega)
  cases hwl with
  | cons w1 w2 =>
    cases w2
    cases w1 with
    | list ho hall => exact ⟨_, _, ns, rfl, rfl, ho, ints_of_wellAll ns _ hall, hlen⟩

theorem post_true (l : OpenLaw) (args : List WData) : l.row.toRowW.claim.post args (.bool true) args = true :=
  postW_of (r := l.row.toRowW) (X := (true == true))
    (show WShape.has [] (.bool true) .bool = true by first | rfl | decide | simp [WShape.has, WShape.arms, WShape.armsAll])
    (show (WTm.eq .res (.lit (.bool true))).value [] { args := args, res := some (.bool true), after := args } = some (.bool (true == true)) from w_eq_bool (w_res rfl) w_lit) rfl

theorem attach_call {l : OpenLaw} {n : Nat} {q : Program} {loose : List Str} {XP : (Str → Option Value) → Heap → Prop} {YP : World → Heap → Prop} {d : DefRec}
    (hn : l.most = some n) (hdf : d.params.defaults = [])
    (call : ∀ (w : World) (s₀ s₁ : Shared) (mg mb : Str → Option Value) (fa : Addr) (o : Obj) (pm cd doc : Value) (a : Addr) (vs : List Value) (ns : List Int),
      Ground q loose [] XP w s₀ mg mb s₁.heap → YP w s₁.heap →
      s₁.heap.get? fa = some o → o.data = .func (docDef d.name d.params d.body d.scope pm cd doc) → s₁.heap.CodeRec cd d.name → mg d.name = some (.ref fa) →
      s₁.heap.get? a = some { cls := .type "list", data := .seq vs.toArray } → IntsAre vs ns → ns.length ≤ n → s₁.gens = #[] →
      codeAny (model l.prog w) callerA (.call (.ref fa) ⟨[.ref a], []⟩) (fun r s' => r = .ok (.ret (.bool true)) ∧ OldK s₁.heap s'.heap ∧ s'.os = s₁.os ∧ AllBare s'.gens) s₁) :
    WalkO q loose XP YP l.row.toRowW d [] (fun f vs => PySem.call f vs) := by
  intro w s₀ s₁ mg mb G Y fa o pm cd doc dV kV ho hd hcd hD hmg hg args vals as hpre hlay hrd hwl hlo
  obtain rfl : dV = .none := Dflts.none hD hdf
  obtain rfl : kV = .none := Dflts.noKw hD
  obtain ⟨a, vs, ns, rfl, rfl, hobj, hints, hlen⟩ := script_of hn hpre hwl
  refine enter_call (codeAny_mono (call w s₀ s₁ mg mb fa o pm cd doc a vs ns G Y ho (fd_plain hd) hcd hmg hobj hints hlen hg) fun r s' hq => ?_)
  obtain ⟨rfl, h2, h3, h4⟩ := hq
  exact ⟨.inl ⟨.bool true, .bool true, [], rfl, fun _ => rfl, .bool true, post_true l _, fun _ => ⟨List.Pairwise.nil, fun _ hm => (nomatch hm)⟩⟩, h2, h3, h4⟩

section
variable {prog : Program} {w : World} {A : Around} {E : Value → Shared → Prop} {s : Shared} {K : Frag}

end
end Att

namespace L2
open PySem PySem.Spec PyProof.Rows

theorem vals_ints : ∀ {vs : List Value} {ns : List Int}, IntsAre vs ns → Vals (ns.map V.int) vs
  | _, _, .nil => .nil
  | _, _, .cons n t h => .cons ⟨t, rfl⟩ (vals_ints h)

def Only (H : Hp) : Prop := ∀ b, H b = none ∨ ∃ o xs, H b = some (.frz o (.lst xs))

theorem law_call {P : Program} {w : World} {K : PySem.W.Frag} {mg mb : Str → Option Value} {CX : CXT} {k : Nat} {fa a : Addr} {fd : FuncData} {x : Str} {sp : Sp} {s₁ : Shared} {vs : List Value} {ns : List Int}
    (KX : K.In s₁.heap) (hns : s₁.heap.Ns mainGlobals mg) (hb : s₁.heap.Ns builtinsNs mb) (hbb : ∀ x : Str, x ≠ "__name__" → mb x = bootBuiltins x) (hlim : s₁.heap.NoLimit) (hg : s₁.gens = #[])
    (ha : s₁.heap.get? a = some { cls := .type "list", data := .seq vs.toArray }) (hi : IntsAre vs ns) (hl : ns.length ≤ sizeLine) (hr : Room k callerA)
    (F : ∀ base : Heap, K.In base → base.Ns mainGlobals mg → FnOk P w K mg base CX k fa fd [x] sp) (hbind : ∀ (s : Shared) (u : Value), BindsTo s fd ⟨[u], []⟩ [(x, u)])
    (hsp : ∀ H : Hp, Only H → SqL K H a (ns.map V.int) → sp [.ref a] H (fun v _ => v = .bl true) fun _ _ _ => False)
    (hCX : ∀ H e s', CX [] H s₁ (fun _ _ _ => False) e s' → False) :
    codeAny (model P w) callerA (.call (.ref fa) ⟨[.ref a], []⟩) (fun r s' => r = .ok (.ret (.bool true)) ∧ OldK s₁.heap s'.heap ∧ s'.os = s₁.os ∧ AllBare s'.gens) s₁ := by
  have rv := vals_ints hi
  have lenV := hi.length
  -- from an abstract heap in which nothing but the script may be tracked
  have core : ∀ H : Hp, Only H → SqL K H a (ns.map V.int) → HOk P w H s₁.heap → (∀ b, H b ≠ none → b = a) → (H a ≠ none → K.lookup a = none) →
      codeAny (model P w) callerA (.call (.ref fa) ⟨[.ref a], []⟩) (fun r s' => r = .ok (.ret (.bool true)) ∧ OldK s₁.heap s'.heap ∧ s'.os = s₁.os ∧ AllBare s'.gens) s₁ := by
    intro H hO hS hok hA hK
    have base_of : ∀ {b : Addr} {o : Obj}, s₁.heap.get? b = some o → H b = none → (hidT s₁.heap H).get? b = some o := fun e n => hidT_get e n
    have noA : ∀ {b : Addr} {o : Obj} {es : Array DictEntry} {ep : Nat}, s₁.heap.get? b = some o → o.data = .dict es ep → H b = none := fun {b o es ep} e d => by
      cases q : H b with
      | none => rfl
      | some u =>
        have e' : b = a := hA b (by rw [q]; simp)
        subst e'
        rw [ha] at e; cases e
        have d' : Data.seq vs.toArray _ = Data.dict es ep := d
        cases d'
    have nsK : ∀ {b : Addr} {m : Str → Option Value}, s₁.heap.Ns b m → (hidT s₁.heap H).Ns b m := fun {b m} ⟨o, es, ep, e, d, r⟩ => ⟨o, es, ep, base_of e (noA e d), d, r⟩
    have hKb : K.In (hidT s₁.heap H) := fun b o e => base_of (KX b o e) (by
      cases q : H b with
      | none => rfl
      | some u =>
        have e' : b = a := hA b (by rw [q]; simp)
        subst e'
        rw [hK (by rw [q]; simp)] at e; cases e)
    have hM : Mod K mg (hidT s₁.heap H) := ⟨hKb, nsK hns, ⟨mb, nsK hb, hbb⟩, let ⟨mc, h1, h2⟩ := hlim; ⟨mc, nsK h1, h2⟩⟩
    have e0 : Env0 P w K mg (hidT s₁.heap H) callerA [] s₁ H := ⟨rfl, hM, fun b o e => of_hidT e, Nat.le_of_eq (hidT_size _ _), trivial, fun b hb => absurd (show b ∈ ([] : List Addr) from hb) (by simp), hok, .of_eq hg⟩
    refine codeAny_mono ((F _ hKb (nsK hns)).run callerA [] s₁ H ⟨[.ref a], []⟩ [.ref a] [.ref a] _ _ hr e0 (hbind s₁ (.ref a)) (.cons rfl .nil) (hsp H hO hS)) fun r s' h => ?_
    cases r with
    | error e => exact (hCX H e s' h).elim
    | ok fl =>
      cases fl with
      | next => exact False.elim h
      | brk => exact False.elim h
      | cont => exact False.elim h
      | ret u =>
        obtain ⟨v, H', os, bare, un, hok', r', q⟩ := h
        have q' : v = .bl true := q
        subst q'
        obtain rfl : u = Value.bool true := r'
        refine ⟨rfl, OldK.of_keep fun b o e => ?_, os, bare⟩
        cases q : H b with
        | none => exact un.keep b o e q (by intro z; exact absurd (show b ∈ ([] : List Addr) from z) (by simp)) (by simp)
        | some u =>
          rcases hO b with z | ⟨ob, xs, z⟩
          · rw [q] at z; cases z
          · have z2 := un.frzs b ob _ z
            obtain ⟨e1, _⟩ := hok b _ z
            obtain ⟨e2, _⟩ := hok' b _ z2
            rw [e] at e1; cases e1
            exact e2
  cases hk : K.lookup a with
  | some o =>
    -- the script is one of the module's own objects
    have e := KX a o hk
    rw [ha] at e
    cases e
    refine core (fun _ => none) (fun _ => .inl rfl) (.inr ⟨_, vs.toArray, _, hk, rfl, rfl, rfl, by rw [List.size_toArray, lenV]; exact hl, by simpa using rv⟩) (fun b u z => by have z' : (none : Option HO) = some u := z; cases z') (fun b z => absurd rfl z) fun z => absurd rfl z
  | none =>
    refine core (fun b => if b = a then some (.frz { cls := .type "list", data := .seq vs.toArray } (.lst (ns.map V.int))) else none) (fun b => ?_) (.inl (.inr ⟨{ cls := .type "list", data := .seq vs.toArray }, if_pos rfl⟩)) (fun b u z => ?_) (fun b z => ?_) fun _ => hk
    · by_cases hb : b = a
      · exact .inr ⟨_, _, if_pos hb⟩
      · exact .inl (if_neg hb)
    · by_cases hb : b = a
      · have z' := (if_pos hb).symm.trans z
        cases z'
        subst hb
        exact ⟨ha, by rw [List.length_map]; exact hl, vs, _, rv, ha⟩
      · have z' := (if_neg hb).symm.trans z
        cases z'
    · by_cases hb : b = a
      · exact hb
      · exact absurd (if_neg hb) z
end L2

namespace L2
open PySem PySem.Spec PyProof.Rows

abbrev KOf {K : PySem.W.Frag} {h : Heap} (_ : K.In h) : PySem.W.Frag := K

theorem walk_of {l : PySem.W.OpenLaw} {n k : Nat} {q : Program} {loose : List Str} {XP : (Str → Option Value) → Heap → Prop} {YP : World → Heap → Prop} {d : DefRec} {K : Params → PySem.W.Frag} {CX : World → CXT} {sp : World → Sp} {x : Str}
    (hn : l.most = some n) (hn2 : n ≤ sizeLine) (hdf : d.params.defaults = []) (hr : Room k callerA)
    (hY : ∀ (w : World) (h : Heap), YP w h → (K w.params).In h)
    (F : ∀ (w : World) (mg : Str → Option Value) (fa : Addr) (h : Heap), (K w.params).In h → h.Ns mainGlobals mg → mg d.name = some (.ref fa) →
      ∃ fd : FuncData, (∀ (s : Shared) (u : Value), BindsTo s fd ⟨[u], []⟩ [(x, u)]) ∧
        ∀ base : Heap, (K w.params).In base → base.Ns mainGlobals mg → FnOk l.prog w (K w.params) mg base (CX w) k fa fd [x] (sp w))
    (hsp : ∀ (w : World) (H : Hp) (a : Addr) (ns : List Int), ns.length ≤ n → Only H → SqL (K w.params) H a (ns.map V.int) → sp w [.ref a] H (fun v _ => v = .bl true) fun _ _ _ => False)
    (hCX : ∀ (w : World) (H : Hp) (s : Shared) (e : Value) (s' : Shared), CX w [] H s (fun _ _ _ => False) e s' → False) :
    PySem.W.WalkO q loose XP YP l.row.toRowW d [] (fun f vs => PySem.call f vs) := by
  refine Att.attach_call hn hdf fun w s₀ s₁ mg mb fa o pm cd doc a vs ns G Y ho hd hcd hmg hobj hints hlen hg => ?_
  have KX := hY w _ Y
  obtain ⟨fd, hb, hF⟩ := F w mg fa _ KX G.T.g hmg
  exact law_call KX G.T.g G.T.b G.T.builtins G.T.nolimit hg hobj hints (Nat.le_trans hlen hn2) hr hF hb (fun H hO hS => hsp w H a ns hlen hO hS) fun H e s' => hCX w H s₁ e s'
end L2

/- THE LAST THEOREM (shape; LID, My.* are yours):
   My.Adr: a structure of the addresses that your layer names (classes, functions); My.Txt K t: a structure (Prop) of the equations over K;
   My.txt_mk : {K} {implicit addresses ..} (e1 : nsIn K mainGlobals "law" = some (some (.ref f))) (e2 : K.lookup f = some ⟨oc, od, .func (fnOf "law" "law" params body scope dV kV doc pm an cdv ct), sl⟩) (e3 : codeIn K cdv "law" = true) .. : ∃ t, My.Txt K t

set_option maxRecDepth 100000 in
set_option maxHeartbeats 0 in
theorem PySem.Challenge.cw_LID_holds : PySem.Challenge.rw_LID.Holds := by
  w_on; o_law; k_head; (case hw => w_witness2)
  k_fill
  refine L2.walk_of (l := PySem.Challenge.rw_LID) (n := 63) (k := 40) (x := "script") (CX := fun w => ..) (sp := fun _ => My.sp_law) rfl (by decide) rfl ⟨rfl, by decide, by decide⟩ (fun w h Y => PySem.W.kIn_of Y) ?F ?S ?C
  case F =>
    intro w mg fa h KX G hmg
    have T : ∃ t, My.Txt (L2.KOf KX) t := by
      dsimp only [L2.KOf]                          -- K must stand as «<heap const> w.params» for k_is
      refine' My.txt_mk ?e1 ?e2 ?e3 ..
      (case e1 => PySem.W.k_is)                    -- in the order: a name -> its address -> its object -> its parts
      (case e2 => PySem.W.k_is)
      ..
    obtain ⟨t, T⟩ := T
    have e0 := hmg.symm.trans (PySem.W.mg_of KX G T.law)
    cases e0                                       -- fa is the law's own address
    exact ⟨_, fun s u => .of_eq rfl, fun base kb nb => My.law_fn T kb nb⟩     -- if «.of_eq rfl» comes too early: refine' ⟨_, ?b, fun base kb nb => My.law_fn T kb nb⟩; exact fun s u => .of_eq rfl
  case S => exact fun w H a ns hl hO hS => ..
  case C => exact ..
(the tactic k_is has no namespace: write k_is) -/

namespace L2
open PySem PySem.Spec PyProof.Rows

def inClass (s : Stmt) (j : Nat) : Stmt := match s with
  | .ClassDef _ _ _ body _ _ _ _ _ _ _ => body.getD j (.Pass ⟨0, 0, 0, 0⟩)
  | _ => .Pass ⟨0, 0, 0, 0⟩
def defArgs (s : Stmt) : Arguments := match s with
  | .FunctionDef _ a _ _ _ _ _ _ _ _ => a
  | _ => { posonlyargs := [], args := [], vararg := none, kwonlyargs := [], kw_defaults := [], kwarg := none, defaults := [] }
def defBody (s : Stmt) : List Stmt := match s with
  | .FunctionDef _ _ b _ _ _ _ _ _ _ => b
  | _ => []
def defScope (s : Stmt) : Scope := match s with
  | .FunctionDef _ _ _ _ _ _ sc _ _ _ => sc
  | _ => { kind := .function, names := [], isGenerator := false, isCoroutine := false }

abbrev CX0 : CXT := fun _ _ _ _ _ _ => False
abbrev E0 : XK := fun _ _ _ => False
theorem pass0 {X : Cx} : Passes CX0 X E0 := fun _ _ _ _ _ _ _ h => h.elim

structure Fun (K : PySem.W.Frag) (x qual : Str) (st : Stmt) (f : Addr) (fd : FuncData) : Prop where
  ex : ∃ (oc : Value) (od : Option Addr) (kV doc pm : Value) (an : Option Addr) (cdv ct : Value) (osl : Array (Option Value)),
    fd = PySem.W.fnOf x qual (defArgs st) (defBody st) (defScope st) .none kV doc pm an cdv ct ∧ K.lookup f = some ⟨oc, od, .func fd, osl⟩ ∧ PySem.W.codeIn K cdv qual = true
  kp : PySem.W.keepIn K (.ref f) = true
section
variable {P : Program} {w : World} {K : PySem.W.Frag} {mg : Str → Option Value} {base : Heap}
theorem Fun.ok {x qual : Str} {st : Stmt} {f : Addr} {fd : FuncData} {N ps : List Str} {k : Nat} {sp : Sp} (F : Fun K x qual st f fd) (S : FnScope N ps (defScope st)) (len : ∀ vs H Q E, sp vs H Q E → vs.length = ps.length)
    (hbody : ∀ (cdv : Value) (A : Around) (outer : List Env) (s : Shared) (H : Hp) (vs : List V) (Q : VK) (E : XK), Room k (A.deeper (envOfC qual (defScope st) s.heap.objs.size f cdv)) → sp vs H Q E →
      ∃ t, PSs (cxOf CX0 P w K mg base N qual (defScope st) f cdv A outer s H E).nox (defBody st) t ∧ t { nx := fun _ H' => Q .non H', rt := Q } (start N vs) H) : FnOk P w K mg base CX0 (k + 1) f fd ps sp := by
  obtain ⟨oc, od, kV, doc, pm, an, cdv, ct, osl, rfl, lk, hcd⟩ := F.ex
  refine fn_of lk hcd S len fun A outer s H vs Q E hr hsp => ?_
  obtain ⟨t, h, q⟩ := hbody cdv A outer s H vs Q E hr hsp
  exact ⟨t, h.nox, q⟩
theorem Fun.binds {x qual : Str} {st : Stmt} {f : Addr} {fd : FuncData} {ps : List Str} (F : Fun K x qual st f fd)
    (h : ∀ (kV doc pm : Value) (an : Option Addr) (cdv ct : Value) (us : List Value), us.length = ps.length → bindArgs (PySem.W.fnOf x qual (defArgs st) (defBody st) (defScope st) .none kV doc pm an cdv ct) ⟨us, []⟩ = pure (ps.zip us)) : Binds K fd ps [] := by
  obtain ⟨oc, od, kV, doc, pm, an, cdv, ct, osl, rfl, lk, hcd⟩ := F.ex
  exact .all (h kV doc pm an cdv ct)
theorem fun_mk {x qual : Str} {st : Stmt} {f : Addr} {oc : Value} {od an : Option Addr} {osl : Array (Option Value)} {kV doc pm cdv ct : Value} (l : K.lookup f = some ⟨oc, od, .func (PySem.W.fnOf x qual (defArgs st) (defBody st) (defScope st) .none kV doc pm an cdv ct), osl⟩)
    (c : PySem.W.codeIn K cdv qual = true) (k : PySem.W.keepIn K (.ref f) = true) : Fun K x qual st f (PySem.W.fnOf x qual (defArgs st) (defBody st) (defScope st) .none kV doc pm an cdv ct) := ⟨⟨oc, od, kV, doc, pm, an, cdv, ct, osl, rfl, l, c⟩, k⟩
end
theorem hu_of {A : Around} {k : Nat} (hr : Room k A) : A.units + 1 < cLine := Nat.lt_of_le_of_lt (Nat.add_le_add_left (by decide : 1 ≤ 64) _) hr.units
theorem small1000 {n : Nat} (h : n ≤ 1000) : n < sizeLine := Nat.lt_of_le_of_lt h (by decide)

section
variable {X : Cx}
theorem pv (i : Nat) {x : Str} {pos : Pos} (hN : X.N[i]? = some x := by rfl) (hv : Vis X.env.scope x := by first | exact Or.inl rfl | exact Or.inr (Or.inl rfl) | exact Or.inr (Or.inr rfl)) (hd : (x == ("__debug__" : Str)) = false := by decide)
    (hcd : (x == ("__classdict__" : Str)) = false := by decide) : PE X (.Name x pos) (tVar i) := pe_var hN hv hd hcd
end

theorem iteF {A B : Prop} (h : B) : if false = true then A else B := by
  rw [if_neg Bool.false_ne_true]
  exact h
theorem iteT {A B : Prop} (h : A) : if true = true then A else B := by
  rw [if_pos rfl]
  exact h
theorem ite2 {c A B : Prop} [Decidable c] (h1 : c → A) (h2 : ¬ c → B) : if c then A else B := by
  by_cases h : c
  · rw [if_pos h]
    exact h1 h
  · rw [if_neg h]
    exact h2 h
theorem iteNS {c A B : Prop} [Decidable c] (hc : c) (h : B) : if (!decide c) = true then A else B := by
  rw [decide_eq_true hc]
  exact iteF h

def Same (H H' : Hp) : Prop := ∀ b o, H b = some o → H' b = some o
theorem Same.refl (H : Hp) : Same H H := fun _ _ h => h
theorem Same.trans {H H1 H2 : Hp} (a : Same H H1) (b : Same H1 H2) : Same H H2 := fun c o h => b c o (a c o h)
theorem Same.free {H H' : Hp} (e : Same H H') {l : Addr} (h : H' l = Option.none) : H l = Option.none := by
  cases q : H l with
  | none => rfl
  | some o =>
    rw [e l o q] at h
    cases h
theorem Same.seq {K : PySem.W.Frag} {H H' : Hp} {a : Addr} {xs : List V} (e : Same H H') (h : SqL K H a xs) : SqL K H' a xs := by
  rcases h with (h | ⟨o, h⟩) | h
  · exact .inl (.inl (e _ _ h))
  · exact .inl (.inr ⟨o, e _ _ h⟩)
  · exact .inr h

section
variable {κ : Type} [DecidableEq κ]
end
end L2

set_option Elab.async false
set_option linter.all false
set_option maxRecDepth 100000
namespace L2
open PySem PySem.Spec PyProof.Rows

structure Dn (K : PySem.W.Frag) (mg : Str → Option Value) (x qual : Str) (st : Stmt) (f : Addr) (fd : FuncData) (ps : List Str) : Prop where
  F : Fun K x qual st f fd
  m : mg x = some (.ref f)
  b : Binds K fd ps []
  a : ∀ (s : Shared) (us : List Value), us.length = ps.length → BindsTo s fd ⟨us, []⟩ (ps.zip us)
theorem len1 {F : List Value → Prop} (h : ∀ a, F [a]) : ∀ us : List Value, us.length = 1 → F us
  | [a], _ => h a
theorem len2 {F : List Value → Prop} (h : ∀ a b, F [a, b]) : ∀ us : List Value, us.length = 2 → F us
  | [a, b], _ => h a b
theorem len3 {F : List Value → Prop} (h : ∀ a b c, F [a, b, c]) : ∀ us : List Value, us.length = 3 → F us
  | [a, b, c], _ => h a b c
theorem dn_mk {K : PySem.W.Frag} {mg : Str → Option Value} {x qual : Str} {st : Stmt} {f : Addr} {ps : List Str} {kV doc pm cdv ct : Value} {an : Option Addr}
    (F : Fun K x qual st f (PySem.W.fnOf x qual (defArgs st) (defBody st) (defScope st) .none kV doc pm an cdv ct)) (m : mg x = some (.ref f))
    (h : ∀ (kV doc pm : Value) (an : Option Addr) (cdv ct : Value) (us : List Value), us.length = ps.length → bindArgs (PySem.W.fnOf x qual (defArgs st) (defBody st) (defScope st) .none kV doc pm an cdv ct) ⟨us, []⟩ = pure (ps.zip us)) :
    Dn K mg x qual st f (PySem.W.fnOf x qual (defArgs st) (defBody st) (defScope st) .none kV doc pm an cdv ct) ps :=
  ⟨F, m, F.binds h, fun s us hl => .of_eq (h _ _ _ _ _ _ us hl)⟩
theorem Dn.bind1 {K : PySem.W.Frag} {mg : Str → Option Value} {x qual : Str} {st : Stmt} {f : Addr} {fd : FuncData} {p : Str} (D : Dn K mg x qual st f fd [p]) (s : Shared) (u : Value) : BindsTo s fd ⟨[u], []⟩ [(p, u)] := D.a s [u] rfl
section
variable {X : Cx} {k : Nat} {f : Addr} {fd : FuncData} {ps : List Str} {sp : Sp} {x qual : Str} {st : Stmt} {p pos : Pos} {e : Expr} {es : List Expr} {t : TA}
theorem pcall (D : Dn X.K X.mg x qual st f fd ps) (F : FnOk X.prog X.w X.K X.mg X.base CX0 k f fd ps sp) (hr : Room k X.A) (ha : PA X (e :: es) t) (hg : Gl X x := by rfl)
    (hdb : (x == ("__debug__" : Str)) = false := by decide) (he : starEach (e :: es) X.env = (false, eval e X.env) :: starEach es X.env := by rfl) (hpl : (backTo pos (starEach es X.env)).any (·.1) = false := by rfl) :
    PE X (.Call (.Name x p) (e :: es) [] pos) (tCall sp [] E0 t) := pe_call F hr hg D.m D.F.kp D.b .nil pass0 ha hdb he hpl
end

def relOf : Value → Option V
  | .int i _ => some (.int i)
  | .str x _ => some (.str x)
  | .bool b => some (.bl b)
  | .none => some .non
  | .ref a => some (.ref a)
  | _ => none
def relAll : List Value → Option (List V)
  | [] => some []
  | u :: r => match relOf u, relAll r with
    | some v, some vs => some (v :: vs)
    | _, _ => none
theorem relOf_ok {u : Value} {v : V} (h : relOf u = some v) : RelV v u := by
  cases u <;> simp only [relOf, Option.some.injEq, reduceCtorEq] at h <;> subst h <;> first | rfl | exact ⟨_, rfl⟩
theorem relAll_ok : ∀ {us : List Value} {vs : List V}, relAll us = some vs → Vals vs us
  | [], _, h => by cases h; exact .nil
  | u :: r, vs, h => by
    unfold relAll at h
    split at h
    · rename_i v ws h1 h2
      cases h
      exact .cons (relOf_ok h1) (relAll_ok h2)
    · cases h
theorem Same.sqT {K : PySem.W.Frag} {H H' : Hp} {a : Addr} {xs : List V} (e : Same H H') (h : SqT K H a xs) : SqT K H' a xs := by
  rcases h with (h | ⟨o, h⟩) | h
  · exact .inl (.inl (e _ _ h))
  · exact .inl (.inr ⟨o, e _ _ h⟩)
  · exact .inr h
theorem same_upd {H : Hp} {p : Addr} {o : HO} (h : H p = none) : Same H (upd H p o) := fun b u e => by
  rw [upd_ne (ne_of_none e h)]
  exact e

inductive TyV (K : PySem.W.Frag) (H : Hp) : V → Value → Prop where
  | non : TyV K H .non (.type "NoneType")
  | bl (x : Bool) : TyV K H (.bl x) (.type "bool")
  | int (i : Int) : TyV K H (.int i) (.type "int")
  | str (x : Str) : TyV K H (.str x) (.type "str")
  | lst {a : Addr} {xs : List V} (e : SqL K H a xs) : TyV K H (.ref a) (.type "list")
  | tup {a : Addr} {xs : List V} (e : SqT K H a xs) : TyV K H (.ref a) (.type "tuple")
  | dK {a : Addr} {kvs : List (Key × V)} (e : H a = some (.dK kvs)) : TyV K H (.ref a) (.type "dict")
  | dT {a : Addr} {kvs : List (List Key × V)} (e : H a = some (.dT kvs)) : TyV K H (.ref a) (.type "dict")
def cV : V → Value
  | .ty n => .type n
  | .ref a => .ref a
  | _ => .none
def isCV : V → Bool
  | .ty _ => true
  | .ref _ => true
  | _ => false
section
variable {X : Cx}
theorem call_isi : CallR X (.builtin "isinstance") (fun xs H Q => ∃ x c t b, xs = [x, c] ∧ isCV c = true ∧ TyV X.K H x t ∧ PySem.W.kitOne X.K t (cV c) = some b ∧ Q (.bl b) H) := by
  intro pins s σ H xs us Q I r h
  obtain ⟨x, c, t, b, rfl, hc, ty, e, q⟩ := h
  obtain ⟨u, v, rfl, rx, rc⟩ := vals2 r
  have ec : v = cV c := by
    cases c with
    | ty n => exact rc
    | ref a => exact rc
    | _ => exact absurd hc Bool.false_ne_true
  subst ec
  have fin : ∀ tk, EP X pins σ Q (.bool b) { s with toks := tk } := fun tk => ⟨.bl b, H, I.tok tk, rfl, q⟩
  cases ty with
  | non => exact isinst_ok I rx .non e fin
  | bl y => exact isinst_ok I rx (.bl y) e fin
  | int i => exact isinst_ok I rx (.int i) e fin
  | str y => exact isinst_ok I rx (.str y) e fin
  | @lst a ys ea =>
    cases (show u = Value.ref a from rx)
    obtain ⟨its, _, ⟨o, n, h1, h2, _⟩, _⟩ := I.list ea
    exact PySem.W.kia_one PySem.W.kitx_list I.kIn ⟨o, h1, h2⟩ e (fun z => nomatch z) fin
  | @tup a ys ea =>
    cases (show u = Value.ref a from rx)
    obtain ⟨its, _, ⟨o, h1, h2, _⟩, _⟩ := I.tuple ea
    exact PySem.W.kia_one PySem.W.kitx_tuple I.kIn ⟨o, h1, h2⟩ e (fun z => nomatch z) fin
  | dK ea => exact isinst_ok I rx (.dK ea) e fin
  | dT ea => exact isinst_ok I rx (.dT ea) e fin
end
theorem kit_same (K : PySem.W.Frag) (t : Value) : PySem.W.kitOne K t t = some true := by
  unfold PySem.W.kitOne
  rw [if_pos (by simp)]

section
variable {X : Cx}
theorem all_ints : ∀ {ns ms : List Int} {us ws : List Value}, Vals (ns.map V.int) us → Vals (ms.map V.int) ws →
    ∀ (e : Nat → Bool), (∀ j (x y : Int), ns[j]? = some x → ms[j]? = some y → e j = decide (x = y)) → ((List.range (min us.length ws.length)).all e && us.length == ws.length) = decide (ns = ms) := by
  intro ns ms us ws r q e he
  have l1 : ns.length = us.length := by have := r.length; rwa [List.length_map] at this
  have l2 : ms.length = ws.length := by have := q.length; rwa [List.length_map] at this
  rw [← l1, ← l2, Bool.eq_iff_iff]
  simp only [Bool.and_eq_true, List.all_eq_true, List.mem_range, beq_iff_eq, decide_eq_true_eq]
  constructor
  · rintro ⟨h1, h2⟩
    apply List.ext_getElem h2
    intro i hi hj
    have := h1 i (by omega)
    rw [he i _ _ (List.getElem?_eq_getElem hi) (List.getElem?_eq_getElem hj)] at this
    exact of_decide_eq_true this
  · rintro rfl
    refine ⟨fun j hj => ?_, rfl⟩
    have hj' : j < ns.length := by omega
    rw [he j _ _ (List.getElem?_eq_getElem hj') (List.getElem?_eq_getElem hj')]
    simp
def rEqTI (K : PySem.W.Frag) : R2 := fun x y H Q => ∃ a b ns ms, x = .ref a ∧ y = .ref b ∧ SqT K H a (List.map V.int ns) ∧ SqT K H b (List.map V.int ms) ∧ Q (.bl (decide (ns = ms))) H
theorem ints_at {ns : List Int} {us : List Value} (r : Vals (ns.map V.int) us) {j : Nat} (h : j < us.length) : ∃ x t, ns[j]? = some x ∧ us[j] = Value.int x t := by
  have l := r.length
  rw [List.length_map] at l
  have hx : (ns.map V.int)[j]? = some (V.int ns[j]) := by
    rw [List.getElem?_map, List.getElem?_eq_getElem (by omega)]; rfl
  obtain ⟨u, e, t, hu⟩ := r.get hx
  rw [List.getElem?_eq_getElem h] at e
  exact ⟨ns[j], t, List.getElem?_eq_getElem _, (Option.some.inj e).trans hu⟩
theorem op_eqTI (hu : X.A.units < cLine) : OpR X (compareOp .Eq) (rEqTI X.K) := by
  intro pins s σ H x y v u Q I rx ry h
  obtain ⟨a, b, ns, ms, rfl, rfl, ha, hb, q⟩ := h
  cases rx
  cases ry
  obtain ⟨its, r1, p1, _⟩ := I.tuple ha
  obtain ⟨its2, r2, p2, _⟩ := I.tuple hb
  have key : ∀ j (h1 : j < its.toArray.size) (h2 : j < its2.toArray.size), SeqAt.EqAt X.A.in1 s its.toArray[j] its2.toArray[j] (match ns[j]?, ms[j]? with | some x, some y => decide (x = y) | _, _ => false) := by
    intro j h1 h2
    simp only [List.size_toArray] at h1 h2
    obtain ⟨x, t, e1, e2⟩ := ints_at r1 h1
    obtain ⟨y, t', e3, e4⟩ := ints_at r2 h2
    simp only [List.getElem_toArray, e1, e3, e2, e4]
    have := eqAt_V (A := X.A.in1) (s := s) (y := V.int x) (x := V.int y) ⟨t, rfl⟩ ⟨t', rfl⟩ rfl rfl
    have ev : eqV (V.int x) (V.int y) = decide (x = y) := by
      show (x == y) = decide (x = y)
      rw [Bool.eq_iff_iff]; simp
    rw [ev] at this
    exact this
  refine SeqAt.eq_tupleAt p1 p2 hu key ⟨.bl (decide (ns = ms)), H, I, ?_, q⟩
  simp only [List.size_toArray]
  rw [all_ints r1 r2 _ (fun j x y e1 e2 => by simp only [e1, e2])]
  rfl

end
end L2
namespace L2
open PySem PySem.Spec PyProof.Rows
theorem kit_int_bool (K : PySem.W.Frag) : PySem.W.kitOne K (.type "int") (.type "bool") = some false := by kernel_rfl
def Pl (K : PySem.W.Frag) (H : Hp) (v : V) (q r : Int) : Prop := ∃ a, v = .ref a ∧ SqT K H a [.int q, .int r]
theorem Same.pl {K : PySem.W.Frag} {H H' : Hp} {v : V} {q r : Int} (e : Same H H') (h : Pl K H v q r) : Pl K H' v q r := let ⟨a, x, y⟩ := h; ⟨a, x, e.sqT y⟩
def cl (ns : List Int) (k : Int) : Int := ns[k.toNat]?.getD 0
end L2
namespace L2
open PySem
theorem bb_len : bootBuiltins "len" = some (.builtin "len") := by decide +kernel
theorem bb_max : bootBuiltins "max" = some (.builtin "max") := by decide +kernel
theorem bb_isinstance : bootBuiltins "isinstance" = some (.builtin "isinstance") := by decide +kernel
theorem bb_sorted : bootBuiltins "sorted" = some (.builtin "sorted") := by decide +kernel
theorem bb_int : bootBuiltins "int" = some (.type "int") := by decide +kernel
theorem bb_bool : bootBuiltins "bool" = some (.type "bool") := by decide +kernel
theorem bb_tuple : bootBuiltins "tuple" = some (.type "tuple") := by decide +kernel
theorem bb_list : bootBuiltins "list" = some (.type "list") := by decide +kernel
end L2
namespace L2
open PySem
theorem tup_of {K : PySem.W.Frag} {H : Hp} {a : Addr} {oc : Value} {od : Option Addr} {its : Array Value} {n : Nat} {sl : Array (Option Value)} {vs : List V} (l : K.lookup a = some ⟨oc, od, .seq its n, sl⟩) (c : oc = .type "tuple") (z : its.toList.length ≤ 1000)
    (v : relAll its.toList = some vs) : SqT K H a vs := .inr ⟨_, its, n, l, c, rfl, by rw [Array.length_toList] at z; exact Nat.le_of_lt (small1000 z), relAll_ok v⟩
end L2
namespace L2
open PySem
def tTupN (t : TA) : TE := fun σ H Q => t σ H fun xs H1 => xs.length ≤ sizeLine ∧ ∀ p H', Same H1 H' → H1 p = none → H' p = some (.tup xs) → Q (.ref p) H'
def tLstN (t : TA) : TE := fun σ H Q => t σ H fun xs H1 => xs.length ≤ sizeLine ∧ ∀ p H', Same H1 H' → H1 p = none → H' p = some (.lst xs) → Q (.ref p) H'
def tDictTN : TE := fun _ H Q => ∀ p H', Same H H' → H p = none → H' p = some (.dT []) → Q (.ref p) H'
section
variable {X : Cx} {es : List Expr} {t : TA} {pos : Pos}
theorem pe_tupN {x1} (h : PA X es t) : PE X (.Tuple es x1 pos) (tTupN t) := by
  intro pins s σ H Q I hq
  refine wpAny_Tuple_spliced (thn (h pos pins s σ H _ I hq) fun us s1 ww => ?_)
  obtain ⟨xs, H1, I1, r, z, q⟩ := ww
  have hn : H1 s1.heap.objs.size = none := I1.hok.fresh (Nat.le_refl _)
  refine ⟨by rw [← r.length]; exact z, .ref s1.heap.objs.size, _, ?_, rfl, q _ _ (same_upd hn) hn upd_same⟩
  exact I1.laid (t' := s1.toks) (fun b u e => Heap.get?_push_of_some _ e) (Nat.le_refl _) ⟨z, us, r, ⟨_, Heap.get?_push_size _ rfl, rfl, _, rfl⟩⟩
theorem pe_lstN (h : PA X es t) : PE X (.List es pos) (tLstN t) := by
  intro pins s σ H Q I hq
  refine wpAny_List_spliced (thn (h pos pins s σ H _ I hq) fun us s1 ww => ?_)
  obtain ⟨xs, H1, I1, r, z, q⟩ := ww
  have hn : H1 s1.heap.objs.size = none := I1.hok.fresh (Nat.le_refl _)
  refine ⟨by rw [← r.length]; exact z, .ref s1.heap.objs.size, _, ?_, rfl, q _ _ (same_upd hn) hn upd_same⟩
  exact I1.laid (t' := s1.toks) (fun b u e => Heap.get?_push_of_some _ e) (Nat.le_refl _) ⟨z, us, 0, r, Heap.get?_push_size _ rfl⟩
theorem pe_dnewTN : PE X (.Dict [] [] pos) tDictTN := fun pins s σ H Q I h => pe_dnewT pins s σ H Q I fun p hp => h p _ (same_upd hp) hp upd_same
end
theorem for_range' {lo : Int} {n : Nat} {g : TG} {tb : TS} {D : Ends} {σ : St} {H : Hp} (Pv : Nat → St → Hp → Prop) (h0 : Pv 0 σ H)
    (hs : ∀ i σ H, i < n → Pv i σ H → ∀ D' : Ends, (∀ σ H, Pv (i + 1) σ H → D'.nx σ H) → g (.int (lo + i)) σ H fun σ2 H2 => tb D' σ2 H2) (hd : ∀ σ H, Pv n σ H → D.nx σ H) :
    ∃ W : Nat → Nat → St → Hp → Prop, (∃ m, W 0 m σ H) ∧ ∀ i m σ H, W i m σ H →
      ((Itr lo n).stop i H ∧ D.nx σ H) ∨ ((Itr lo n).go i H ∧ ∃ N : St → Hp → Prop, (∀ σ' H', N σ' H' → ∃ m', m' < m ∧ W (i + 1) m' σ' H') ∧ ∀ x H', (Itr lo n).yld i H x H' → g x σ H' fun σ2 H2 => tb { D with nx := N, ct := N, bk := D.nx } σ2 H2) :=
  for_range Pv h0 (fun i σ H hi p => hs i σ H hi p _ fun _ _ h => h) hd
theorem for_list' {K : PySem.W.Frag} {a : Addr} {xs : List V} {g : TG} {tb : TS} {D : Ends} {σ : St} {H : Hp} (Pv : Nat → St → Hp → Prop) (h0 : Pv 0 σ H) (hl : ∀ i σ H, i ≤ xs.length → Pv i σ H → SqL K H a xs)
    (hs : ∀ i x σ H, xs[i]? = some x → Pv i σ H → ∀ D' : Ends, (∀ σ H, Pv (i + 1) σ H → D'.nx σ H) → (∀ v H, D.rt v H → D'.rt v H) → g x σ H fun σ2 H2 => tb D' σ2 H2) (hd : ∀ σ H, Pv xs.length σ H → D.nx σ H) :
    ∃ W : Nat → Nat → St → Hp → Prop, (∃ m, W 0 m σ H) ∧ ∀ i m σ H, W i m σ H →
      ((Itl K a).stop i H ∧ D.nx σ H) ∨ ((Itl K a).go i H ∧ ∃ N : St → Hp → Prop, (∀ σ' H', N σ' H' → ∃ m', m' < m ∧ W (i + 1) m' σ' H') ∧ ∀ x H', (Itl K a).yld i H x H' → g x σ H' fun σ2 H2 => tb { D with nx := N, ct := N, bk := D.nx } σ2 H2) :=
  for_list Pv h0 hl (fun i x σ H e p => hs i x σ H e p _ (fun _ _ h => h) fun _ _ h => h) hd
end L2

namespace Spi
def tq : Int → Int → Int → Int
  | 0, q, _ => q
  | 1, _, r => -r
  | 2, q, r => -(q + r)
  | 3, q, _ => -q
  | 4, _, r => r
  | 5, q, r => q + r
  | _, q, _ => q
def tr : Int → Int → Int → Int
  | 0, _, r => r
  | 1, q, r => q + r
  | 2, q, _ => q
  | 3, _, r => -r
  | 4, q, r => -(q + r)
  | 5, q, _ => -q
  | _, _, r => r
structure Rep (n s a : Int) : Prop where
  n1 : 1 ≤ n
  s0 : 0 ≤ s
  s5 : s ≤ 5
  a0 : 0 ≤ a
  an : a < n
theorem tq_step {i : Int} (h0 : 0 ≤ i) (h4 : i ≤ 4) (q r : Int) : tq (i + 1) q r = -(tr i q r) ∧ tr (i + 1) q r = tq i q r + tr i q r := by
  have : i = 0 ∨ i = 1 ∨ i = 2 ∨ i = 3 ∨ i = 4 := by omega
  rcases this with rfl | rfl | rfl | rfl | rfl
  · exact ⟨rfl, rfl⟩
  · exact ⟨rfl, show q = -r + (q + r) by omega⟩
  · exact ⟨rfl, show -r = -(q + r) + q by omega⟩
  · exact ⟨show r = - -r by omega, show -(q + r) = -q + -r by omega⟩
  · exact ⟨show q + r = - -(q + r) by omega, show -q = r + -(q + r) by omega⟩
end Spi

namespace Sev
def fq (f : Int) : Int := if f = 1 then 1 else if f = 3 then -1 else if f = 4 then -1 else if f = 6 then 1 else 0
def fr (f : Int) : Int := if f = 2 then 1 else if f = 3 then 1 else if f = 5 then -1 else if f = 6 then -1 else 0
def rsm (m : Int) : Int := if m = 1 then 1 else if m = 2 then 5 else if m = 3 then 6 else if m = 4 then 3 else if m = 5 then 2 else if m = 6 then 4 else 0
def rs (q r : Int) : Int := rsm ((q - 2 * r) % 7)
def cq (q r : Int) : Int := (3 * (q - fq (rs q r)) + (r - fr (rs q r))) / 7
def cr (q r : Int) : Int := (2 * (r - fr (rs q r)) - (q - fq (rs q r))) / 7
abbrev Fig (f : Int) : Prop := 0 ≤ f ∧ f ≤ 6
theorem fig_cases {f : Int} (h : Fig f) : f = 0 ∨ f = 1 ∨ f = 2 ∨ f = 3 ∨ f = 4 ∨ f = 5 ∨ f = 6 := by
  obtain ⟨h1, h2⟩ := h; omega
def stp (p : Int × Int) (f : Int) : Int × Int := (2 * p.1 - p.2 + fq f, p.1 + 3 * p.2 + fr f)
def wk (xs : List Int) : Int × Int := xs.foldl stp (0, 0)
theorem wk_snoc (xs : List Int) (f : Int) : wk (xs ++ [f]) = stp (wk xs) f := by simp [wk, List.foldl_append]
theorem take_succ {α : Type} {xs : List α} {i : Nat} {x : α} (h : xs[i]? = some x) : xs.take (i + 1) = xs.take i ++ [x] := by
  rw [List.take_succ, h]; rfl
theorem wk_take {xs : List Int} {i : Nat} {f : Int} (h : xs[i]? = some f) : wk (xs.take (i + 1)) = stp (wk (xs.take i)) f := by rw [take_succ h, wk_snoc]
inductive Adr : Int → Int → List Int → Prop where
  | nil : Adr 0 0 []
  | snoc {q r : Int} {A : List Int} (h : ¬ (q = 0 ∧ r = 0)) (a : Adr (cq q r) (cr q r) A) : Adr q r (A ++ [rs q r])
def bare (xs : List Int) : List Int := xs.dropWhile (· == 0)
def nm (q r : Int) : Int := q * q + q * r + r * r
end Sev

set_option Elab.async false
set_option linter.all false
set_option maxRecDepth 100000
namespace L2
open PySem PySem.Spec PyProof.Rows
theorem closure_go {env : Env} {cf : Str → Addr} (f : Str × NameKind → List (Str × Addr) → Sem (ForInStep (List (Str × Addr))))
    (hf : ∀ n k cs, f (n, k) cs = if k == .free then (do let c ← cellOf env n; pure (ForInStep.yield ((n, c) :: cs))) else pure (ForInStep.yield cs)) :
    ∀ (names : List (Str × NameKind)) (acc : List (Str × Addr)), (∀ x ∈ names, x.2 = .free → cellOf env x.1 = pure (cf x.1)) →
    forIn names acc f = (pure (((names.filter (fun x => x.2 == .free)).map fun x => (x.1, cf x.1)).reverse ++ acc) : Sem _)
  | [], acc, _ => rfl
  | (n, k) :: r, acc, h => by
    rw [List.forIn_cons, hf]
    have ih := fun acc => closure_go (cf := cf) f hf r acc fun x hx => h x (List.mem_cons_of_mem _ hx)
    by_cases hk : k = .free
    · subst hk
      have e := h (n, .free) List.mem_cons_self rfl
      simp only [beq_self_eq_true, if_true]
      rw [show cellOf env n = pure (cf n) from e]
      show forIn r ((n, cf n) :: acc) f = _
      rw [ih]
      simp
    · have hb : (k == NameKind.free) = false := by simpa using hk
      simp only [hb, Bool.false_eq_true, if_false]
      show forIn r acc f = _
      rw [ih]
      simp [hb]
theorem closure_of {env : Env} {scope : Scope} {cf : Str → Addr} (h : ∀ x ∈ scope.names, x.2 = .free → env.cells.lookup x.1 = some (cf x.1)) :
    closureFor scope env = pure (((scope.names.filter (fun x => x.2 == .free)).map fun x => (x.1, cf x.1)).reverse) := by
  unfold closureFor
  dsimp only
  have key := fun f hf => closure_go (env := env) (cf := cf) f hf scope.names [] (fun x hx hk => by unfold cellOf; rw [h x hx hk])
  rw [List.append_nil] at key
  rw [key _ (fun n k cs => rfl)]
  rfl
theorem lookup_map_self {cf : Str → Addr} : ∀ {l : List Str} {y : Str} {c : Addr}, (l.map fun n => (n, cf n)).lookup y = some c → y ∈ l ∧ c = cf y
  | [], _, _, h => by simp at h
  | n :: r, y, c, h => by
    rw [List.map_cons, List.lookup_cons] at h
    by_cases e : y = n
    · subst e
      simp only [beq_self_eq_true] at h
      cases h
      exact ⟨List.mem_cons_self, rfl⟩
    · have e' : (y == n) = false := beq_eq_false_iff_ne.mpr e
      simp only [e'] at h
      obtain ⟨h1, h2⟩ := lookup_map_self h
      exact ⟨List.mem_cons_of_mem _ h1, h2⟩
theorem lookup_map_mem {cf : Str → Addr} : ∀ {l : List Str} {y : Str}, y ∈ l → (l.map fun n => (n, cf n)).lookup y = some (cf y)
  | [], _, h => by simp at h
  | n :: r, y, h => by
    rw [List.map_cons, List.lookup_cons]
    by_cases e : y = n
    · subst e; simp
    · have e' : (y == n) = false := beq_eq_false_iff_ne.mpr e
      simp only [e']
      exact lookup_map_mem ((List.mem_cons.mp h).resolve_left e)

section
variable {prog : Program} {w : World} {A : Around} {R : Result → Shared → Prop} {s : Shared}
theorem codeAny_compLoop_own {elt target iter : Expr} {scope : Scope} {pos : Pos} {it acc : Value} {env : Env} (I : Nat → Shared → Prop)
    (turn : ∀ n s, I n s → wpAny (model prog w) A (pyNext it) (fun r s₁ => match r with
      | none => R (.ok .next) s₁
      | some v => wpAny (model prog w) A (letOwnedTupleGo target it v) (fun _ s₁' => wpAny (model prog w) A (assign target env v) (fun _ s₂ => wpAny (model prog w) A (eval elt env) (fun x s₃ =>
          wpAny (model prog w) A (call (.builtin "list.append") [acc, x]) (fun _ s₄ => ∃ m, m < n ∧ I m s₄) (fun _ _ => False) s₃)
          (fun _ _ => False) s₂) (fun _ _ => False) s₁') (fun _ _ => False) s₁) (fun _ _ => False) s)
    (n : Nat) (h : I n s) :
    codeAny (model prog w) A (.compLoop (.ListComp elt [⟨target, iter, [], 0⟩] scope pos) 0 it acc env) R s := by
  refine codeAny_loop rfl I (fun n s hI => ?_) n h
  show wpAny _ _ ((compTurn (.ListComp elt [⟨target, iter, [], 0⟩] scope pos) 0 it acc env).onRaise (fun x => do noteFrame x env; theTreesLotGoes x)) _ _ s
  refine wpAny_noted ?_
  rw [compTurn_list1]
  refine wpAny_bind (wpAny_standAt (wpAny_bind (wpAny_mono (turn n s hI) (fun r s₁ h₁ => ?_) fun _ _ z => z.elim)))
  cases r with
  | none => exact wpAny_pure h₁
  | some v =>
    refine wpAny_bind (wpAny_mono h₁ (fun _ s₁' h₁' => ?_) fun _ _ z => z.elim)
    exact wpAny_bind (wpAny_mono h₁' (fun _ s₂ h₂ => wpAny_bind (wpAny_bind (wpAny_mono h₂ (fun x s₃ h₃ => wpAny_bind (wpAny_mono h₃
      (fun _ s₄ h₄ => wpAny_pure (wpAny_pure ⟨rfl, h₄⟩)) fun _ _ z => z.elim)) fun _ _ z => z.elim))) fun _ _ z => z.elim)
end

structure LcScope (x : Str) (fr : List Str) (sc : Scope) : Prop where
  kind : sc.kind = .function
  nocell : ∀ y ∈ sc.names, y.2 ≠ .cell
  names : ∀ y ∈ sc.names, y.2 = .local → sc.names.lookup y.1 = some .local
  own : sc.names.lookup x = some .local
  free : (sc.names.filter fun y => y.2 == .free).map (·.1) = fr
  lookm : ∀ p ∈ sc.names, (p.2 = .free ∨ p.2 = .cell) → p.1 ∈ fr
  lookfr : ∀ y ∈ fr, sc.names.lookup y = some .free
  notx : x ∉ fr
  nd : fr.Nodup
theorem lookup_mem {κ : Type} : ∀ {l : List (Str × κ)} {y : Str} {k : κ}, l.lookup y = some k → (y, k) ∈ l
  | [], _, _, h => by simp at h
  | (n, k') :: r, y, k, h => by
    rw [List.lookup_cons] at h
    by_cases e : y = n
    · subst e
      simp only [beq_self_eq_true] at h
      cases h
      exact List.mem_cons_self
    · have e' : (y == n) = false := beq_eq_false_iff_ne.mpr e
      simp only [e'] at h
      exact List.mem_cons_of_mem _ (lookup_mem h)
theorem LcScope.look {x : Str} {fr : List Str} {sc : Scope} (S : LcScope x fr sc) (y : Str) (h : sc.names.lookup y = some .free ∨ sc.names.lookup y = some .cell) : y ∈ fr := by
  rcases h with h | h
  · exact S.lookm _ (lookup_mem h) (.inl rfl)
  · exact S.lookm _ (lookup_mem h) (.inr rfl)
def cxLc (X : Cx) (x : Str) (fr : List Str) (scope : Scope) (cl : List (Str × Addr)) (fp : List Addr) (s : Shared) (H : Hp) : Cx :=
  { X with N := x :: fr, s₀ := s, H₀ := H, env := compEnvC scope cl s.heap.objs.size X.env, outer := X.stack, stack := X.stack, ex := fp, fn := fun y => decide (y = x), pn := [], xe := fun _ _ => False }
theorem relabel_lookup {scope : Scope} {env : Env} (y : Str) : ∀ (l : List (Str × NameKind)), (l.map fun (n, k) => if (k == NameKind.free && env.scope.kind == .function && env.kindOf n == some .cell) then (n, NameKind.cell) else (n, k)).lookup y =
    (l.lookup y).map fun k => if (k == NameKind.free && env.scope.kind == .function && env.kindOf y == some .cell) then NameKind.cell else k
  | [] => rfl
  | (n, k) :: r => by
    have ih := relabel_lookup (scope := scope) (env := env) y r
    show List.lookup y ((if (k == NameKind.free && env.scope.kind == .function && env.kindOf n == some .cell) = true then (n, NameKind.cell) else (n, k)) :: _) = _
    by_cases e : y = n
    · subst e
      by_cases hc : (k == NameKind.free && env.scope.kind == .function && env.kindOf y == some .cell) = true
      · rw [if_pos hc, List.lookup_cons, List.lookup_cons]
        simp only [beq_self_eq_true, Option.map_some]
        rw [if_pos hc]
      · rw [if_neg hc, List.lookup_cons, List.lookup_cons]
        simp only [beq_self_eq_true, Option.map_some]
        rw [if_neg hc]
    · have e' : (y == n) = false := beq_eq_false_iff_ne.mpr e
      by_cases hc : (k == NameKind.free && env.scope.kind == .function && env.kindOf n == some .cell) = true
      · rw [if_pos hc, List.lookup_cons, List.lookup_cons]
        simp only [e']
        exact ih
      · rw [if_neg hc, List.lookup_cons, List.lookup_cons]
        simp only [e']
        exact ih
def lcSt (σ : St) (js : List Nat) (y : Option V) : St := y :: js.map fun j => (σ[j]?).join
def tLc (wi : TI) (js : List Nat) (te : TE) : TE := fun σ H Q => wi σ H fun J H1 => ∀ D, H1 D = none → ∃ W : Nat → Nat → Hp → Prop, (∃ m, W 0 m (upd H1 D (.lst []))) ∧ ∀ i m H2, W i m H2 →
  (J.stop i H2 ∧ Q (.ref D) H2) ∨ (J.go i H2 ∧ ∀ y H3, J.yld i H2 y H3 → te (lcSt σ js (some y)) H3 fun z H4 => ∃ ys, H4 D = some (.lst ys) ∧ ys.length < sizeLine ∧ ∃ m', m' < m ∧ W (i + 1) m' (upd H4 D (.lst (ys ++ [z]))))

section
variable {X : Cx} {elt iter : Expr} {x : Str} {px pos : Pos} {scope : Scope} {fr : List Str} {js : List Nat} {wi : TI} {te : TE}
theorem pe_lc (S : LcScope x fr scope) (hc : X.calm = true) (hkm : (fr.map fun y => X.env.kindOf y) = fr.map fun _ => some NameKind.cell) (hj : js.map (fun j => X.N[j]?) = fr.map some)
    (hi : PI X (.Name x px) iter wi) (he : ∀ cl fp s H, PE (cxLc X x fr scope cl fp s H) elt te)
    (hs : ∀ x, foldedSetIterable iter X.env x = pure x := by intro _; rfl) :
    PE X (.ListComp elt [⟨.Name x px, iter, [], 0⟩] scope pos) (tLc wi js te) := by
  intro pins s σ H Q I h
  have hk : ∀ y ∈ fr, X.env.kindOf y = some .cell := List.map_inj_left.mp hkm
  have hcf : ∀ y ∈ fr, ∃ c, X.env.cells.lookup y = some c := fun y hy => I.ok.has y (.inl (hk y hy))
  let cf : Str → Addr := fun y => (X.env.cells.lookup y).getD 0
  have hcf' : ∀ y ∈ fr, X.env.cells.lookup y = some (cf y) := fun y hy => by
    obtain ⟨c, e⟩ := hcf y hy
    show _ = some ((X.env.cells.lookup y).getD 0)
    rw [e]; rfl
  have hmem : ∀ y ∈ scope.names, y.2 = .free → y.1 ∈ fr := fun y hy hf => by
    rw [← S.free]
    exact List.mem_map.mpr ⟨y, List.mem_filter.mpr ⟨hy, by rw [hf]; rfl⟩, rfl⟩
  let cl : List (Str × Addr) := ((scope.names.filter (fun y => y.2 == .free)).map fun y => (y.1, cf y.1)).reverse
  have hclos : closureFor scope X.env = pure cl := closure_of fun y hy hf => hcf' y.1 (hmem y hy hf)
  have hcl : cl = (fr.reverse.map fun n => (n, cf n)) := by
    show ((scope.names.filter (fun y => y.2 == .free)).map fun y => (y.1, cf y.1)).reverse = _
    rw [← S.free, ← List.map_reverse, ← List.map_reverse, List.map_map]
    rfl
  have clook : ∀ y c, cl.lookup y = some c → y ∈ fr ∧ c = cf y := fun y c e => by
    rw [hcl] at e
    obtain ⟨h1, h2⟩ := lookup_map_self e
    exact ⟨List.mem_reverse.mp h1, h2⟩
  have clmem : ∀ y ∈ fr, cl.lookup y = some (cf y) := fun y hy => by
    rw [hcl]
    exact lookup_map_mem (List.mem_reverse.mpr hy)
  rw [eval_ListComp]
  refine wpAny_comprehension_free (use := none) (cl := cl) rfl hs hclos S.kind S.names ?_
  refine thn (hi pins s σ H _ I h) fun v s1 h1 => thn h1 fun itv s2 h2 => ?_
  obtain ⟨it, fp, tn, J, H2, rfl, I2, T, st2, f2, hR⟩ := h2
  refine wpAny_newObj_type ?_ (by show 0 ≤ sizeLine; exact Nat.zero_le _)
  have hD : H2 s2.heap.objs.size = none := I2.hok.fresh (Nat.le_refl _)
  have I3 : Inv X pins σ (upd H2 s2.heap.objs.size (.lst [])) { s2 with heap := s2.heap.push { cls := .type "list", data := .seq ([] : List Value).toArray } } := I2.lnew (t' := s2.toks) .nil (Nat.zero_le _)
  obtain ⟨W, ⟨m0, w0⟩, turn⟩ := hR s2.heap.objs.size hD
  generalize hH3 : upd H2 s2.heap.objs.size (.lst []) = H3 at I3 w0
  generalize hs3 : ({ s2 with heap := s2.heap.push { cls := .type "list", data := .seq ([] : List Value).toArray } } : Shared) = s3 at I3
  have fp3 : ∀ b ∈ fp, H3 b = none := fun b hb => by
    rw [← hH3]
    have hb2 := (f2 b hb).1
    obtain ⟨o, ho, _⟩ := T.obj 0 _ st2 b hb
    rw [upd_ne (Nat.ne_of_lt (Heap.lt_size ho))]
    exact hb2
  have tn3 : tn 0 s3.heap := T.keep 0 _ _ st2 fun b hb o e => by rw [← hs3]; exact Heap.get?_push_of_some _ e
  have fpin : ∀ b ∈ fp, ∃ o, s3.heap.get? b = some o := fun b hb => by
    obtain ⟨o, ho, _⟩ := T.obj 0 _ tn3 b hb
    exact ⟨o, ho⟩
  refine wpAny_newFunctionEnv S.nocell (by intro y hy; simp at hy) (fun h1 hns hsb => ?_) S.kind
  have keep : ∀ b o, s3.heap.get? b = some o → h1.get? b = some o := fun b o e => (hsb.2 b (Nat.ne_of_lt (Heap.lt_size e))).trans (Heap.get?_push_of_some _ e)
  have nC : ∀ b o, s3.heap.get? b = some o → b ≠ s3.heap.objs.size := fun b o e => Nat.ne_of_lt (Heap.lt_size e)
  have Ok : (cxLc X x fr scope cl fp s3 H3).Ok := by
    refine ⟨I3.ok.mod, S.kind, I3.ok.glob, I3.ok.blt, Nat.le_refl _, fun y z c e1 e2 => ?_, fun y hky => ?_, fun y c hf e => ?_, fun _ => I3.ok.hd hc, I3.ok.frames, .inl rfl, fun b hb => ⟨?_, fun y c e z => ?_⟩, fun b o e => I3.bs b o e,
      Nat.le_trans I3.ok.bsz I3.sz, fun b o e hb => ?_, fun b hb hm => ?_, I3.stack, fun b hb => I3.stkFree b hb⟩
    · obtain ⟨a1, a2⟩ := clook y c e1
      obtain ⟨b1, b2⟩ := clook z c e2
      exact I3.ok.inj y z c (by rw [a2]; exact hcf' y a1) (by rw [b2]; exact hcf' z b1)
    · have hky' : (relabel scope X.env).names.lookup y = some .cell ∨ (relabel scope X.env).names.lookup y = some .free := hky
      have er : (relabel scope X.env).names.lookup y = (scope.names.lookup y).map fun k => if (k == NameKind.free && X.env.scope.kind == .function && X.env.kindOf y == some .cell) then NameKind.cell else k := relabel_lookup (scope := scope) (env := X.env) y scope.names
      rw [er] at hky'
      refine ⟨_, clmem y (S.look y ?_)⟩
      cases q : scope.names.lookup y with
      | none => rw [q] at hky'; simp at hky'
      | some k =>
        rw [q] at hky'
        cases k <;> simp at hky' <;> simp
    · obtain ⟨a1, a2⟩ := clook y c e
      have : y = x := of_decide_eq_true hf
      exact absurd (this ▸ a1) S.notx
    · obtain ⟨o, ho⟩ := fpin b hb
      exact nC b o ho
    · obtain ⟨a1, a2⟩ := clook y c e
      exact (f2 b hb).2.2.2.2.1 y c (by rw [a2]; exact hcf' y a1) z
    · rcases (f2 b hb).2.2.2.1 with z | z
      · exact I3.ok.noex b o e z
      · exact absurd (Nat.lt_of_lt_of_le (Heap.lt_size e) (Nat.le_trans I3.ok.bsz z)) (Nat.lt_irrefl _)
    · rcases List.mem_cons.mp (I3.stkSub b hm) with z | z
      · exact (f2 b hb).2.1 z
      · exact (f2 b hb).2.2.1 z
  have hlen : js.length = fr.length := by
    have := congrArg List.length hj
    simpa using this
  have Ic : ∀ tk, Inv (cxLc X x fr scope cl fp s3 H3) [] (lcSt σ js none) H3 { s3 with heap := h1, toks := tk } := fun tk => by
    refine ⟨Ok, rfl, I3.bare, Un.kept keep, ⟨_, hns, fun i y v e1 e2 e3 => ?_⟩, fun y c e => ?_, I3.hok.fresh (Nat.le_refl _), fun y c e => ?_, fun p hp => ?_, I3.hok.kept keep, ?_⟩
    · cases i with
      | zero =>
        have e2' : (some none : Option (Option V)) = some (some v) := e2
        cases e2'
      | succ i =>
        have e1' : fr[i]? = some y := e1
        have e2' : (js.map fun j => (σ[j]?).join)[i]? = some (some v) := e2
        rw [List.getElem?_map] at e2'
        obtain ⟨j, hj1, hj2⟩ := Option.map_eq_some_iff.mp e2'
        have hjN : X.N[j]? = some y := by
          have := congrArg (fun l => l[i]?) hj
          simp only [List.getElem?_map, hj1, e1', Option.map_some] at this
          exact Option.some.inj this
        have hσ : σ[j]? = some (some v) := by
          cases q : σ[j]? with
          | none => rw [q] at hj2; cases hj2
          | some o => rw [q] at hj2; exact congrArg some hj2
        have hy : y ∈ fr := List.mem_of_getElem? e1'
        obtain ⟨m, _, hl⟩ := I3.loc
        obtain ⟨u, ru, l⟩ := hl j y v hjN hσ (.inr (.inl (hk y hy)))
        refine ⟨u, ru, ?_⟩
        rcases l with ⟨kl, _⟩ | ⟨_, c, ec, o, ho, hd⟩
        · rw [hk y hy] at kl; cases kl
        · refine .inr ⟨?_, c, ?_, o, keep c o ho, hd⟩
          · have er : (relabel scope X.env).names.lookup y = (scope.names.lookup y).map fun k => if (k == NameKind.free && X.env.scope.kind == .function && X.env.kindOf y == some .cell) then NameKind.cell else k := relabel_lookup (scope := scope) (env := X.env) y scope.names
            show (relabel scope X.env).names.lookup y = some .cell ∨ (relabel scope X.env).names.lookup y = some .free
            rw [er, S.lookfr y hy]
            have hb : (X.env.kindOf y == some NameKind.cell) = true := by rw [hk y hy]; rfl
            have hb2 : (X.env.scope.kind == ScopeKind.function) = true := by rw [I3.ok.kind]; rfl
            left
            simp only [Option.map_some, hb, hb2]
            rfl
          · show cl.lookup y = some c
            rw [clmem y hy]
            have := hcf' y hy
            rw [ec] at this
            exact this.symm
    · obtain ⟨a1, a2⟩ := clook y c e
      obtain ⟨v, o, ho, hd⟩ := I3.cell y c (by rw [a2]; exact hcf' y a1)
      exact ⟨v, o, keep c o ho, hd⟩
    · obtain ⟨a1, a2⟩ := clook y c e
      exact I3.freeC y c (by rw [a2]; exact hcf' y a1)
    · exact absurd hp (by intro z; cases z)
    · show (lcSt σ js none).length = (x :: fr).length
      simp [lcSt, hlen]
  have fin : ∀ s6 H5 m, Inv (cxLc X x fr scope cl fp s3 H3) [] (lcSt σ js none) H5 s6 → Q (.ref s2.heap.objs.size) H5 → compPost (model X.prog X.w) X.A X.xe none (EP X pins σ Q) (.ref s2.heap.objs.size) s3.heap.objs.size (.ok m) s6 := by
    intro s6 H5 m I6 qn
    obtain ⟨mm, hm, _⟩ := I6.loc
    refine ⟨mm, hm, fun h' hs' => ⟨.ref s2.heap.objs.size, H5, ?_, rfl, qn⟩⟩
    have b6 : Un (frs X.stack) fp H3 H5 s3.heap s6.heap := I6.base
    have fC : H5 s3.heap.objs.size = none := I6.free
    refine I3.call' (ch := fp) I6.os ⟨fun b o q n hb hx => (hs'.2 b (nC b o q)).trans (b6.keep b o q n hb hx), fun b o q n hb hx => ?_, b6.free, fun b o q hx => ?_, b6.tups, b6.frzs, b6.tbls⟩ (fun a o e => ?_) I6.bare fun b hb => ⟨(f2 b hb).2.2.2.1, (f2 b hb).2.1, (f2 b hb).2.2.2.2.1, (f2 b hb).2.2.2.2.2⟩
    · obtain ⟨sl, e⟩ := b6.slot b o q n hb hx
      exact ⟨sl, (hs'.2 b (nC b o q)).trans e⟩
    · obtain ⟨o', e⟩ := b6.there b o q hx
      exact ⟨o', (hs'.2 b (nC b o q)).trans e⟩
    · refine (I6.hok a o e).stay (fun c v hc q => (hs'.2 c ?_).trans q) (fun _ q => q) fun _ _ q => q
      rintro rfl
      rcases hc with z | z
      · rw [← z, fC] at e; cases e
      · rw [fC] at z; cases z
  have loop : ∀ tk, codeAny (model X.prog X.w) X.A (.compLoop (.ListComp elt [⟨.Name x px, iter, [], 0⟩] scope pos) 0 (.ref it) (.ref s2.heap.objs.size) (compEnvC scope cl s3.heap.objs.size X.env))
      (compPost (model X.prog X.w) X.A X.xe none (EP X pins σ Q) (.ref s2.heap.objs.size) s3.heap.objs.size) { s3 with heap := h1, toks := tk } := fun tk => by
    refine codeAny_compLoop_own (fun m s' => ∃ i H', Inv (cxLc X x fr scope cl fp s3 H3) [] (lcSt σ js none) H' s' ∧ tn i s'.heap ∧ (∀ b ∈ fp, H' b = none) ∧ W i m H') ?_ m0
      ⟨0, H3, Ic tk, T.keep 0 _ _ tn3 fun b hb o e => keep b o e, fp3, w0⟩
    rintro n s5 ⟨i, H5, I5, t5, f5, w5⟩
    have stat : ∀ {H' : Hp}, (∀ b ∈ fp, H' b = none) → ∀ b ∈ fp, FpOk (cxLc X x fr scope cl fp s3 H3) [] H' b := fun hn b hb => ⟨hn b hb, (Ok.exf b hb).1, Ok.exfs b hb, .inl hb, (Ok.exf b hb).2, fun p hp => absurd hp (by intro z; cases z)⟩
    rcases turn i n H5 w5 with ⟨stop, qn⟩ | ⟨go, step⟩
    · refine thn (T.done (cxLc X x fr scope cl fp s3 H3) rfl rfl rfl hc i [] s5 _ H5 _ I5 (stat f5) t5 stop) fun r s6 ⟨hr, I6⟩ => ?_
      subst hr
      exact fin s6 H5 _ I6 qn
    · refine thn (T.item (cxLc X x fr scope cl fp s3 H3) rfl rfl rfl hc i [] s5 _ H5 _ I5 (stat f5) t5 go) fun r s6 ⟨u, hr, h6⟩ => ?_
      subst hr
      refine thn h6 fun _ s7 ⟨y, H7, I7, r7, y7, t7, f7⟩ => ?_
      have I7' := I7.pinned (stat f7) (T.obj _ _ t7)
      have ndN : (cxLc X x fr scope cl fp s3 H3).N.Nodup := List.nodup_cons.mpr ⟨S.notx, S.nd⟩
      have own : (cxLc X x fr scope cl fp s3 H3).env.scope.names.lookup x = some .local := lookup_relabel_local S.own
      refine thn (pg_name (X := cxLc X x fr scope cl fp s3 H3) (i := 0) (pos := px) ndN rfl (.inl own) (.inr own) _ s7 _ H7 y u (fun σ' H' => σ' = lcSt σ js (some y) ∧ H' = H7) I7' r7 ⟨rfl, rfl⟩) fun _ s8 ⟨σ8, H8, I8, e8, e8'⟩ => ?_
      subst e8 e8'
      refine thn (he cl fp s3 H3 _ s8 _ _ _ I8 (step y _ y7)) fun xv s9 ⟨z, H9, I9, r9, q9⟩ => ?_
      obtain ⟨ys, hl, hz, m', hm, w9⟩ := q9
      refine thn (mt_append (X := cxLc X x fr scope cl fp s3 H3) _ s9 _ H9 (.ref s2.heap.objs.size) [z] (.ref s2.heap.objs.size) [xv] (fun v H' => H' = upd H9 s2.heap.objs.size (.lst (ys ++ [z]))) I9 rfl (.cons r9 .nil)
        ⟨_, ys, z, rfl, rfl, hl, hz, rfl⟩) fun v s10 ⟨v', H10, I10, _, e10⟩ => ?_
      subst e10
      refine ⟨m', hm, i + 1, _, (I10.weak (σ' := lcSt σ js none) rfl fun j v e => ?_).unpinned, T.keep _ _ _ t7 fun b hb o e => (I10.pin (b, o) (List.mem_append_right _ (List.mem_append_right _ (mem_pinsAt hb e)))).1, fun b hb => ?_, w9⟩
      · cases j with
        | zero =>
          have e' : (some none : Option (Option V)) = some (some v) := e
          cases e'
        | succ j => exact e
      · obtain ⟨o, e, _⟩ := T.obj _ _ t7 b hb
        exact (I10.pin (b, o) (List.mem_append_right _ (List.mem_append_right _ (mem_pinsAt hb e)))).2.1
  exact codeAny_compStart_list (loop _) (T.self X.A 0 _ _ _ (T.keep 0 _ _ tn3 fun b hb o e => keep b o e) (loop _))
end
end L2
namespace L2
open PySem PySem.Spec PyProof.Rows
def LcNx (D : Addr) (n : Nat) (Pv : Nat → List V → Hp → Prop) (i : Nat) (z : V) (H4 : Hp) : Prop :=
  ∃ ys, H4 D = some (.lst ys) ∧ ys.length < sizeLine ∧ ∃ m', m' < n - i ∧ (m' = n - (i + 1) ∧ i + 1 ≤ n ∧ ∃ ys', Pv (i + 1) ys' (upd H4 D (.lst (ys ++ [z]))))
theorem lc_nx {D : Addr} {n : Nat} {Pv : Nat → List V → Hp → Prop} {i : Nat} {z : V} {H4 : Hp} {ys : List V} (h1 : H4 D = some (.lst ys)) (h2 : ys.length < sizeLine) (h3 : i < n) (h4 : Pv (i + 1) (ys ++ [z]) (upd H4 D (.lst (ys ++ [z])))) : LcNx D n Pv i z H4 :=
  ⟨ys, h1, h2, n - (i + 1), by omega, rfl, h3, _, h4⟩
theorem lc_list {K : PySem.W.Frag} {a D : Addr} {xs : List V} {te : TE} {σ : St} {js : List Nat} {H1 : Hp} {R : Hp → Prop} (Pv : Nat → List V → Hp → Prop) (h0 : Pv 0 [] (upd H1 D (.lst []))) (hl : ∀ i ys H, Pv i ys H → SqL K H a xs)
    (hs : ∀ i x ys H, xs[i]? = some x → Pv i ys H → te (lcSt σ js (some x)) H (LcNx D xs.length Pv i)) (hd : ∀ ys H, Pv xs.length ys H → R H) :
    ∃ W : Nat → Nat → Hp → Prop, (∃ m, W 0 m (upd H1 D (.lst []))) ∧ ∀ i m H2, W i m H2 → ((Itl K a).stop i H2 ∧ R H2) ∨ ((Itl K a).go i H2 ∧ ∀ y H3, (Itl K a).yld i H2 y H3 → te (lcSt σ js (some y)) H3 fun z H4 =>
      ∃ ys, H4 D = some (.lst ys) ∧ ys.length < sizeLine ∧ ∃ m', m' < m ∧ W (i + 1) m' (upd H4 D (.lst (ys ++ [z])))) := by
  refine ⟨fun i m H => m = xs.length - i ∧ i ≤ xs.length ∧ ∃ ys, Pv i ys H, ⟨xs.length, by simp, Nat.zero_le _, [], h0⟩, ?_⟩
  rintro i m H ⟨rfl, hi, ys, p⟩
  have q := hl i ys H p
  by_cases hlt : i < xs.length
  · refine .inr ⟨⟨xs, xs[i], q, by simp [hlt]⟩, fun x H' y => ?_⟩
    obtain ⟨e, y⟩ := y
    subst e
    exact hs i x ys _ (y xs q) p
  · have e : i = xs.length := by omega
    subst e
    exact .inl ⟨⟨xs, q, Nat.le_refl _⟩, hd ys H p⟩
theorem Same.upd {H H' : Hp} {D : Addr} {o : HO} (s : Same H H') (n : H D = none) : Same H (L2.upd H' D o) := fun b u e => by
  rw [upd_ne (ne_of_none e n)]
  exact s b u e
theorem SqT.updL {K : PySem.W.Frag} {H : Hp} {D a : Addr} {ys xs : List V} {o : HO} (hD : H D = some (.lst ys)) (h : SqT K H a xs) : SqT K (L2.upd H D o) a xs := by
  rcases h with (h | ⟨ob, h⟩) | h
  · exact .inl (.inl (by rw [upd_ne (ne_of h hD (by intro z; cases z))]; exact h))
  · exact .inl (.inr ⟨ob, by rw [upd_ne (ne_of h hD (by intro z; cases z))]; exact h⟩)
  · exact .inr h
theorem Pl.updL {K : PySem.W.Frag} {H : Hp} {D : Addr} {ys : List V} {v : V} {q r : Int} {o : HO} (hD : H D = some (.lst ys)) (h : Pl K H v q r) : Pl K (L2.upd H D o) v q r := let ⟨a, x, y⟩ := h; ⟨a, x, y.updL hD⟩
end L2

set_option Elab.async false
set_option linter.all false
set_option maxRecDepth 100000
namespace L2
open PySem PySem.Spec PyProof.Rows

theorem ObjOk.there {P : Program} {w : World} {H : Hp} {h : Heap} {a : Addr} {o : HO} (x : ObjOk P w H h a o) : ∃ u, h.get? a = some u := by
  cases o with
  | lst xs => obtain ⟨_, _, _, _, e⟩ := x; exact ⟨_, e⟩
  | tup xs => obtain ⟨_, _, _, u, e, _⟩ := x; exact ⟨u, e⟩
  | dK kvs => obtain ⟨_, _, _, _, u, _, _, e, _⟩ := x; exact ⟨u, e⟩
  | dT kvs => obtain ⟨_, _, _, _, u, _, _, e, _⟩ := x; exact ⟨u, e⟩
  | set S n => obtain ⟨u, _, _, _, e, _⟩ := x; exact ⟨u, e⟩
  | ins C dx fs => obtain ⟨_, _, _, e, _⟩ := x; exact ⟨_, e⟩
  | own y => exact x
  | xd fs => obtain ⟨_, ⟨u, _, _, e, _⟩, _⟩ := x; exact ⟨u, e⟩
  | rng lo hi => obtain ⟨_, _, _, e⟩ := x; exact ⟨_, e⟩
  | frz ob u => exact ⟨_, x.1⟩
  | tbl ps => exact ⟨_, (show h.get? a = some _ from x)⟩
  | met f y => exact ⟨_, (show h.get? a = some _ from x)⟩
  | ext φ => exact x.2.1

def CXE (P : Program) (w : World) : CXT := fun outer H s E ev s' =>
  ∃ (ea C t : Addr) (B : Heap) (H' : Hp), ev = .ref ea ∧ s'.os = s.os ∧ AllBare s'.gens ∧ Un (frs outer) [] H H' s.heap s'.heap ∧ HOk P w H' s'.heap ∧ Heap.FlyingW B outer ea (.ref C) (.ref t) s'.heap ∧
    (∀ b o, s.heap.get? b = some o → b ∉ frs outer → ∃ o', B.get? b = some o') ∧ (∀ b o, H' b = some o → ∃ o', B.get? b = some o') ∧ s.heap.get? ea = none ∧ H' ea = none ∧ E (.ref C) none H'

section
variable {X : Cx} {pins : List (Addr × Obj)} {σ : St} {H H' : Hp} {s s' : Shared}
theorem hok_flown {P : Program} {w : World} {B h h' : Heap} (hok : HOk P w H' h) (k : B.StaysIn h) (k' : B.StaysIn h') (cov : ∀ b o, H' b = some o → ∃ o', B.get? b = some o') : HOk P w H' h' := fun a o e =>
  (hok a o e).stay (fun c v hc q => by
    obtain ⟨o', eo⟩ : ∃ o', B.get? c = some o' := by
      rcases hc with rfl | z
      · exact cov c o e
      · exact cov c _ z
    have e1 := k c o' eo
    rw [q] at e1; cases e1
    exact k' c v eo) (fun _ q => q) fun _ _ q => q

structure Deep (X : Cx) : Prop where
  stk : X.stack = X.env :: X.outer
  fr : X.env.frame = some X.env.locals
  ex : X.ex = []
theorem Deep.frs {X : Cx} (d : Deep X) : frs X.stack = X.env.locals :: X.fs := by
  rw [d.stk]; unfold L2.frs; rw [List.filterMap_cons, d.fr]; rfl

theorem fly_made {E : XK} {ea C : Addr} {vs : List Value} {h' : Heap} (d : Deep X) (I : Inv X pins σ H s) (hx : Heap.MadeExcOf s.heap h' ea (.ref C) vs) (hE : E (.ref C) none H) {F : Value → Shared → Prop} :
    wpAny (model X.prog X.w) X.A (leaving X.env (.ref ea)) (fun _ s'' => CXE X.prog X.w X.outer X.H₀ X.s₀ E (.ref ea) s'') F { s with heap := h' } := by
  have hfr : X.A.frames = some (X.env :: X.outer) := by rw [I.ok.frames, d.stk]
  have ff : s.heap.FunFrames X.base (X.env :: X.outer) := by have := I.stack; rwa [d.stk] at this
  have hin : ∀ env ∈ (X.env :: X.outer), ∀ b, env.frame = some b → b ∈ (X.env :: X.outer).filterMap (·.frame) := fun env he b hb => List.mem_filterMap.mpr ⟨env, he, hb⟩
  have efr : (X.env :: X.outer).filterMap (·.frame) = X.env.locals :: X.fs := by rw [List.filterMap_cons, d.fr]; rfl
  have kB : (PySem.W.hideAll s.heap ((X.env :: X.outer).filterMap (·.frame))).StaysIn s.heap := fun b o q => PySem.W.of_hideAll _ q
  have inB : ∀ b o, s.heap.get? b = some o → b ∉ X.env.locals :: X.fs → (PySem.W.hideAll s.heap ((X.env :: X.outer).filterMap (·.frame))).get? b = some o := fun b o e n => PySem.W.hideAll_get _ e (by rw [efr]; exact n)
  have old : ∀ b o, X.s₀.heap.get? b = some o → b ≠ X.env.locals := fun b o e => Nat.ne_of_lt (Nat.lt_of_lt_of_le (Heap.lt_size e) I.ok.above)
  have trF : ∀ b o, H b = some o → b ∉ X.env.locals :: X.fs := fun b o e hb => by
    rcases List.mem_cons.mp hb with z | z
    · rw [z, I.free] at e; cases e
    · have := I.stkFree b (by rw [d.frs]; exact List.mem_cons_of_mem _ z)
      rw [this] at e; cases e
  refine wpAny_leaves_madeW hfr d.fr kB (PySem.W.funFrames_hide ff hin) hx fun h'' t fl _ _ up => ?_
  have k'' := fl.1
  have ex0 : ∀ b, b ∉ X.ex := fun b hb => by rw [d.ex] at hb; cases hb
  refine ⟨ea, C, t, _, H, rfl, I.os, I.bare, ⟨fun b o e n hb _ => ?_, fun b o e n hb _ => ?_, fun b o e n _ => I.base.free b o e n (ex0 b), fun b o e _ => ?_, I.base.tups, I.base.frzs, I.base.tbls⟩,
    hok_flown I.hok kB k'' fun b o e => ?_, fl, fun b o e hb => ?_, fun b o e => ?_, ?_, ?_, hE⟩
  · exact k'' b o (inB b o (I.base.keep b o e n hb (ex0 b)) fun z => (List.mem_cons.mp z).elim (old b o e) hb)
  · obtain ⟨sl, e1⟩ := I.base.slot b o e n hb (ex0 b)
    obtain ⟨_, o2, ho2, hd2⟩ := ff.mem (b := b) (by rw [efr]; exact List.mem_cons_of_mem _ hb)
    rw [e1] at ho2; cases ho2
    obtain ⟨sl', e2⟩ := up b _ (hx.keeps b _ e1) hd2
    exact ⟨sl', e2⟩
  · obtain ⟨o', e1⟩ := I.base.there b o e (ex0 b)
    by_cases hb : b ∈ X.env.locals :: X.fs
    · obtain ⟨_, o2, ho2, hd2⟩ := ff.mem (b := b) (by rw [efr]; exact hb)
      obtain ⟨sl', e2⟩ := up b _ (hx.keeps b _ ho2) hd2
      exact ⟨_, e2⟩
    · exact ⟨o', k'' b o' (inB b o' e1 hb)⟩
  · obtain ⟨u, eu⟩ := (I.hok b o e).there
    exact ⟨u, inB b u eu (trF b o e)⟩
  · obtain ⟨o', e1⟩ := I.base.there b o e (ex0 b)
    exact ⟨o', inB b o' e1 fun z => (List.mem_cons.mp z).elim (old b o e) hb⟩
  · obtain ⟨u, eu⟩ := (I.hok b o e).there
    exact ⟨u, inB b u eu (trF b o e)⟩
  · cases q : X.s₀.heap.get? ea with
    | none => rfl
    | some o =>
      obtain ⟨o', e1⟩ := I.base.there ea o q (ex0 ea)
      have := hx.new
      rw [e1] at this; cases this
  · cases q : H ea with
    | none => rfl
    | some o =>
      obtain ⟨u, eu⟩ := (I.hok ea o q).there
      have := hx.new
      rw [eu] at this; cases this

theorem fly_on {E : XK} {ev : Value} (d : Deep X) (I : Inv X pins σ H s) (h : CXE X.prog X.w X.stack H s E ev s') {F : Value → Shared → Prop} :
    wpAny (model X.prog X.w) X.A (leaving X.env ev) (fun _ s'' => CXE X.prog X.w X.outer X.H₀ X.s₀ E ev s'') F s' := by
  obtain ⟨ea, C, t, B, H', rfl, ho, hg, u, hok, fl, c1, c2, n1, n2, hE⟩ := h
  have hfr : X.A.frames = some (X.env :: X.outer) := by rw [I.ok.frames, d.stk]
  rw [d.stk] at fl
  have ff : s'.heap.FunFrames B (X.env :: X.outer) := fl.2.2.1
  have efr : (X.env :: X.outer).filterMap (·.frame) = X.env.locals :: X.fs := by rw [List.filterMap_cons, d.fr]; rfl
  rw [d.frs] at u c1
  have old : ∀ b o, X.s₀.heap.get? b = some o → b ≠ X.env.locals := fun b o e => Nat.ne_of_lt (Nat.lt_of_lt_of_le (Heap.lt_size e) I.ok.above)
  have ex0 : ∀ b, b ∉ X.ex := fun b hb => by rw [d.ex] at hb; cases hb
  refine wpAny_leaves_onW hfr d.fr fl fun h'' fl2 up => ?_
  have k := fl.1
  have k'' := fl2.1
  refine ⟨ea, C, t, B, H', rfl, ho.trans I.os, hg, ⟨fun b o e n hb _ => ?_, fun b o e n hb _ => ?_, fun b o e n _ => ?_, fun b o e _ => ?_, fun b xs e => u.tups b xs (I.base.tups b xs e), fun b o xs e => u.frzs b o xs (I.base.frzs b o xs e), fun b ps e => ?_⟩,
    hok_flown hok k k'' c2, fl2, fun b o e hb => ?_, c2, ?_, n2, hE⟩
  · have e1 := I.base.keep b o e n hb (ex0 b)
    have hb' : b ∉ X.env.locals :: X.fs := fun z => (List.mem_cons.mp z).elim (old b o e) hb
    have e2 := u.keep b o e1 (I.base.free b o e n (ex0 b)) hb' (by simp)
    obtain ⟨o', eo⟩ := c1 b o e1 hb'
    have e3 := k b o' eo
    rw [e2] at e3; cases e3
    exact k'' b o eo
  · obtain ⟨sl, e1⟩ := I.base.slot b o e n hb (ex0 b)
    obtain ⟨sl2, e2⟩ := u.slot b _ e1 (I.base.free b o e n (ex0 b)) (List.mem_cons_of_mem _ hb) (by simp)
    obtain ⟨_, o2, ho2, hd2⟩ := ff.mem (b := b) (by rw [efr]; exact List.mem_cons_of_mem _ hb)
    rw [e2] at ho2; cases ho2
    obtain ⟨sl', e3⟩ := up b _ e2 hd2
    exact ⟨sl', e3⟩
  · obtain ⟨o', e1⟩ := I.base.there b o e (ex0 b)
    exact u.free b o' e1 (I.base.free b o e n (ex0 b)) (by simp)
  · obtain ⟨o', e1⟩ := I.base.there b o e (ex0 b)
    by_cases hb : b ∈ X.env.locals :: X.fs
    · obtain ⟨_, o2, ho2, hd2⟩ := ff.mem (b := b) (by rw [efr]; exact hb)
      obtain ⟨sl', e2⟩ := up b _ ho2 hd2
      exact ⟨_, e2⟩
    · obtain ⟨o2, eo⟩ := c1 b o' e1 hb
      exact ⟨o2, k'' b o2 eo⟩
  · obtain ⟨m1, e1⟩ := I.base.tbls b ps e
    obtain ⟨m2, e2⟩ := u.tbls b _ e1
    exact ⟨m1 ++ m2, by rw [e2, Array.append_assoc]⟩
  · obtain ⟨o', e1⟩ := I.base.there b o e (ex0 b)
    exact c1 b o' e1 fun z => (List.mem_cons.mp z).elim (old b o e) hb
  · cases q : X.s₀.heap.get? ea with
    | none => rfl
    | some o =>
      obtain ⟨o', e1⟩ := I.base.there ea o q (ex0 ea)
      rw [n1] at e1; cases e1
end

section
variable {P : Program} {w : World} {K : PySem.W.Frag} {mg : Str → Option Value} {base : Heap}
abbrev cxE (P : Program) (w : World) (K : PySem.W.Frag) (mg : Str → Option Value) (base : Heap) (N : List Str) (qual : Str) (scope : Scope) (f : Addr) (cd : Value) (A : Around) (outer : List Env) (s : Shared) (H : Hp) (E : XK) : Cx :=
  cxOf (CXE P w) P w K mg base N qual scope f cd A outer s H E
theorem deepE {N : List Str} {qual : Str} {scope : Scope} {f : Addr} {cd : Value} {A : Around} {outer : List Env} {s : Shared} {H : Hp} {E : XK} : Deep (cxE P w K mg base N qual scope f cd A outer s H E) := ⟨rfl, rfl, rfl⟩
theorem passE {N : List Str} {qual : Str} {scope : Scope} {f : Addr} {cd : Value} {A : Around} {outer : List Env} {s : Shared} {H : Hp} {E : XK} : Passes (CXE P w) (cxE P w K mg base N qual scope f cd A outer s H E) E :=
  fun _ _ _ _ _ _ I h => fly_on deepE I h
theorem Fun.okE {x qual : Str} {st : Stmt} {f : Addr} {fd : FuncData} {N ps : List Str} {k : Nat} {sp : Sp} (F : Fun K x qual st f fd) (S : FnScope N ps (defScope st)) (len : ∀ vs H Q E, sp vs H Q E → vs.length = ps.length)
    (hbody : ∀ (cdv : Value) (A : Around) (outer : List Env) (s : Shared) (H : Hp) (vs : List V) (Q : VK) (E : XK), Room k (A.deeper (envOfC qual (defScope st) s.heap.objs.size f cdv)) → sp vs H Q E →
      ∃ t, PSs (cxE P w K mg base N qual (defScope st) f cdv A outer s H E) (defBody st) t ∧ t { nx := fun _ H' => Q .non H', rt := Q } (start N vs) H) : FnOk P w K mg base (CXE P w) (k + 1) f fd ps sp := by
  obtain ⟨oc, od, kV, doc, pm, an, cdv, ct, osl, rfl, lk, hcd⟩ := F.ex
  exact fn_of lk hcd S len fun A outer s H vs Q E hr hsp => hbody cdv A outer s H vs Q E hr hsp
end

abbrev vmro : List Value := [.type "ValueError", .type "Exception", .type "BaseException", .type "object"]
theorem xcls_obj {K : PySem.W.Frag} {h : Heap} {C : Addr} (X : K.In h) (q : PySem.W.excIn K C vmro "ValueError.__new__" = true) :
    ∃ bm N nm qn bs hdct sn sub ab col dd k0 k1 k2 k3 k5 mN, h.get? C = some (excClassObj nm qn C N bs bm hdct sn sub ab col dd k0 k1 k2 k3 k5 "ValueError.__new__") ∧ h.Ns N mN ∧ mN "__init__" = none ∧ OwnTail h vmro bm := by
  unfold PySem.W.excIn at q
  split at q
  case h_2 => exact absurd q Bool.false_ne_true
  case h_1 dd cd sl ho =>
    split at q
    case h_2 => exact absurd q Bool.false_ne_true
    case h_1 C' bm k0 k1 k2 k3 n k5 hm hs =>
      simp only [Bool.and_eq_true, beq_iff_eq, Bool.not_eq_true'] at q
      obtain ⟨⟨⟨⟨⟨e1, e2⟩, hdel⟩, ht⟩, hok⟩, hni⟩ := q
      subst e1 e2
      obtain ⟨nm, bs, mro, ns, qn, hd, sn, sub, ab, col, del⟩ := cd
      simp only at hm hdel hok hni
      subst hm; subst hdel
      obtain ⟨l⟩ := sl
      simp only at hs
      subst hs
      exact ⟨bm, ns, nm, qn, bs, hd, sn, sub, ab, col, dd, k0, k1, k2, k3, k5, _, X _ _ ho, .of_isNs (PySem.W.isNs_of_in X hok), PySem.W.nsMap_none_of_in X hok hni, PySem.W.tail_of_in X ht⟩
def tRaise (C : Addr) (E : XK) (t : TA) : TS := fun _ σ H => t σ H fun vs H1 => vs.length ≤ sizeLine ∧ E (.ref C) none H1
theorem ps_raise {X : Cx} {E : XK} {C : Addr} {x : Str} {e₀ : Expr} {rest : List Expr} {np cpos pos : Pos} {t : TA} (hc : X.calm = true) (hm : X.mg x = some (.ref C)) (hx : PySem.W.excIn X.K C vmro "ValueError.__new__" = true)
    (hE : ∀ (pins : List (Addr × Obj)) (σ : St) (H : Hp) (s : Shared) (h' : Heap) (e : Addr) (vs : List Value), Inv X pins σ H s → Heap.MadeExcOf s.heap h' e (.ref C) vs → E (.ref C) none H → X.xe (.ref e) { s with heap := h' })
    (ha : PA X (e₀ :: rest) t) (hg : Gl X x := by rfl) (he : starEach (e₀ :: rest) X.env = (false, eval e₀ X.env) :: starEach rest X.env := by rfl) (hpl : (backTo cpos (starEach rest X.env)).any (·.1) = false := by rfl)
    (hdb : (x == ("__debug__" : Str)) = false := by decide) : PS X (.Raise (some (.Call (.Name x np) (e₀ :: rest) [] cpos)) none pos) (tRaise C E t) := by
  intro pins s σ H D I h
  obtain ⟨bm, N, nm, qn, bs, hdct, sn, sub, ab, col, dd, k0, k1, k2, k3, k5, mN, _, _, hni, T⟩ := xcls_obj I.mod.kin hx
  obtain ⟨bm', N', nm', qn', bs', hdct', sn', sub', ab', col', dd', k0', k1', k2', k3', k5', mN', hC', hN', hni', T'⟩ := xcls_obj I.mod.kin hx
  refine wpAny_Raise_call_subT (C := C) (nm := nm') (q := qn') (N := N') (bs := bs') (bm := bm') (hdct := hdct') (sn := sn') (sub := sub') (ab := ab') (col := col') (dd := dd') (k0 := k0') (k1 := k1') (k2 := k2') (k3 := k3') (k5 := k5')
    PySem.F.excBase_ValueError (mN := mN') (T'.hasType PySem.F.excBase_ValueError.hasBase) (I.ok.hd hc) (by rw [he]; show (false || (backTo cpos (starEach rest X.env)).any (·.1)) = false; rw [hpl]; rfl) hni' (ld_glob I hg hm ⟨rfl, ?_⟩ hdb)
  have key := ha cpos pins s σ H _ I h
  rw [he] at key ⊢
  refine Calls.evalArgs_plain (thn key fun us s1 ⟨vs, H1, I1, r1, hl, hw⟩ => ⟨rfl, ?_, I1.bk _ _ hC', hN'.keeps I1.bk, T'.keeps I1.bk, fun h' e hm' => hE pins σ H1 s1 h' e us I1 hm' hw⟩)
  rw [← r1.length]; exact hl
theorem raiseE {P : Program} {w : World} {K : PySem.W.Frag} {mg : Str → Option Value} {base : Heap} {N : List Str} {qual : Str} {scope : Scope} {f : Addr} {cd : Value} {A : Around} {outer : List Env} {s₀ : Shared} {H₀ : Hp} {E : XK} {C : Addr} :
    ∀ (pins : List (Addr × Obj)) (σ : St) (H : Hp) (s : Shared) (h' : Heap) (e : Addr) (vs : List Value), Inv (cxE P w K mg base N qual scope f cd A outer s₀ H₀ E) pins σ H s → Heap.MadeExcOf s.heap h' e (.ref C) vs → E (.ref C) none H →
      (cxE P w K mg base N qual scope f cd A outer s₀ H₀ E).xe (.ref e) { s with heap := h' } := fun _ _ _ _ _ _ _ I hx hE => fly_made deepE I hx hE
end L2
namespace L2
open PySem PySem.Spec PyProof.Rows
theorem FnOk.down {P : Program} {w : World} {K : PySem.W.Frag} {mg : Str → Option Value} {base : Heap} {k : Nat} {f : Addr} {fd : FuncData} {ps : List Str} {sp : Sp} (F : FnOk P w K mg base (CXE P w) k f fd ps sp) :
    FnOk P w K mg base CX0 k f fd ps (fun vs H Q _ => sp vs H Q E0) :=
  ⟨fun vs H Q _ h => F.len vs H Q E0 h, fun A outer s H args us vs Q _ hr e0 hb hv h => codeAny_mono (F.run A outer s H args us vs Q E0 hr e0 hb hv h) fun r s' q => by
    cases r with
    | error e =>
      obtain ⟨_, _, _, _, _, _, _, _, _, _, _, _, _, _, _, z⟩ := q
      exact z.elim
    | ok f => cases f <;> exact q⟩
end L2

set_option Elab.async false
set_option linter.all false
set_option maxRecDepth 100000
namespace L2
open PySem PySem.Spec PyProof.Rows PySem.W
section
variable {prog : Program} {w : World} {A : Around} {E : Value → Shared → Prop} {K : PySem.W.Frag} {x C : Addr} {ox : Obj}
structure XAt (K : PySem.W.Frag) (C : Addr) : Prop where
  ga : PySem.W.findIn K (.ref C) "__getattribute__" = some (some (.builtin "BaseException.__getattribute__"))
  gt : PySem.W.findIn K (.ref C) "__getattr__" = some none
  cl : PySem.W.findIn K (.ref C) "__class__" = some (some (.builtin "object.__class__"))
  ob : PySem.W.mroIn K C (.type "object") = some true
  be : PySem.W.mroIn K C (.type "BaseException") = some true
  cs : (PySem.W.clsIn K C).isSome = true
end
end L2

namespace L2
open PySem PySem.Spec PyProof.Rows
structure XSub (K : PySem.W.Frag) (C D : Addr) : Prop where
  sub : PySem.W.mroIn K C (.ref D) = some true
  be : PySem.W.mroIn K D (.type "BaseException") = some true
  cs : (PySem.W.clsIn K D).isSome = true
  ty : PySem.W.typeIn K (.ref D) = some (.type "type")
section
variable {X : Cx} {pins : List (Addr × Obj)} {σ : St} {H H' : Hp} {s s' : Shared}
end
end L2
namespace L2
open PySem PySem.Spec PyProof.Rows
section
variable {X : Cx} {k : Nat} {f C : Addr} {fd : FuncData} {ps : List Str} {sp : Sp} {x qual : Str} {st : Stmt} {p pos pos' : Pos} {e : Expr} {es : List Expr} {t : TA}
end
end L2

set_option Elab.async false
set_option linter.all false
set_option maxRecDepth 100000
namespace L2
open PySem PySem.Spec PyProof.Rows
mutual
inductive Rep (K : PySem.W.Frag) (H : Hp) : V → PyData → Prop
  | non : Rep K H .non .none
  | bl (b : Bool) : Rep K H (.bl b) (.bool b)
  | int (i : Int) : Rep K H (.int i) (.int i)
  | str (x : Str) : Rep K H (.str x) (.str x)
  | lst {a : Addr} {xs : List V} {ds : List PyData} : SqL K H a xs → RepAll K H xs ds → Rep K H (.ref a) (.list ds)
  | tup {a : Addr} {xs : List V} {ds : List PyData} : SqT K H a xs → RepAll K H xs ds → Rep K H (.ref a) (.tuple ds)
inductive RepAll (K : PySem.W.Frag) (H : Hp) : List V → List PyData → Prop
  | nil : RepAll K H [] []
  | cons {x : V} {xs : List V} {d : PyData} {ds : List PyData} : Rep K H x d → RepAll K H xs ds → RepAll K H (x :: xs) (d :: ds)
end
section
variable {X : Cx} {pins : List (Addr × Obj)} {σ : St} {H : Hp} {s : Shared}
mutual
theorem Rep.reads (I : Inv X pins σ H s) {x : V} {d : PyData} {v : Value} (h : Rep X.K H x d) (r : RelV x v) : ∃ as, Reads s.heap v d as := by
  cases h with
  | non => cases r; exact ⟨_, .none⟩
  | bl b => cases r; exact ⟨_, .bool b⟩
  | int i => obtain ⟨t, rfl⟩ := r; exact ⟨_, .int i t⟩
  | str y => obtain ⟨t, rfl⟩ := r; exact ⟨_, .str y t⟩
  | lst hq hr =>
    cases r
    obtain ⟨its, rv, ⟨o, n, e1, e2, _, e4⟩, _⟩ := I.list hq
    obtain ⟨as, ha⟩ := RepAll.reads I hr rv
    exact ⟨_, .list e1 e2 e4 (by simpa using ha)⟩
  | tup hq hr =>
    cases r
    obtain ⟨its, rv, ⟨o, e1, e2, n, e4⟩, _⟩ := I.tuple hq
    obtain ⟨as, ha⟩ := RepAll.reads I hr rv
    exact ⟨_, .tuple e1 e2 e4 (by simpa using ha)⟩
theorem RepAll.reads (I : Inv X pins σ H s) {xs : List V} {ds : List PyData} {vs : List Value} (h : RepAll X.K H xs ds) (r : Vals xs vs) : ∃ as, ReadsAll s.heap vs ds as := by
  cases h with
  | nil => cases r; exact ⟨_, .nil⟩
  | cons h1 h2 =>
    cases r with
    | cons r1 r2 =>
      obtain ⟨as, ha⟩ := Rep.reads I h1 r1
      obtain ⟨bs, hb⟩ := RepAll.reads I h2 r2
      exact ⟨_, .cons ha hb⟩
end
end
section
variable {X : Cx}
def rNeD (K : PySem.W.Frag) : R2 := fun x y H Q => ∃ d e, Rep K H x d ∧ Rep K H y e ∧ SeqAt.shaped d = true ∧ SeqAt.shaped e = true ∧ SeqAt.noMix d e = true ∧ Q (.bl (!same d e)) H
theorem op_neD (hu : X.A.units + 64 < cLine) : OpR X (compareOp .NotEq) (rNeD X.K) := by
  intro pins s σ H x y v u Q I rx ry h
  obtain ⟨d, e, h1, h2, s1, s2, nm, q⟩ := h
  obtain ⟨as, ra⟩ := h1.reads I rx
  obtain ⟨bs, rb⟩ := h2.reads I ry
  exact ne_dataH_same ra rb s1 s2 hu nm ⟨.bl _, H, I, rfl, q⟩
theorem RepAll.ints {K : PySem.W.Frag} {H : Hp} : ∀ ns : List Int, RepAll K H (ns.map V.int) (ns.map PyData.int)
  | [] => .nil
  | n :: r => .cons (.int n) (RepAll.ints r)
end
end L2

set_option Elab.async false
set_option linter.all false
set_option maxRecDepth 100000
namespace L2
open PySem PySem.Spec PyProof.Rows
section
variable {X : Cx}
theorem CallR.imp {f : Value} {r r' : List V → Hp → VK → Prop} (h : CallR X f r) (k : ∀ xs H Q, r' xs H Q → r xs H Q) : CallR X f r' :=
  fun pins s σ H xs us Q I rv q => h pins s σ H xs us Q I rv (k _ _ _ q)
theorem OpR.imp {f : Value → Value → Sem Value} {r r' : R2} (h : OpR X f r) (k : ∀ x y H Q, r' x y H Q → r x y H Q) : OpR X f r' :=
  fun pins s σ H x y v u Q I rx ry q => h pins s σ H x y v u Q I rx ry (k _ _ _ _ q)
theorem SlR.imp {r r' : V → Option Int → Option Int → Hp → VK → Prop} (h : SlR X r) (k : ∀ x lo hi H Q, r' x lo hi H Q → r x lo hi H Q) : SlR X r' :=
  fun pins s σ H x v vl vu lo hi sl Q I rx hs pl pu q => h pins s σ H x v vl vu lo hi sl Q I rx hs pl pu (k _ _ _ _ _ q)
def New (H : Hp) (o : HO) (Q : VK) : Prop := ∀ p H', Same H H' → H p = none → H' p = some o → Q (.ref p) H'
theorem New.at {H : Hp} {o : HO} {Q : VK} (h : New H o Q) (p : Addr) (n : H p = none) : Q (.ref p) (upd H p o) := h p _ (same_upd n) n upd_same
theorem call_listN : CallR X (.type "list") (fun xs H Q => ∃ p ys, xs = [.ref p] ∧ (SqL X.K H p ys ∨ SqT X.K H p ys) ∧ New H (.lst ys) Q) :=
  call_list_of.imp fun _ _ _ ⟨p, ys, e, h, q⟩ => ⟨p, ys, e, h, q.at⟩
theorem call_tupN : CallR X (.type "tuple") (fun xs H Q => ∃ p ys, xs = [.ref p] ∧ SqL X.K H p ys ∧ New H (.tup ys) Q) :=
  call_tuple_of.imp fun _ _ _ ⟨p, ys, e, h, q⟩ => ⟨p, ys, e, .inl ⟨h, q.at⟩⟩
theorem sl_listN : SlR X (fun x lo hi H Q => ∃ a xs, x = .ref a ∧ SqL X.K H a xs ∧ New H (.lst (cutV xs lo hi)) Q) :=
  sl_list.imp fun _ _ _ _ _ ⟨a, xs, e, h, q⟩ => ⟨a, xs, e, h, q.at⟩
theorem sl_tupN : SlR X (fun x lo hi H Q => ∃ a xs, x = .ref a ∧ SqT X.K H a xs ∧ ¬ (HT.sIx xs.length 0 lo = 0 ∧ HT.sIx xs.length xs.length hi = xs.length) ∧ New H (.tup (cutV xs lo hi)) Q) :=
  sl_tup.imp fun _ _ _ _ _ ⟨a, xs, e, h, w, q⟩ => ⟨a, xs, e, h, w, q.at⟩
theorem op_catN : OpR X (binaryOp .Add) (fun x y H Q => ∃ l b xs zs, x = .ref l ∧ y = .ref b ∧ H l = some (.lst xs) ∧ H b = some (.lst zs) ∧ xs.length + zs.length ≤ sizeLine ∧ New H (.lst (xs ++ zs)) Q) :=
  op_cat.imp fun _ _ _ _ ⟨l, b, xs, zs, e1, e2, h1, h2, z, q⟩ => ⟨l, b, xs, zs, e1, e2, h1, h2, z, q.at⟩
end
theorem pcallE {P : Program} {w : World} {K : PySem.W.Frag} {mg : Str → Option Value} {base : Heap} {N : List Str} {q' : Str} {scope : Scope} {f' : Addr} {cd : Value} {A : Around} {outer : List Env} {s₀ : Shared} {H₀ : Hp} {E : XK}
    {k : Nat} {f : Addr} {fd : FuncData} {ps : List Str} {sp : Sp} {x qual : Str} {st : Stmt} {p pos : Pos} {e : Expr} {es : List Expr} {t : TA}
    (D : Dn K mg x qual st f fd ps) (F : FnOk P w K mg base (CXE P w) k f fd ps sp) (hr : Room k (cxE P w K mg base N q' scope f' cd A outer s₀ H₀ E).A) (ha : PA (cxE P w K mg base N q' scope f' cd A outer s₀ H₀ E) (e :: es) t)
    (hg : Gl (cxE P w K mg base N q' scope f' cd A outer s₀ H₀ E) x := by rfl) (hdb : (x == ("__debug__" : Str)) = false := by decide)
    (he : starEach (e :: es) (cxE P w K mg base N q' scope f' cd A outer s₀ H₀ E).env = (false, eval e (cxE P w K mg base N q' scope f' cd A outer s₀ H₀ E).env) :: starEach es (cxE P w K mg base N q' scope f' cd A outer s₀ H₀ E).env := by rfl)
    (hpl : (backTo pos (starEach es (cxE P w K mg base N q' scope f' cd A outer s₀ H₀ E).env)).any (·.1) = false := by rfl) :
    PE (cxE P w K mg base N q' scope f' cd A outer s₀ H₀ E) (.Call (.Name x p) (e :: es) [] pos) (tCall sp [] E t) := pe_call F hr hg D.m D.F.kp D.b .nil passE ha hdb he hpl
end L2
namespace L2
open PySem PySem.Spec PyProof.Rows
abbrev dI (ns : List Int) : List PyData := ns.map PyData.int
theorem lay_ints : ∀ ns : List Int, PyData.canLayAll0 (dI ns) = true
  | [] => by simp [PyData.canLayAll0]
  | n :: r => by simp only [dI, List.map_cons, PyData.canLayAll0, PyData.canLay0, Bool.true_and]; exact lay_ints r
theorem dep_ints : ∀ ns : List Int, PyData.depthAll (dI ns) = 0
  | [] => by simp [PyData.depthAll]
  | n :: r => by simp only [dI, List.map_cons, PyData.depthAll, PyData.depth]; rw [show PyData.depthAll (List.map PyData.int r) = 0 from dep_ints r]; rfl
theorem noMix_ints : ∀ ns ms : List Int, SeqAt.noMixAll (dI ns) (dI ms) = true
  | [], [] => by simp [SeqAt.noMixAll]
  | [], _ :: _ => by simp [SeqAt.noMixAll]
  | _ :: _, [] => by simp [SeqAt.noMixAll]
  | n :: r, m :: q => by simp only [dI, List.map_cons, SeqAt.noMixAll, SeqAt.noMix, Bool.true_and]; exact noMix_ints r q
theorem same_ints : ∀ ns ms : List Int, sameAll (dI ns) (dI ms) = decide (ns = ms)
  | [], [] => by simp [sameAll]
  | [], _ :: _ => by simp [sameAll]
  | _ :: _, [] => by simp [sameAll]
  | n :: r, m :: q => by
    simp only [dI, List.map_cons, sameAll, same]
    rw [show sameAll (List.map PyData.int r) (List.map PyData.int q) = decide (r = q) from same_ints r q, Bool.eq_iff_iff]
    simp
theorem shaped_li (ns : List Int) : SeqAt.shaped (.list (dI ns)) = true := by
  unfold SeqAt.shaped
  rw [PyData.canLay0, lay_ints, PyData.depth, dep_ints]; rfl
section
variable {X : Cx}
theorem op_neLI (hu : X.A.units + 64 < cLine) : OpR X (compareOp .NotEq) (fun x y H Q => ∃ a b ns ms, x = .ref a ∧ y = .ref b ∧ SqL X.K H a (List.map V.int ns) ∧ SqL X.K H b (List.map V.int ms) ∧ Q (.bl (!decide (ns = ms))) H) :=
  (op_neD hu).imp fun x y H Q ⟨a, b, ns, ms, e1, e2, h1, h2, q⟩ => by
    subst e1 e2
    refine ⟨.list (dI ns), .list (dI ms), .lst h1 (RepAll.ints ns), .lst h2 (RepAll.ints ms), shaped_li ns, shaped_li ms, by rw [SeqAt.noMix]; exact noMix_ints ns ms, ?_⟩
    rw [same, same_ints]; exact q
abbrev Ls (K : PySem.W.Frag) (H : Hp) (a : Addr) (ns : List Int) : Prop := SqL K H a (List.map V.int ns)
end
end L2
namespace L2
open PySem PySem.Spec PyProof.Rows
end L2
namespace L2
open PySem PySem.Spec PyProof.Rows
abbrev dLL (xss : List (List Int)) : List PyData := xss.map fun xs => PyData.list (dI xs)
theorem lay_lls : ∀ xss : List (List Int), PyData.canLayAll0 (dLL xss) = true
  | [] => by simp [PyData.canLayAll0]
  | xs :: r => by
    simp only [dLL, List.map_cons, PyData.canLayAll0, PyData.canLay0, lay_ints, Bool.true_and]
    exact lay_lls r
theorem dep_lls : ∀ xss : List (List Int), PyData.depthAll (dLL xss) ≤ 1
  | [] => by simp [PyData.depthAll]
  | xs :: r => by
    simp only [dLL, List.map_cons, PyData.depthAll, PyData.depth, dep_ints]
    have := dep_lls r
    simp only [dLL] at this
    omega
theorem noMix_lls : ∀ xss yss : List (List Int), SeqAt.noMixAll (dLL xss) (dLL yss) = true
  | [], [] => by simp [SeqAt.noMixAll]
  | [], _ :: _ => by simp [SeqAt.noMixAll]
  | _ :: _, [] => by simp [SeqAt.noMixAll]
  | x :: r, y :: q => by simp only [dLL, List.map_cons, SeqAt.noMixAll, SeqAt.noMix, noMix_ints, Bool.true_and]; exact noMix_lls r q
theorem same_lls : ∀ xss yss : List (List Int), sameAll (dLL xss) (dLL yss) = decide (xss = yss)
  | [], [] => by simp [sameAll]
  | [], _ :: _ => by simp [sameAll]
  | _ :: _, [] => by simp [sameAll]
  | x :: r, y :: q => by
    simp only [dLL, List.map_cons, sameAll, same, same_ints]
    rw [show sameAll (dLL r) (dLL q) = decide (r = q) from same_lls r q, Bool.eq_iff_iff]
    simp
theorem shaped_lls (xss : List (List Int)) : SeqAt.shaped (.list (dLL xss)) = true := by
  unfold SeqAt.shaped
  rw [PyData.canLay0, lay_lls, PyData.depth, Bool.true_and]
  exact decide_eq_true (by have := dep_lls xss; omega)
def RowsV (K : PySem.W.Frag) (H : Hp) : List V → List (List Int) → Prop := Paired fun v xs => ∃ a, v = .ref a ∧ SqL K H a (List.map V.int xs)
theorem RowsV.rep {K : PySem.W.Frag} {H : Hp} : ∀ {us : List V} {xss : List (List Int)}, RowsV K H us xss → RepAll K H us (dLL xss)
  | _, _, .nil => .nil
  | _, _, .cons ⟨_, e, h⟩ r => by subst e; exact .cons (.lst h (RepAll.ints _)) (RowsV.rep r)
section
variable {X : Cx}
theorem op_neLL (hu : X.A.units + 64 < cLine) : OpR X (compareOp .NotEq) (fun x y H Q => ∃ a b us ws xss yss, x = .ref a ∧ y = .ref b ∧ SqL X.K H a us ∧ SqL X.K H b ws ∧ RowsV X.K H us xss ∧ RowsV X.K H ws yss ∧ Q (.bl (!decide (xss = yss))) H) :=
  (op_neD hu).imp fun x y H Q ⟨a, b, us, ws, xss, yss, e1, e2, h1, h2, r1, r2, q⟩ => by
    subst e1 e2
    refine ⟨.list (dLL xss), .list (dLL yss), .lst h1 r1.rep, .lst h2 r2.rep, shaped_lls xss, shaped_lls yss, by rw [SeqAt.noMix]; exact noMix_lls xss yss, ?_⟩
    rw [same, same_lls]; exact q
end
section
variable {X : Cx}
end
end L2

set_option Elab.async false
set_option linter.all false
set_option maxRecDepth 100000
namespace L2
open PySem PySem.Spec PyProof.Rows
section
variable {prog : Program} {w : World} {A : Around} {R : Result → Shared → Prop} {s : Shared}
abbrev testsOf (ifs : List Expr) (env : Env) : Sem Bool := forIn ifs true fun c r => if r = true then do let ok ← isTrue c env (eval c env); pure (ForInStep.yield ok) else pure (ForInStep.yield r)
theorem codeAny_compLoop_ifs {elt target iter : Expr} {ifs : List Expr} {scope : Scope} {pos : Pos} {it acc : Value} {env : Env} (I : Nat → Shared → Prop)
    (turn : ∀ n s, I n s → wpAny (model prog w) A (pyNext it) (fun r s₁ => match r with
      | none => R (.ok .next) s₁
      | some v => wpAny (model prog w) A (letOwnedTupleGo target it v) (fun _ s₁' => wpAny (model prog w) A (assign target env v) (fun _ s₂ => wpAny (model prog w) A (testsOf ifs env) (fun ok s₃ => match ok with
          | false => ∃ m, m < n ∧ I m s₃
          | true => wpAny (model prog w) A (eval elt env) (fun x s₄ => wpAny (model prog w) A (call (.builtin "list.append") [acc, x]) (fun _ s₅ => ∃ m, m < n ∧ I m s₅) (fun _ _ => False) s₄) (fun _ _ => False) s₃)
          (fun _ _ => False) s₂) (fun _ _ => False) s₁') (fun _ _ => False) s₁) (fun _ _ => False) s)
    (n : Nat) (h : I n s) :
    codeAny (model prog w) A (.compLoop (.ListComp elt [⟨target, iter, ifs, 0⟩] scope pos) 0 it acc env) R s := by
  refine codeAny_loop rfl I (fun n s hI => ?_) n h
  show wpAny _ _ ((compTurn (.ListComp elt [⟨target, iter, ifs, 0⟩] scope pos) 0 it acc env).onRaise (fun x => do noteFrame x env; theTreesLotGoes x)) _ _ s
  refine wpAny_noted ?_
  rw [compTurn_list]
  refine wpAny_bind (wpAny_standAt (wpAny_bind (wpAny_mono (turn n s hI) (fun r s₁ h₁ => ?_) fun _ _ z => z.elim)))
  cases r with
  | none => exact wpAny_pure h₁
  | some v =>
    refine wpAny_bind (wpAny_mono h₁ (fun _ s₁' h₁' => ?_) fun _ _ z => z.elim)
    refine wpAny_bind (wpAny_mono h₁' (fun _ s₂ h₂ => wpAny_bind (wpAny_mono h₂ (fun ok s₃ h₃ => ?_) fun _ _ z => z.elim)) fun _ _ z => z.elim)
    cases ok with
    | false => exact wpAny_pure ⟨rfl, h₃⟩
    | true =>
      exact wpAny_bind (wpAny_bind (wpAny_mono h₃ (fun x s₄ h₄ => wpAny_bind (wpAny_mono h₄ (fun _ s₅ h₅ => wpAny_pure (wpAny_pure ⟨rfl, h₅⟩)) fun _ _ z => z.elim)) fun _ _ z => z.elim))
end
abbrev TStp := St → Hp → (Option V → Hp → Prop) → Prop
def PStep (X : Cx) (ifs : List Expr) (elt : Expr) (st : TStp) : Prop :=
  ∀ (pins : List (Addr × Obj)) (s : Shared) (σ : St) (H : Hp) (K : Option V → Hp → Prop), Inv X pins σ H s → st σ H K →
    wpAny (model X.prog X.w) X.A (testsOf ifs X.env) (fun ok s3 => match ok with
      | false => ∃ H9, Inv X pins σ H9 s3 ∧ K none H9
      | true => wpAny (model X.prog X.w) X.A (eval elt X.env) (fun xv s9 => ∃ z H9, Inv X pins σ H9 s9 ∧ RelV z xv ∧ K (some z) H9) (fun _ _ => False) s3) (fun _ _ => False) s
def stNo (te : TE) : TStp := fun σ H K => te σ H fun z H' => K (some z) H'
def stIf (tt : TT) (te : TE) : TStp := fun σ H K => tt σ H fun b H' => if b = true then te σ H' (fun z H2 => K (some z) H2) else K none H'
theorem pstep_no {X : Cx} {elt : Expr} {te : TE} (hx : X.xe = fun _ _ => False) (he : PE X elt te) : PStep X [] elt (stNo te) := by
  intro pins s σ H K I h
  refine wpAny_tests_nil ?_
  have := he pins s σ H (fun z H' => K (some z) H') I h
  rw [hx] at this
  exact this
theorem pstep_if {X : Cx} {c elt : Expr} {tt : TT} {te : TE} (hx : X.xe = fun _ _ => False) (hc : PT X c tt) (he : PE X elt te) : PStep X [c] elt (stIf tt te) := by
  intro pins s σ H K I h
  refine wpAny_tests_one ?_
  have h1 := hc pins s σ H _ I h
  rw [hx] at h1
  refine thn h1 fun b s3 ⟨H3, I3, q3⟩ => ?_
  cases b with
  | false => exact ⟨H3, I3, q3⟩
  | true =>
    have h2 := he pins s3 σ H3 _ I3 q3
    rw [hx] at h2
    exact h2
def LcEnd (D : Addr) (m : Nat) (W : Nat → Hp → Prop) : Option V → Hp → Prop
  | some z, H4 => ∃ ys, H4 D = some (.lst ys) ∧ ys.length < sizeLine ∧ ∃ m', m' < m ∧ W m' (upd H4 D (.lst (ys ++ [z])))
  | none, H4 => ∃ m', m' < m ∧ W m' H4
def tLcS (wi : TI) (js : List Nat) (st : TStp) : TE := fun σ H Q => wi σ H fun J H1 => ∀ D, H1 D = none → ∃ W : Nat → Nat → Hp → Prop, (∃ m, W 0 m (upd H1 D (.lst []))) ∧ ∀ i m H2, W i m H2 →
  (J.stop i H2 ∧ Q (.ref D) H2) ∨ (J.go i H2 ∧ ∀ y H3, J.yld i H2 y H3 → st (lcSt σ js (some y)) H3 (LcEnd D m (W (i + 1))))
section
variable {X : Cx} {elt iter : Expr} {x : Str} {px pos : Pos} {scope : Scope} {fr : List Str} {js : List Nat} {wi : TI} {te : TE}
theorem lc_core {ifs : List Expr} {pos' : Pos} {use : Option (Value → Sem Unit)} {Q0 : Value → Shared → Prop} {Q : VK} {st : TStp} {pins : List (Addr × Obj)} {s : Shared} {σ : St} {H : Hp}
    (S : LcScope x fr scope) (hc : X.calm = true) (hkm : (fr.map fun y => X.env.kindOf y) = fr.map fun _ => some NameKind.cell) (hj : js.map (fun j => X.N[j]?) = fr.map some)
    (hi : PI X (.Name x px) iter wi) (he : ∀ cl fp s H, PStep (cxLc X x fr scope cl fp s H) ifs elt st)
    (hs : ∀ x, foldedSetIterable iter X.env x = pure x) (I : Inv X pins σ H s) (h : tLcS wi js st σ H Q)
    (fin0 : ∀ (D C : Addr) (m : Str → Option Value) (s6 : Shared) (H5 : Hp) (fl : Flow), Inv X pins σ H5 s6 → FpOk X pins H5 C → s6.heap.Ns C m → Q (.ref D) H5 → compPost (model X.prog X.w) X.A X.xe use Q0 (.ref D) C (.ok fl) s6) :
    wpAny (model X.prog X.w) X.A (comprehension (.ListComp elt [⟨.Name x px, iter, ifs, 0⟩] scope pos) scope X.env pos' (newList []) false (eval iter X.env) use) Q0 X.xe s := by
  have hk : ∀ y ∈ fr, X.env.kindOf y = some .cell := List.map_inj_left.mp hkm
  have hcf : ∀ y ∈ fr, ∃ c, X.env.cells.lookup y = some c := fun y hy => I.ok.has y (.inl (hk y hy))
  let cf : Str → Addr := fun y => (X.env.cells.lookup y).getD 0
  have hcf' : ∀ y ∈ fr, X.env.cells.lookup y = some (cf y) := fun y hy => by
    obtain ⟨c, e⟩ := hcf y hy
    show _ = some ((X.env.cells.lookup y).getD 0)
    rw [e]; rfl
  have hmem : ∀ y ∈ scope.names, y.2 = .free → y.1 ∈ fr := fun y hy hf => by
    rw [← S.free]
    exact List.mem_map.mpr ⟨y, List.mem_filter.mpr ⟨hy, by rw [hf]; rfl⟩, rfl⟩
  let cl : List (Str × Addr) := ((scope.names.filter (fun y => y.2 == .free)).map fun y => (y.1, cf y.1)).reverse
  have hclos : closureFor scope X.env = pure cl := closure_of fun y hy hf => hcf' y.1 (hmem y hy hf)
  have hcl : cl = (fr.reverse.map fun n => (n, cf n)) := by
    show ((scope.names.filter (fun y => y.2 == .free)).map fun y => (y.1, cf y.1)).reverse = _
    rw [← S.free, ← List.map_reverse, ← List.map_reverse, List.map_map]
    rfl
  have clook : ∀ y c, cl.lookup y = some c → y ∈ fr ∧ c = cf y := fun y c e => by
    rw [hcl] at e
    obtain ⟨h1, h2⟩ := lookup_map_self e
    exact ⟨List.mem_reverse.mp h1, h2⟩
  have clmem : ∀ y ∈ fr, cl.lookup y = some (cf y) := fun y hy => by
    rw [hcl]
    exact lookup_map_mem (List.mem_reverse.mpr hy)
  refine wpAny_comprehension_free (use := use) (cl := cl) rfl hs hclos S.kind S.names ?_
  refine thn (hi pins s σ H _ I h) fun v s1 h1 => thn h1 fun itv s2 h2 => ?_
  obtain ⟨it, fp, tn, J, H2, rfl, I2, T, st2, f2, hR⟩ := h2
  refine wpAny_newObj_type ?_ (by show 0 ≤ sizeLine; exact Nat.zero_le _)
  have hD : H2 s2.heap.objs.size = none := I2.hok.fresh (Nat.le_refl _)
  have I3 : Inv X pins σ (upd H2 s2.heap.objs.size (.lst [])) { s2 with heap := s2.heap.push { cls := .type "list", data := .seq ([] : List Value).toArray } } := I2.lnew (t' := s2.toks) .nil (Nat.zero_le _)
  obtain ⟨W, ⟨m0, w0⟩, turn⟩ := hR s2.heap.objs.size hD
  generalize hH3 : upd H2 s2.heap.objs.size (.lst []) = H3 at I3 w0
  generalize hs3 : ({ s2 with heap := s2.heap.push { cls := .type "list", data := .seq ([] : List Value).toArray } } : Shared) = s3 at I3
  have fp3 : ∀ b ∈ fp, H3 b = none := fun b hb => by
    rw [← hH3]
    have hb2 := (f2 b hb).1
    obtain ⟨o, ho, _⟩ := T.obj 0 _ st2 b hb
    rw [upd_ne (Nat.ne_of_lt (Heap.lt_size ho))]
    exact hb2
  have tn3 : tn 0 s3.heap := T.keep 0 _ _ st2 fun b hb o e => by rw [← hs3]; exact Heap.get?_push_of_some _ e
  have fpin : ∀ b ∈ fp, ∃ o, s3.heap.get? b = some o := fun b hb => by
    obtain ⟨o, ho, _⟩ := T.obj 0 _ tn3 b hb
    exact ⟨o, ho⟩
  refine wpAny_newFunctionEnv S.nocell (by intro y hy; simp at hy) (fun h1 hns hsb => ?_) S.kind
  have keep : ∀ b o, s3.heap.get? b = some o → h1.get? b = some o := fun b o e => (hsb.2 b (Nat.ne_of_lt (Heap.lt_size e))).trans (Heap.get?_push_of_some _ e)
  have nC : ∀ b o, s3.heap.get? b = some o → b ≠ s3.heap.objs.size := fun b o e => Nat.ne_of_lt (Heap.lt_size e)
  have Ok : (cxLc X x fr scope cl fp s3 H3).Ok := by
    refine ⟨I3.ok.mod, S.kind, I3.ok.glob, I3.ok.blt, Nat.le_refl _, fun y z c e1 e2 => ?_, fun y hky => ?_, fun y c hf e => ?_, fun _ => I3.ok.hd hc, I3.ok.frames, .inl rfl, fun b hb => ⟨?_, fun y c e z => ?_⟩, fun b o e => I3.bs b o e,
      Nat.le_trans I3.ok.bsz I3.sz, fun b o e hb => ?_, fun b hb hm => ?_, I3.stack, fun b hb => I3.stkFree b hb⟩
    · obtain ⟨a1, a2⟩ := clook y c e1
      obtain ⟨b1, b2⟩ := clook z c e2
      exact I3.ok.inj y z c (by rw [a2]; exact hcf' y a1) (by rw [b2]; exact hcf' z b1)
    · have hky' : (relabel scope X.env).names.lookup y = some .cell ∨ (relabel scope X.env).names.lookup y = some .free := hky
      have er : (relabel scope X.env).names.lookup y = (scope.names.lookup y).map fun k => if (k == NameKind.free && X.env.scope.kind == .function && X.env.kindOf y == some .cell) then NameKind.cell else k := relabel_lookup (scope := scope) (env := X.env) y scope.names
      rw [er] at hky'
      refine ⟨_, clmem y (S.look y ?_)⟩
      cases q : scope.names.lookup y with
      | none => rw [q] at hky'; simp at hky'
      | some k =>
        rw [q] at hky'
        cases k <;> simp at hky' <;> simp
    · obtain ⟨a1, a2⟩ := clook y c e
      have : y = x := of_decide_eq_true hf
      exact absurd (this ▸ a1) S.notx
    · obtain ⟨o, ho⟩ := fpin b hb
      exact nC b o ho
    · obtain ⟨a1, a2⟩ := clook y c e
      exact (f2 b hb).2.2.2.2.1 y c (by rw [a2]; exact hcf' y a1) z
    · rcases (f2 b hb).2.2.2.1 with z | z
      · exact I3.ok.noex b o e z
      · exact absurd (Nat.lt_of_lt_of_le (Heap.lt_size e) (Nat.le_trans I3.ok.bsz z)) (Nat.lt_irrefl _)
    · rcases List.mem_cons.mp (I3.stkSub b hm) with z | z
      · exact (f2 b hb).2.1 z
      · exact (f2 b hb).2.2.1 z
  have hlen : js.length = fr.length := by
    have := congrArg List.length hj
    simpa using this
  have Ic : ∀ tk, Inv (cxLc X x fr scope cl fp s3 H3) [] (lcSt σ js none) H3 { s3 with heap := h1, toks := tk } := fun tk => by
    refine ⟨Ok, rfl, I3.bare, Un.kept keep, ⟨_, hns, fun i y v e1 e2 e3 => ?_⟩, fun y c e => ?_, I3.hok.fresh (Nat.le_refl _), fun y c e => ?_, fun p hp => ?_, I3.hok.kept keep, ?_⟩
    · cases i with
      | zero =>
        have e2' : (some none : Option (Option V)) = some (some v) := e2
        cases e2'
      | succ i =>
        have e1' : fr[i]? = some y := e1
        have e2' : (js.map fun j => (σ[j]?).join)[i]? = some (some v) := e2
        rw [List.getElem?_map] at e2'
        obtain ⟨j, hj1, hj2⟩ := Option.map_eq_some_iff.mp e2'
        have hjN : X.N[j]? = some y := by
          have := congrArg (fun l => l[i]?) hj
          simp only [List.getElem?_map, hj1, e1', Option.map_some] at this
          exact Option.some.inj this
        have hσ : σ[j]? = some (some v) := by
          cases q : σ[j]? with
          | none => rw [q] at hj2; cases hj2
          | some o => rw [q] at hj2; exact congrArg some hj2
        have hy : y ∈ fr := List.mem_of_getElem? e1'
        obtain ⟨m, _, hl⟩ := I3.loc
        obtain ⟨u, ru, l⟩ := hl j y v hjN hσ (.inr (.inl (hk y hy)))
        refine ⟨u, ru, ?_⟩
        rcases l with ⟨kl, _⟩ | ⟨_, c, ec, o, ho, hd⟩
        · rw [hk y hy] at kl; cases kl
        · refine .inr ⟨?_, c, ?_, o, keep c o ho, hd⟩
          · have er : (relabel scope X.env).names.lookup y = (scope.names.lookup y).map fun k => if (k == NameKind.free && X.env.scope.kind == .function && X.env.kindOf y == some .cell) then NameKind.cell else k := relabel_lookup (scope := scope) (env := X.env) y scope.names
            show (relabel scope X.env).names.lookup y = some .cell ∨ (relabel scope X.env).names.lookup y = some .free
            rw [er, S.lookfr y hy]
            have hb : (X.env.kindOf y == some NameKind.cell) = true := by rw [hk y hy]; rfl
            have hb2 : (X.env.scope.kind == ScopeKind.function) = true := by rw [I3.ok.kind]; rfl
            left
            simp only [Option.map_some, hb, hb2]
            rfl
          · show cl.lookup y = some c
            rw [clmem y hy]
            have := hcf' y hy
            rw [ec] at this
            exact this.symm
    · obtain ⟨a1, a2⟩ := clook y c e
      obtain ⟨v, o, ho, hd⟩ := I3.cell y c (by rw [a2]; exact hcf' y a1)
      exact ⟨v, o, keep c o ho, hd⟩
    · obtain ⟨a1, a2⟩ := clook y c e
      exact I3.freeC y c (by rw [a2]; exact hcf' y a1)
    · exact absurd hp (by intro z; cases z)
    · show (lcSt σ js none).length = (x :: fr).length
      simp [lcSt, hlen]
  have fin : ∀ s6 H5 m, Inv (cxLc X x fr scope cl fp s3 H3) [] (lcSt σ js none) H5 s6 → Q (.ref s2.heap.objs.size) H5 → compPost (model X.prog X.w) X.A X.xe use Q0 (.ref s2.heap.objs.size) s3.heap.objs.size (.ok m) s6 := by
    intro s6 H5 m I6 qn
    obtain ⟨mm, hm, _⟩ := id I6.loc
    have I6' : Inv X pins σ H5 s6 := I3.call' (ch := fp) I6.os I6.base I6.hok I6.bare fun b hb => ⟨(f2 b hb).2.2.2.1, (f2 b hb).2.1, (f2 b hb).2.2.2.2.1, (f2 b hb).2.2.2.2.2⟩
    exact fin0 _ _ mm s6 H5 m I6' (I3.fpOk (Nat.le_refl _) I6.free) hm qn
  have loop : ∀ tk, codeAny (model X.prog X.w) X.A (.compLoop (.ListComp elt [⟨.Name x px, iter, ifs, 0⟩] scope pos) 0 (.ref it) (.ref s2.heap.objs.size) (compEnvC scope cl s3.heap.objs.size X.env))
      (compPost (model X.prog X.w) X.A X.xe use Q0 (.ref s2.heap.objs.size) s3.heap.objs.size) { s3 with heap := h1, toks := tk } := fun tk => by
    refine codeAny_compLoop_ifs (fun m s' => ∃ i H', Inv (cxLc X x fr scope cl fp s3 H3) [] (lcSt σ js none) H' s' ∧ tn i s'.heap ∧ (∀ b ∈ fp, H' b = none) ∧ W i m H') ?_ m0
      ⟨0, H3, Ic tk, T.keep 0 _ _ tn3 fun b hb o e => keep b o e, fp3, w0⟩
    rintro n s5 ⟨i, H5, I5, t5, f5, w5⟩
    have stat : ∀ {H' : Hp}, (∀ b ∈ fp, H' b = none) → ∀ b ∈ fp, FpOk (cxLc X x fr scope cl fp s3 H3) [] H' b := fun hn b hb => ⟨hn b hb, (Ok.exf b hb).1, Ok.exfs b hb, .inl hb, (Ok.exf b hb).2, fun p hp => absurd hp (by intro z; cases z)⟩
    rcases turn i n H5 w5 with ⟨stop, qn⟩ | ⟨go, step⟩
    · refine thn (T.done (cxLc X x fr scope cl fp s3 H3) rfl rfl rfl hc i [] s5 _ H5 _ I5 (stat f5) t5 stop) fun r s6 ⟨hr, I6⟩ => ?_
      subst hr
      exact fin s6 H5 _ I6 qn
    · refine thn (T.item (cxLc X x fr scope cl fp s3 H3) rfl rfl rfl hc i [] s5 _ H5 _ I5 (stat f5) t5 go) fun r s6 ⟨u, hr, h6⟩ => ?_
      subst hr
      refine thn h6 fun _ s7 ⟨y, H7, I7, r7, y7, t7, f7⟩ => ?_
      have I7' := I7.pinned (stat f7) (T.obj _ _ t7)
      have ndN : (cxLc X x fr scope cl fp s3 H3).N.Nodup := List.nodup_cons.mpr ⟨S.notx, S.nd⟩
      have own : (cxLc X x fr scope cl fp s3 H3).env.scope.names.lookup x = some .local := lookup_relabel_local S.own
      refine thn (pg_name (X := cxLc X x fr scope cl fp s3 H3) (i := 0) (pos := px) ndN rfl (.inl own) (.inr own) _ s7 _ H7 y u (fun σ' H' => σ' = lcSt σ js (some y) ∧ H' = H7) I7' r7 ⟨rfl, rfl⟩) fun _ s8 ⟨σ8, H8, I8, e8, e8'⟩ => ?_
      subst e8 e8'
      refine thn (he cl fp s3 H3 _ s8 _ _ _ I8 (step y _ y7)) fun ok s9 q9 => ?_
      have back : ∀ {H10 : Hp} {s10 : Shared} {m' : Nat}, Inv (cxLc X x fr scope cl fp s3 H3) ([] ++ pinsAt fp s7.heap) (lcSt σ js (some y)) H10 s10 → m' < n → W (i + 1) m' H10 → ∃ m, m < n ∧ ∃ i H', Inv (cxLc X x fr scope cl fp s3 H3) [] (lcSt σ js none) H' s10 ∧ tn i s10.heap ∧ (∀ b ∈ fp, H' b = none) ∧ W i m H' := fun {H10 s10 m'} I10 hm w9 => by
        refine ⟨m', hm, i + 1, _, (I10.weak (σ' := lcSt σ js none) rfl fun j v e => ?_).unpinned, T.keep _ _ _ t7 fun b hb o e => (I10.pin (b, o) (List.mem_append_right _ (List.mem_append_right _ (mem_pinsAt hb e)))).1, fun b hb => ?_, w9⟩
        · cases j with
          | zero =>
            have e' : (some none : Option (Option V)) = some (some v) := e
            cases e'
          | succ j => exact e
        · obtain ⟨o, e, _⟩ := T.obj _ _ t7 b hb
          exact (I10.pin (b, o) (List.mem_append_right _ (List.mem_append_right _ (mem_pinsAt hb e)))).2.1
      cases ok with
      | false =>
        obtain ⟨H9, I9, m', hm, w9⟩ := q9
        exact back I9 hm w9
      | true =>
        refine thn q9 fun xv s9' ⟨z, H9, I9, r9, q9⟩ => ?_
        obtain ⟨ys, hl, hz, m', hm, w9⟩ := q9
        refine thn (mt_append (X := cxLc X x fr scope cl fp s3 H3) _ s9' _ H9 (.ref s2.heap.objs.size) [z] (.ref s2.heap.objs.size) [xv] (fun v H' => H' = upd H9 s2.heap.objs.size (.lst (ys ++ [z]))) I9 rfl (.cons r9 .nil)
          ⟨_, ys, z, rfl, rfl, hl, hz, rfl⟩) fun v s10 ⟨v', H10, I10, _, e10⟩ => ?_
        subst e10
        exact back I10 hm w9
  exact codeAny_compStart_list (loop _) (T.self X.A 0 _ _ _ (T.keep 0 _ _ tn3 fun b hb o e => keep b o e) (loop _))

theorem Inv.letGo {pins : List (Addr × Obj)} {σ : St} {H : Hp} {s : Shared} {C : Addr} {h' : Heap} (I : Inv X pins σ H s) (f : FpOk X pins H C) (hs : Heap.SameBut C s.heap h') : Inv X pins σ H { s with heap := h' } :=
  I.turned (it := C) (t' := s.toks) (fun b o ne e => (hs.2 b ne).trans e) f.1 f.2.1 f.2.2.2.1 f.2.2.2.2.1 f.2.2.2.2.2
theorem pe_lcS {ifs : List Expr} {st : TStp} (S : LcScope x fr scope) (hc : X.calm = true) (hkm : (fr.map fun y => X.env.kindOf y) = fr.map fun _ => some NameKind.cell) (hj : js.map (fun j => X.N[j]?) = fr.map some)
    (hi : PI X (.Name x px) iter wi) (he : ∀ cl fp s H, PStep (cxLc X x fr scope cl fp s H) ifs elt st)
    (hs : ∀ x, foldedSetIterable iter X.env x = pure x := by intro _; rfl) :
    PE X (.ListComp elt [⟨.Name x px, iter, ifs, 0⟩] scope pos) (tLcS wi js st) := by
  intro pins s σ H Q I h
  rw [eval_ListComp]
  exact lc_core (use := none) S hc hkm hj hi he hs I h fun D C m s6 H5 fl I6 f hn q => ⟨m, hn, fun h' hs' => ⟨.ref D, H5, I6.letGo f hs', rfl, q⟩⟩
theorem pe_lcI {c : Expr} {tt : TT} (S : LcScope x fr scope) (hc : X.calm = true) (hkm : (fr.map fun y => X.env.kindOf y) = fr.map fun _ => some NameKind.cell) (hj : js.map (fun j => X.N[j]?) = fr.map some)
    (hi : PI X (.Name x px) iter wi) (ht : ∀ cl fp s H, PT (cxLc X x fr scope cl fp s H) c tt) (he : ∀ cl fp s H, PE (cxLc X x fr scope cl fp s H) elt te)
    (hs : ∀ x, foldedSetIterable iter X.env x = pure x := by intro _; rfl) :
    PE X (.ListComp elt [⟨.Name x px, iter, [c], 0⟩] scope pos) (tLcS wi js (stIf tt te)) := pe_lcS S hc hkm hj hi (fun cl fp s H => pstep_if rfl (ht cl fp s H) (he cl fp s H)) hs
theorem ps_setS {ifs : List Expr} {st : TStp} {i : Nat} {y : Str} {py spos : Pos} (hN : X.N.Nodup) (hiy : X.N[i]? = some y) (hly : X.env.scope.names.lookup y = some .local) (S : LcScope x fr scope) (hc : X.calm = true)
    (hkm : (fr.map fun y => X.env.kindOf y) = fr.map fun _ => some NameKind.cell) (hj : js.map (fun j => X.N[j]?) = fr.map some) (hi : PI X (.Name x px) iter wi) (he : ∀ cl fp s H, PStep (cxLc X x fr scope cl fp s H) ifs elt st)
    (hs : ∀ x, foldedSetIterable iter X.env x = pure x := by intro _; rfl) (hsw : swapsWith (.ListComp elt [⟨.Name x px, iter, ifs, 0⟩] scope pos) (some (.Name y py)) spos.line X.env = pure true := by rfl) :
    PS X (.Assign [.Name y py] (.ListComp elt [⟨.Name x px, iter, ifs, 0⟩] scope pos) spos) (fun D σ H => tLcS wi js st σ H fun v H1 => D.nx (σ.set i (some v)) H1) := by
  intro pins s σ H Dn I h
  rw [exec_Assign_Name_used _ _ _ _ hsw]
  refine wpAny_bind (wpAny_standAt (wpAny_bind ?_))
  show wpAny _ X.A (do let _ ← comprehension (.ListComp elt [⟨.Name x px, iter, ifs, 0⟩] scope pos) scope X.env _ (newList []) false (eval iter X.env) (some (assign (.Name y py) X.env))) _ _ s
  refine wpAny_bind (wpAny_mono (lc_core (use := some (assign (.Name y py) X.env)) (Q0 := fun _ s' => SP X pins Dn .next s') S hc hkm hj hi he hs I h fun D C m s6 H5 fl I6 f hn q => ?_) (fun _ s' hq => wpAny_pure (wpAny_pure hq)) fun _ _ z => z)
  show wpAny _ X.A (assign (.Name y py) X.env (.ref D)) _ _ _
  refine wpAny_assign_Name (store_ok2 (v := .ref D) I6 hN hiy (.inl hly) rfl (fun s7 I7 hsb => ?_) (.inr hly))
  obtain ⟨a, hsb, ha⟩ := hsb
  have hne : C ≠ a := by
    rcases ha with ha | ha
    · rw [ha]; exact f.2.1
    · exact fun z => f.2.2.2.2.1 _ _ ha z.symm
  exact ⟨m, hn.sameBut hsb hne, fun h' hs' => ⟨_, H5, I7.letGo f hs', q⟩⟩
theorem ps_setLc {i : Nat} {y : Str} {py spos : Pos} (hN : X.N.Nodup) (hiy : X.N[i]? = some y) (hly : X.env.scope.names.lookup y = some .local) (S : LcScope x fr scope) (hc : X.calm = true)
    (hkm : (fr.map fun y => X.env.kindOf y) = fr.map fun _ => some NameKind.cell) (hj : js.map (fun j => X.N[j]?) = fr.map some) (hi : PI X (.Name x px) iter wi) (he : ∀ cl fp s H, PE (cxLc X x fr scope cl fp s H) elt te)
    (hs : ∀ x, foldedSetIterable iter X.env x = pure x := by intro _; rfl) (hsw : swapsWith (.ListComp elt [⟨.Name x px, iter, [], 0⟩] scope pos) (some (.Name y py)) spos.line X.env = pure true := by rfl) :
    PS X (.Assign [.Name y py] (.ListComp elt [⟨.Name x px, iter, [], 0⟩] scope pos) spos) (fun D σ H => tLc wi js te σ H fun v H1 => D.nx (σ.set i (some v)) H1) :=
  fun pins s σ H Dn I h => ps_setS hN hiy hly S hc hkm hj hi (fun cl fp s H => pstep_no rfl (he cl fp s H)) hs hsw pins s σ H Dn I h
theorem ps_setLcI {c : Expr} {tt : TT} {i : Nat} {y : Str} {py spos : Pos} (hN : X.N.Nodup) (hiy : X.N[i]? = some y) (hly : X.env.scope.names.lookup y = some .local) (S : LcScope x fr scope) (hc : X.calm = true)
    (hkm : (fr.map fun y => X.env.kindOf y) = fr.map fun _ => some NameKind.cell) (hj : js.map (fun j => X.N[j]?) = fr.map some) (hi : PI X (.Name x px) iter wi) (ht : ∀ cl fp s H, PT (cxLc X x fr scope cl fp s H) c tt)
    (he : ∀ cl fp s H, PE (cxLc X x fr scope cl fp s H) elt te)
    (hs : ∀ x, foldedSetIterable iter X.env x = pure x := by intro _; rfl) (hsw : swapsWith (.ListComp elt [⟨.Name x px, iter, [c], 0⟩] scope pos) (some (.Name y py)) spos.line X.env = pure true := by rfl) :
    PS X (.Assign [.Name y py] (.ListComp elt [⟨.Name x px, iter, [c], 0⟩] scope pos) spos) (fun D σ H => tLcS wi js (stIf tt te) σ H fun v H1 => D.nx (σ.set i (some v)) H1) :=
  ps_setS hN hiy hly S hc hkm hj hi (fun cl fp s H => pstep_if rfl (ht cl fp s H) (he cl fp s H)) hs hsw
end
def LcT (D : Addr) (n : Nat) (Pv : Nat → List V → Hp → Prop) (i : Nat) : Option V → Hp → Prop
  | some z, H4 => ∃ ys, H4 D = some (.lst ys) ∧ ys.length < sizeLine ∧ i < n ∧ Pv (i + 1) (ys ++ [z]) (upd H4 D (.lst (ys ++ [z])))
  | none, H4 => i < n ∧ ∃ ys, Pv (i + 1) ys H4
theorem lcS_list {K : PySem.W.Frag} {a D : Addr} {xs : List V} {st : TStp} {σ : St} {js : List Nat} {H1 : Hp} {R : Hp → Prop} (Pv : Nat → List V → Hp → Prop) (h0 : Pv 0 [] (upd H1 D (.lst []))) (hl : ∀ i ys H, Pv i ys H → SqL K H a xs)
    (hs : ∀ i x ys H, xs[i]? = some x → Pv i ys H → st (lcSt σ js (some x)) H (LcEnd D (xs.length - i) (fun m' H => m' = xs.length - (i + 1) ∧ i + 1 ≤ xs.length ∧ ∃ ys, Pv (i + 1) ys H))) (hd : ∀ ys H, Pv xs.length ys H → R H) :
    ∃ W : Nat → Nat → Hp → Prop, (∃ m, W 0 m (upd H1 D (.lst []))) ∧ ∀ i m H2, W i m H2 → ((Itl K a).stop i H2 ∧ R H2) ∨ ((Itl K a).go i H2 ∧ ∀ y H3, (Itl K a).yld i H2 y H3 → st (lcSt σ js (some y)) H3 (LcEnd D m (W (i + 1)))) := by
  refine ⟨fun i m H => m = xs.length - i ∧ i ≤ xs.length ∧ ∃ ys, Pv i ys H, ⟨xs.length, by simp, Nat.zero_le _, [], h0⟩, ?_⟩
  rintro i m H ⟨rfl, hi, ys, p⟩
  have q := hl i ys H p
  by_cases hlt : i < xs.length
  · refine .inr ⟨⟨xs, xs[i], q, by simp [hlt]⟩, fun x H' y => ?_⟩
    obtain ⟨e, y⟩ := y
    subst e
    exact hs i x ys _ (y xs q) p
  · have e : i = xs.length := by omega
    subst e
    exact .inl ⟨⟨xs, q, Nat.le_refl _⟩, hd ys H p⟩
theorem lcS_range {lo : Int} {n : Nat} {D : Addr} {st : TStp} {σ : St} {js : List Nat} {H1 : Hp} {R : Hp → Prop} (Pv : Nat → List V → Hp → Prop) (h0 : Pv 0 [] (upd H1 D (.lst [])))
    (hs : ∀ i ys H, i < n → Pv i ys H → st (lcSt σ js (some (.int (lo + i)))) H (LcEnd D (n - i) (fun m' H => m' = n - (i + 1) ∧ i + 1 ≤ n ∧ ∃ ys, Pv (i + 1) ys H))) (hd : ∀ ys H, Pv n ys H → R H) :
    ∃ W : Nat → Nat → Hp → Prop, (∃ m, W 0 m (upd H1 D (.lst []))) ∧ ∀ i m H2, W i m H2 → ((Itr lo n).stop i H2 ∧ R H2) ∨ ((Itr lo n).go i H2 ∧ ∀ y H3, (Itr lo n).yld i H2 y H3 → st (lcSt σ js (some y)) H3 (LcEnd D m (W (i + 1)))) := by
  refine ⟨fun i m H => m = n - i ∧ i ≤ n ∧ ∃ ys, Pv i ys H, ⟨n, by simp, Nat.zero_le _, [], h0⟩, ?_⟩
  rintro i m H ⟨rfl, hi, ys, p⟩
  by_cases hlt : i < n
  · refine .inr ⟨hlt, fun x H' y => ?_⟩
    obtain ⟨e, y⟩ := y
    subst e y
    exact hs i ys _ hlt p
  · have e : i = n := by omega
    subst e
    exact .inl ⟨Nat.le_refl _, hd ys H p⟩
theorem lcS_put {D : Addr} {n : Nat} {Pv : Nat → List V → Hp → Prop} {i : Nat} {z : V} {H4 : Hp} {ys : List V} (h1 : H4 D = some (.lst ys)) (h2 : ys.length < sizeLine) (h3 : i < n) (h4 : Pv (i + 1) (ys ++ [z]) (upd H4 D (.lst (ys ++ [z])))) :
    LcEnd D (n - i) (fun m' H => m' = n - (i + 1) ∧ i + 1 ≤ n ∧ ∃ ys, Pv (i + 1) ys H) (some z) H4 := ⟨ys, h1, h2, n - (i + 1), by omega, rfl, h3, _, h4⟩
theorem lcS_skip {D : Addr} {n : Nat} {Pv : Nat → List V → Hp → Prop} {i : Nat} {H4 : Hp} {ys : List V} (h3 : i < n) (h4 : Pv (i + 1) ys H4) :
    LcEnd D (n - i) (fun m' H => m' = n - (i + 1) ∧ i + 1 ≤ n ∧ ∃ ys, Pv (i + 1) ys H) none H4 := ⟨n - (i + 1), by omega, rfl, h3, _, h4⟩
end L2

set_option Elab.async false
set_option linter.all false
set_option maxRecDepth 100000
namespace L2
open PySem PySem.Spec PyProof.Rows
def litOf : Expr → Option Int
  | .Constant (.int i) _ _ => some i
  | .UnaryOp .USub (.Constant (.int i) _ _) _ => some (-i)
  | _ => none
def pairOf : Expr → Option (Int × Int)
  | .Tuple [a, b] _ _ => match litOf a, litOf b with
    | some i, some j => some (i, j)
    | _, _ => none
  | _ => none
def pairsOf : List Expr → Option (List (Int × Int))
  | [] => some []
  | e :: es => match pairOf e, pairsOf es with
    | some p, some ps => some (p :: ps)
    | _, _ => none
section
variable {X : Cx}
theorem pe_lit {e : Expr} {i : Int} (h : litOf e = some i) : PE X e (tC (.int i)) := by
  unfold litOf at h
  split at h
  · cases h; exact pe_int
  · cases h
    intro pins s σ H Q I hq
    exact pe_un un_neg pe_int pins s σ H Q I ⟨_, rfl, hq⟩
  · cases h
theorem star_lit {e : Expr} {i : Int} (h : litOf e = some i) (es : List Expr) (env : Env) : starEach (e :: es) env = (false, eval e env) :: starEach es env := by
  unfold litOf at h
  split at h
  · rfl
  · rfl
  · cases h
theorem pe_pair {e : Expr} {p : Int × Int} (h : pairOf e = some p) : PE X e (fun _ H Q => New H (.tup [.int p.1, .int p.2]) Q) := by
  unfold pairOf at h
  split at h
  · split at h
    · rename_i a b c pos i j ha hb
      cases h
      intro pins s σ H Q I hq
      exact pe_tupN (pa_cons (pe_lit ha) (pa_cons (pe_lit hb) pa_nil (star_lit hb _ _)) (star_lit ha _ _)) pins s σ H Q I ⟨Nat.le_of_ble_eq_true rfl, hq⟩
    · cases h
  · cases h
theorem star_pair {e : Expr} {p : Int × Int} (h : pairOf e = some p) (es : List Expr) (env : Env) : starEach (e :: es) env = (false, eval e env) :: starEach es env := by
  unfold pairOf at h
  split at h
  · rfl
  · cases h
def Pairs (H : Hp) : List V → List (Int × Int) → Prop := Paired fun v p => ∃ a, v = .ref a ∧ H a = some (.tup [.int p.1, .int p.2])
theorem Pairs.keep {H H' : Hp} (s : Same H H') : ∀ {us : List V} {ps : List (Int × Int)}, Pairs H us ps → Pairs H' us ps
  | _, _, .nil => .nil
  | _, _, .cons ⟨a, e, h⟩ r => .cons ⟨a, e, s _ _ h⟩ (Pairs.keep s r)
theorem Pairs.get {H : Hp} : ∀ {us : List V} {ps : List (Int × Int)} {j : Nat} {p : Int × Int}, Pairs H us ps → ps[j]? = some p → ∃ a, us[j]? = some (.ref a) ∧ H a = some (.tup [.int p.1, .int p.2])
  | _, _, 0, _, .cons ⟨a, e, h⟩ _, hj => by cases hj; exact ⟨a, by rw [e]; rfl, h⟩
  | _, _, j + 1, _, .cons _ r, hj => Pairs.get (j := j) r hj
theorem pa_pairs : ∀ {es : List Expr} {ps : List (Int × Int)}, pairsOf es = some ps → PA X es (fun _ H Q => ∀ us H', Same H H' → Pairs H' us ps → Q us H')
  | [], ps, h => by
    cases h
    intro pos pins s σ H Q I hq
    exact pa_nil pos pins s σ H Q I (hq [] H (Same.refl _) .nil)
  | e :: es, ps, h => by
    unfold pairsOf at h
    split at h
    · rename_i p ps' h1 h2
      cases h
      intro pos pins s σ H Q I hq
      refine pa_cons (pe_pair h1) (pa_pairs h2) (star_pair h1 _ _) pos pins s σ H Q I fun a H1 s1 _ h1 us H2 s2 r => ?_
      exact hq _ H2 (s1.trans s2) (.cons ⟨a, rfl, s2 _ _ h1⟩ r)
    · cases h
theorem Pairs.len {H : Hp} {us : List V} {ps : List (Int × Int)} (r : Pairs H us ps) : us.length = ps.length := Paired.length r
theorem pe_pairs {es : List Expr} {ps : List (Int × Int)} {pos : Pos} (h : pairsOf es = some ps) (hz : ps.length ≤ 1000) : PE X (.List es pos) (fun _ H Q => ∀ l us H', Same H H' → H' l = some (.lst us) → Pairs H' us ps → Q (.ref l) H') := by
  intro pins s σ H Q I hq
  refine pe_lstN (pa_pairs h) pins s σ H Q I fun us H1 s1 r => ⟨Nat.le_of_lt (small1000 (by rw [r.len]; exact hz)), fun l H2 s2 _ h2 => hq l us H2 (s1.trans s2) h2 (r.keep s2)⟩
end
def retPairs : List Stmt → Option (List (Int × Int) × Str)
  | [.Return (some (.Subscript (.List es _) (.Name x _) _)) _] => (pairsOf es).map fun ps => (ps, x)
  | _ => none
theorem pss_pairs {X : Cx} {body : List Stmt} {ps : List (Int × Int)} {x : Str} {i : Nat} (h : retPairs body = some (ps, x)) (hz : ps.length ≤ 1000) (hN : X.N[i]? = some x) (hv : Vis X.env.scope x)
    (hd : (x == ("__debug__" : Str)) = false := by decide) (hcd : (x == ("__classdict__" : Str)) = false := by decide) :
    PSs X body (tRet (tOp (rIxL X.K) (fun _ H Q => ∀ l us H', Same H H' → H' l = some (.lst us) → Pairs H' us ps → Q (.ref l) H') (tVar i))) := by
  unfold retPairs at h
  split at h
  · rename_i es _ y _ _ _
    cases hp : pairsOf es with
    | none => rw [hp] at h; cases h
    | some qs =>
      rw [hp] at h
      cases h
      exact pss_one (ps_ret (pe_ix ix_list (pe_pairs hp hz) (pe_var hN hv hd hcd) (fun _ _ => rfl)))
  · cases h
section
variable {X : Cx} {K : PySem.W.Frag}
theorem call_lenK (hK : X.K = K) : CallR X (.builtin "len") (fun xs H Q => ∃ p ys, xs = [.ref p] ∧ (SqL K H p ys ∨ SqT K H p ys) ∧ Q (.int ys.length) H) := by subst hK; exact call_len_seq
theorem call_listK (hK : X.K = K) : CallR X (.type "list") (fun xs H Q => ∃ p ys, xs = [.ref p] ∧ (SqL K H p ys ∨ SqT K H p ys) ∧ New H (.lst ys) Q) := by subst hK; exact call_listN
theorem sl_listK (hK : X.K = K) : SlR X (fun x lo hi H Q => ∃ a xs, x = .ref a ∧ SqL K H a xs ∧ New H (.lst (cutV xs lo hi)) Q) := by subst hK; exact sl_listN
end
def sp_pairs (ps : List (Int × Int)) (K : PySem.W.Frag) : Sp := fun vs H Q _ => ∃ (i : Int) (q : Int × Int), vs = [.int i] ∧ 0 ≤ i ∧ ps[i.toNat]? = some q ∧ ∀ v H', Same H H' → Pl K H' v q.1 q.2 → Q v H'
theorem ok_pairs {P : Program} {w : World} {K : PySem.W.Frag} {mg : Str → Option Value} {base : Heap} {x qual : Str} {st : Stmt} {f : Addr} {fd : FuncData} {p : Str} {ps : List (Int × Int)} (F : Fun K x qual st f fd) (S : FnScope [p] [p] (defScope st))
    (h : retPairs (defBody st) = some (ps, p)) (hz : ps.length ≤ 1000) (hl : (defScope st).names.lookup p = some .local) (hd : (p == ("__debug__" : Str)) = false) (hcd : (p == ("__classdict__" : Str)) = false) : FnOk P w K mg base CX0 1 f fd [p] (sp_pairs ps K) := by
  refine F.ok S (fun vs H Q E h => ?_) (fun cdv A outer s H vs Q E hr h' => ?_)
  · obtain ⟨i, q, rfl, _⟩ := h; rfl
  · obtain ⟨i, q, rfl, i0, hq, k⟩ := h'
    refine ⟨_, pss_pairs h hz (i := 0) rfl (.inl hl) hd hcd, ?_⟩
    intro l us H1 s1 h1 r
    obtain ⟨a, ea, ha⟩ := r.get hq
    have hat : atI us i = some (.ref a) := by
      have := atI_nat ea
      rwa [Int.toNat_of_nonneg i0] at this
    exact ⟨_, rfl, l, us, i, .ref a, rfl, rfl, SqL.of h1, hat, k _ H1 s1 ⟨a, rfl, SqT.of ha⟩⟩
end L2

set_option Elab.async false
set_option linter.all false
set_option maxRecDepth 100000
namespace L2
open PySem PySem.Spec PyProof.Rows
section
variable {prog : Program} {w : World} {A : Around} {E : Value → Shared → Prop} {s : Shared}
def RawD (h : Heap) (d : Addr) (es : Array DictEntry) (ep : Nat) : Prop := ∃ o, h.get? d = some o ∧ o.cls = .type "dict" ∧ o.data = .dict es ep
theorem RawD.ty {d : Addr} {es : Array DictEntry} {ep : Nat} (x : RawD s.heap d es ep) : s.TypeIs (.ref d) "dict" := let ⟨o, g, c, _⟩ := x; ⟨o, g, c⟩
theorem raw_iter {d : Addr} {es : Array DictEntry} {ep : Nat} {Q : Value → Shared → Prop} (hd : (d == sysModules) = false) (hm : RawD s.heap d es ep)
    (hQ : Q (.ref s.heap.objs.size) { s with heap := s.heap.push { cls := .type "dict_keyiterator", data := .fields #[.ref d, .int 0 0, .int es.size 0, .int ep 0] } }) :
    wpAny (model prog w) A (pyIter (.ref d)) Q E s := by
  obtain ⟨ob, g, c, dt⟩ := id hm
  refine wpAny_pyIter_slot hm.ty F.slot_dict_iter (wpAny_call_entry F.slot_dict_iter hm.ty F.entry_dict_iter ?_ (F.args_dict_iter_1 _))
  unfold Builtin.«dict.__iter__»; refine wpAny_bind ?_; unfold Builtin.Dict.dictSlotNone; refine wpAny_bind (wpAny_notOrdered_dict hm.ty ?_)
  show wpAny _ _ (pure (Value.ref d)) _ _ s; refine wpAny_pure ?_; show wpAny _ _ (Builtin.Dict.showsAll d >>= _) _ _ s
  unfold Builtin.Dict.showsAll; rw [if_neg (by rw [hd]; exact Bool.false_ne_true)]
  refine wpAny_bind (wpAny_pure (wpAny_bind (wpAny_dictEntries g dt (wpAny_bind (wpAny_dictEpoch g dt ?_)))))
  refine wpAny_bind (wpAny_newObj_type (wpAny_pure ⟨_, rfl, "dict_keyiterator", _, ⟨_, Heap.get?_push_size _ rfl, rfl⟩, F.slot_dict_keyiterator_next.lookup, ?_⟩)); simpa [rawInt] using hQ
theorem raw_next {it d : Addr} {i ep : Nat} {es : Array DictEntry} {Q : Option Value → Shared → Prop} (hit : s.heap.IsKeyIter it d i es.size ep) (hm : RawD s.heap d es ep) (hlt : i < es.size)
    (hQ : ∀ h', h'.IsKeyIter it d (i + 1) es.size ep → Heap.SameBut it s.heap h' → Q (some es[i].key) { s with heap := h' }) : wpAny (model prog w) A (pyNext (.ref it)) Q E s := by
  obtain ⟨io, gi, ci, di⟩ := id hit
  obtain ⟨ob, g, c, dt⟩ := id hm
  unfold pyNext; refine wpAny_bind (wpAny_attempt (wpAny_callSpecial?_slot (name := Str.ofString "__next__") hit.typeIs F.slot_dict_keyiterator_next (wpAny_call_entry F.slot_dict_keyiterator_next hit.typeIs F.entry_dict_keyiterator_next ?_ (F.args_dict_keyiterator_next_1 _))))
  refine wpAny_bind (wpAny_pure (wpAny_bind (wpAny_bind ?_)))
  first | refine wpAny_bind (wpAny_typeNameOfWhole_keyiter hit.typeIs (wpAny_pure (wpAny_bind (wpAny_fieldsOf gi di ?_)))) | refine wpAny_bind (wpAny_typeNameOf_keyiter hit.typeIs (wpAny_pure (wpAny_bind (wpAny_fieldsOf gi di ?_))))
  simp only [show Builtin.Dict_items.ownsTuple "dict_keyiterator" = false from by decide, Bool.false_eq_true, if_false]
  show wpAny _ _ (if (Value.ref d == Value.none) = true then _ else _) _ _ s; rw [if_neg (show ¬ ((Value.ref d == Value.none) = true) from Bool.false_ne_true)]
  refine wpAny_bind (wpAny_pure (wpAny_bind (wpAny_dictEntries g dt ?_))); rw [if_neg (by simp)]
  refine wpAny_bind (wpAny_pure (wpAny_bind (wpAny_dictEpoch g dt ?_))); rw [if_neg (by simp)]; refine wpAny_pure ?_
  simp only [show ¬ ((i : Int) < 0) from by omega, if_false, Int.toNat_natCast, Array.getElem?_eq_getElem hlt]; refine wpAny_bind ?_
  first | refine wpAny_bind (wpAny_typeNameOfWhole_keyiter hit.typeIs (wpAny_pure (wpAny_bind (wpAny_isOneOf_keyiter hit.typeIs ?_)))) | refine wpAny_bind (wpAny_typeNameOf_keyiter hit.typeIs (wpAny_pure (wpAny_bind (wpAny_isOneOf_keyiter hit.typeIs ?_))))
  show wpAny _ _ (setField (.ref it) 1 (rawInt ((i : Int) + 1)) >>= _) _ _ s; refine wpAny_bind (wpAny_setField gi di (by simp) ?_)
  have nx : (s.heap.update it (Obj.mapFields (·.setIfInBounds 1 (rawInt ((i : Int) + 1))))).IsKeyIter it d (i + 1) es.size ep := ⟨_, Heap.get?_update_self _ gi (Obj.isFreed_of_fields (Obj.data_mapFields di _)), (Obj.cls_mapFields ..).trans ci, by rw [Obj.data_mapFields di]; simp [rawInt]⟩
  refine wpAny_bind (wpAny_holding (wpAny_bind (wpAny_isOneOf_keyiter (s := { s with heap := s.heap.update it (Obj.mapFields (·.setIfInBounds 1 (rawInt ((i : Int) + 1)))) }) nx.typeIs ?_)))
  show wpAny _ _ (pure es[i].key) _ _ _; exact wpAny_pure (wpAny_pure ⟨_, rfl, wpAny_pure (hQ _ nx (Heap.SameBut.update ..))⟩)
theorem raw_end {it d : Addr} {i ep : Nat} {es : Array DictEntry} {Q : Option Value → Shared → Prop} (hh : A.handled = none) (hit : s.heap.IsKeyIter it d i es.size ep) (hm : RawD s.heap d es ep) (hge : es.size ≤ i)
    (hQ : ∀ h', Heap.ExtBut it s.heap h' → Q none { s with heap := h' }) : wpAny (model prog w) A (pyNext (.ref it)) Q E s := by
  obtain ⟨io, gi, ci, di⟩ := id hit
  obtain ⟨ob, g, c, dt⟩ := id hm
  unfold pyNext; refine wpAny_bind (wpAny_attempt (wpAny_callSpecial?_slot (name := Str.ofString "__next__") hit.typeIs F.slot_dict_keyiterator_next (wpAny_call_entry F.slot_dict_keyiterator_next hit.typeIs F.entry_dict_keyiterator_next ?_ (F.args_dict_keyiterator_next_1 _))))
  refine wpAny_bind (wpAny_pure (wpAny_bind (wpAny_bind ?_)))
  first | refine wpAny_bind (wpAny_typeNameOfWhole_keyiter hit.typeIs (wpAny_pure (wpAny_bind (wpAny_fieldsOf gi di ?_)))) | refine wpAny_bind (wpAny_typeNameOf_keyiter hit.typeIs (wpAny_pure (wpAny_bind (wpAny_fieldsOf gi di ?_))))
  simp only [show Builtin.Dict_items.ownsTuple "dict_keyiterator" = false from by decide, Bool.false_eq_true, if_false]
  show wpAny _ _ (if (Value.ref d == Value.none) = true then _ else _) _ _ s; rw [if_neg (show ¬ ((Value.ref d == Value.none) = true) from Bool.false_ne_true)]
  refine wpAny_bind (wpAny_pure (wpAny_bind (wpAny_dictEntries g dt ?_))); rw [if_neg (by simp)]
  refine wpAny_bind (wpAny_pure (wpAny_bind (wpAny_dictEpoch g dt ?_))); rw [if_neg (by simp)]; refine wpAny_pure ?_
  simp only [show ¬ ((i : Int) < 0) from by omega, if_false, Int.toNat_natCast, Array.getElem?_eq_none hge]; refine wpAny_bind ?_
  first | refine wpAny_bind (wpAny_typeNameOfWhole_keyiter hit.typeIs (wpAny_pure ?_)) | refine wpAny_bind (wpAny_typeNameOf_keyiter hit.typeIs (wpAny_pure ?_))
  show wpAny _ _ (setField (.ref it) 0 .none >>= _) _ _ s; refine wpAny_bind (wpAny_setField gi di (by simp) ?_)
  show wpAny _ _ (newExc (.type "StopIteration") [] >>= _) _ _ _; refine wpAny_bind ?_; simp only [newExc, newTuple]; refine wpAny_bind (wpAny_newObj_type ?_ (by size_fits))
  refine wpAny_bind (m := firstArgMember _ _) (wpAny_of_eq (a := Value.none) (by first | rfl | (simp only [firstArgMember]; rfl)) (wpAny_newObj_type ?_ (by size_fits))); simp only [raiseNew]
  refine wpAny_bind (wpAny_handled ?_); rw [show A.in1.handled = none from hh]; refine wpAny_bind (wpAny_pure (wpAny_throw ?_))
  refine wpAny_bind (wpAny_isInstance (T := "StopIteration") (b := true) ⟨_, Heap.get?_push_size _ rfl, rfl⟩ isSubtype_stop (wpAny_pure (hQ _ (((Heap.SameBut.update ..).extBut.push _).push _))))
end
def NF (X : Cx) (d : Addr) : Prop := ∀ ob u, X.H₀ d ≠ some (.frz ob u)
section
variable {X : Cx} {pins : List (Addr × Obj)} {σ : St} {H : Hp} {s : Shared} {d : Addr}
theorem Inv.alter {o o' : HO} (I : Inv X pins σ H s) (e : H d = some o) (k1 : ∀ y, o ≠ .own y) (k2 : ∀ ys, o ≠ .tup ys) (k3 : ∀ ps, o ≠ .tbl ps) (k4 : (∀ ob u, o ≠ .frz ob u) ∨ NF X d) (new : ObjOk X.prog X.w (upd H d o') s.heap d o') :
    Inv X pins σ (upd H d o') s := by
  have nd : ∀ b, H b = none → upd H d o' b = none := fun b hb => by
    rw [upd_ne (fun z => by rw [z, e] at hb; cases hb)]; exact hb
  refine ⟨I.ok, I.os, I.bare, ⟨I.base.keep, I.base.slot, fun b ob g n x => nd b (I.base.free b ob g n x), I.base.there, fun b xs q => ?_, fun b ob u q => ?_, fun b ps q => ?_⟩, I.loc, I.cell, nd _ I.free, fun x c q => nd _ (I.freeC x c q), fun p hp => ?_, fun a oa ea => ?_, I.len⟩
  · have q' := I.base.tups b xs q
    rw [upd_ne (fun z => k2 xs (by rw [z, e] at q'; exact Option.some.inj q'))]; exact q'
  · have q' := I.base.frzs b ob u q
    refine (upd_ne fun z => ?_).trans q'
    rcases k4 with k4 | k4
    · exact k4 ob u (by rw [z, e] at q'; exact Option.some.inj q')
    · exact k4 ob u (by rw [← z]; exact q)
  · obtain ⟨more, q'⟩ := I.base.tbls b ps q
    exact ⟨more, by rw [upd_ne (fun z => k3 (ps ++ more) (by rw [z, e] at q'; exact Option.some.inj q'))]; exact q'⟩
  · obtain ⟨p1, p2, p3⟩ := I.pin p hp
    exact ⟨p1, nd _ p2, p3⟩
  · by_cases z : a = d
    · subst z
      rw [upd_same] at ea
      cases ea
      exact new
    · rw [upd_ne z] at ea
      exact (I.hok a oa ea).stay (fun _ _ _ g => g) (fun b hb => (upd_ne fun z => k1 a (by rw [z, e] at hb; exact Option.some.inj hb)).trans hb)
        fun b xs hb => (upd_ne fun z => k2 xs (by rw [z, e] at hb; exact Option.some.inj hb)).trans hb
theorem Inv.freeze {kvs : List (List Key × V)} (I : Inv X pins σ H s) (e : H d = some (.dT kvs)) {od : Obj} (g : s.heap.get? d = some od) : Inv X pins σ (upd H d (.frz od (.dT kvs))) s := by
  refine I.alter e (fun _ z => nomatch z) (fun _ z => nomatch z) (fun _ z => nomatch z) (.inl fun _ _ z => nomatch z) ⟨g, ?_⟩
  refine (I.hok d _ e).stay (fun _ _ _ q => q) (fun b hb => (upd_ne fun z => ?_).trans hb) fun b xs hb => (upd_ne fun z => ?_).trans hb
  · rw [z, e] at hb; cases hb
  · rw [z, e] at hb; cases hb
theorem Inv.thaw {kvs : List (List Key × V)} {od : Obj} (I : Inv X pins σ H s) (e : H d = some (.frz od (.dT kvs))) (nf : NF X d) : Inv X pins σ (upd H d (.dT kvs)) s := by
  refine I.alter e (fun _ z => nomatch z) (fun _ z => nomatch z) (fun _ z => nomatch z) (.inr nf) ?_
  refine ((I.hok d _ e).2).stay (fun _ _ _ q => q) (fun b hb => (upd_ne fun z => ?_).trans hb) fun b xs hb => (upd_ne fun z => ?_).trans hb
  · rw [z, e] at hb; cases hb
  · rw [z, e] at hb; cases hb
end
def Thw (X : Cx) (K : Hp → Prop) (H : Hp) : Prop := ∃ d od kvs, H d = some (.frz od (.dT kvs)) ∧ NF X d ∧ K (upd H d (.dT kvs))
theorem PS.thaw {X : Cx} {st : Stmt} {t : TS} (h : PS X st t) : PS X st (fun D σ H => t { nx := fun σ => Thw X (D.nx σ), rt := fun v => Thw X (D.rt v), bk := fun σ => Thw X (D.bk σ), ct := fun σ => Thw X (D.ct σ) } σ H) := fun pins s σ H D I q =>
  thn (h pins s σ H _ I q) fun f s1 z => by
    cases f with
    | next => obtain ⟨σ1, H1, I1, _, _, _, e1, nf, q1⟩ := z; exact ⟨σ1, _, I1.thaw e1 nf, q1⟩
    | brk => obtain ⟨σ1, H1, I1, _, _, _, e1, nf, q1⟩ := z; exact ⟨σ1, _, I1.thaw e1 nf, q1⟩
    | cont => obtain ⟨σ1, H1, I1, _, _, _, e1, nf, q1⟩ := z; exact ⟨σ1, _, I1.thaw e1 nf, q1⟩
    | ret u => obtain ⟨v, σ1, H1, I1, r, _, _, _, e1, nf, q1⟩ := z; exact ⟨v, σ1, _, I1.thaw e1 nf, r, q1⟩
def Itd (d : Addr) (od : Obj) (kvs : List (List Key × V)) : It :=
  ⟨fun i H => H d = some (.frz od (.dT kvs)) ∧ i < kvs.length, fun i H x H' => H' = H ∧ ∃ k v b, kvs[i]? = some (k, v) ∧ x = .ref b ∧ H b = some (.tup (k.map kV)), fun i H => H d = some (.frz od (.dT kvs)) ∧ kvs.length ≤ i⟩
theorem dt_raw {P : Program} {w : World} {H : Hp} {h : Heap} {d : Addr} {od : Obj} {kvs : List (List Key × V)} {es : Array DictEntry} {ep : Nat} (ok : ObjOk P w H h d (.frz od (.dT kvs))) (hdat : od.data = .dict es ep) :
    RawD h d es ep ∧ es.size = kvs.length ∧ ∀ (i : Nat) (k : List Key) (v : V), kvs[i]? = some (k, v) → ∃ b, (es[i]?).map DictEntry.key = some (Value.ref b) ∧ H b = some (.tup (k.map kV)) := by
  obtain ⟨g, _, _, xs, pr, o, es', ep', ho, hex, hd', hes, _⟩ := ok
  rw [g] at ho; cases ho
  rw [hdat] at hd'; cases hd'
  have hl : es.size = xs.length := by rw [← Array.length_toList, hes, List.length_map]
  refine ⟨⟨od, g, hex.1, hdat⟩, by rw [hl, ← Paired.length pr], fun i k v hk => ?_⟩
  have hx : ∀ {kvs : List (List Key × V)} {xs : List (List Key × Addr × Value)} {i : Nat}, Paired (fun (p : List Key × V) (q : List Key × Addr × Value) => p.1 = q.1 ∧ H q.2.1 = some (.tup (p.1.map kV)) ∧ RelV p.2 q.2.2) kvs xs → kvs[i]? = some (k, v) →
      ∃ q, xs[i]? = some q ∧ H q.2.1 = some (.tup (k.map kV)) := by
    intro kvs xs i pr
    induction pr generalizing i with
    | nil => intro z; simp at z
    | cons h _ ih =>
      intro z
      cases i with
      | zero => simp only [List.getElem?_cons_zero, Option.some.injEq] at z; subst z; exact ⟨_, rfl, h.2.1⟩
      | succ j => exact ih z
  obtain ⟨q, hq, hb⟩ := hx pr hk
  refine ⟨q.2.1, ?_, hb⟩
  rw [← Array.getElem?_toList, hes, List.getElem?_map, hq]; rfl
theorem turn_dict {P : Program} {w : World} {K : PySem.W.Frag} {tg : Expr} (d it : Addr) (od : Obj) (kvs : List (List Key × V)) (es : Array DictEntry) (ep : Nat) (hdat : od.data = .dict es ep) :
    Turn P w K tg (Itd d od kvs) [it] it (fun i h => h.IsKeyIter it d i es.size ep) where
  mem := by simp
  obj := fun i h st b hb => by
    cases (show b = it by simpa using hb)
    obtain ⟨o, e, c, dd⟩ := st
    exact ⟨o, e, fun v z => by rw [dd] at z; cases z⟩
  keep := fun i h h' st k => st.at fun o e => k it (by simp) o e
  item := by
    intro X hP hw hK hc i pins s σ H E I hf st hg
    subst hP hw hK
    obtain ⟨hd, hi⟩ := hg
    obtain ⟨raw, sz, key⟩ := dt_raw (I.hok d _ hd) hdat
    obtain ⟨f0, f1, f2, f3, f4, f5⟩ := hf it (by simp)
    obtain ⟨b, eb, hb⟩ := key i kvs[i].1 kvs[i].2 (List.getElem?_eq_getElem hi)
    have hlt : i < es.size := by omega
    rw [Array.getElem?_eq_getElem hlt] at eb
    have eb : es[i].key = .ref b := Option.some.inj eb
    refine raw_next st raw hlt fun h' st' sb => ?_
    have I1 : Inv X pins σ H { s with heap := h' } := I.turned (t' := s.toks) (fun b o hb e => (sb.2 b hb).trans e) f0 f1 f3 f4 f5
    obtain ⟨o, e, c, dd⟩ := id st'
    exact ⟨_, rfl, go_of (s := { s with heap := h' }) e c dd (by decide) ⟨.ref b, H, I1, eb, ⟨rfl, _, _, b, List.getElem?_eq_getElem hi, rfl, hb⟩, st', fun b hb => (hf b hb).1⟩⟩
  done := by
    intro X hP hw hK hc i pins s σ H E I hf st hg
    subst hP hw hK
    obtain ⟨hd, hi⟩ := hg
    obtain ⟨raw, sz, _⟩ := dt_raw (I.hok d _ hd) hdat
    obtain ⟨f0, f1, f2, f3, f4, f5⟩ := hf it (by simp)
    exact raw_end (I.ok.hd hc) st raw (by omega) fun h' eb => ⟨rfl, I.turned (t' := s.toks) (fun b o hb e => eb b o hb e) f0 f1 f3 f4 f5⟩
  self := fun _ _ _ _ _ st h => wpAny_pyIter_keyiter st h
def iDict (X : Cx) (tl : TE) : TI := fun σ H R => tl σ H fun x H1 => ∃ d kvs, x = .ref d ∧ H1 d = some (.dT kvs) ∧ ∀ od, NF X d → R (Itd d od kvs) (upd H1 d (.frz od (.dT kvs)))
theorem pi_dict {X : Cx} {tg l : Expr} {tl : TE} (hl : PE X l tl) : PI X tg l (iDict X tl) := by
  intro pins s σ H R I h
  refine thn (hl pins s σ H _ I h) fun v s1 ⟨x, H1, I1, r1, d, kvs, e, hd, q⟩ => ?_
  subst e
  cases r1
  obtain ⟨z, hsys, xs, pr, o, es, ep, ho, hex, hdat, hes, hnd⟩ := I1.hok d _ hd
  refine raw_iter hsys ⟨o, ho, hex.1, hdat⟩ ?_
  have I2 : Inv X pins σ H1 { s1 with heap := s1.heap.push { cls := .type "dict_keyiterator", data := .fields #[.ref d, .int 0 0, .int es.size 0, .int ep 0] } } := I1.kept (t' := s1.toks) fun b ob g => Heap.get?_push_of_some _ g
  refine ⟨s1.heap.objs.size, [s1.heap.objs.size], _, Itd d o kvs, _, rfl, I2.freeze hd (Heap.get?_push_of_some _ ho), turn_dict d _ o kvs es ep hdat, ⟨_, Heap.get?_push_size _ rfl, rfl, rfl⟩, fun b hb => ?_, q o fun ob u e0 => ?_⟩
  · cases (show b = s1.heap.objs.size by simpa using hb)
    have hn : H1 s1.heap.objs.size = none := I1.hok.fresh (Nat.le_refl _)
    exact I1.fpOk (Nat.le_refl _) (by rw [upd_ne (fun z => by rw [z, hd] at hn; cases hn)]; exact hn)
  · have := I1.base.frzs d ob u e0
    rw [hd] at this; cases this
theorem for_dict {d : Addr} {od : Obj} {kvs : List (List Key × V)} {g : TG} {tb : TS} {D : Ends} {σ : St} {H : Hp} (Pv : Nat → St → Hp → Prop) (h0 : Pv 0 σ H) (hl : ∀ i σ H, Pv i σ H → H d = some (.frz od (.dT kvs)))
    (hs : ∀ i k v b σ H, kvs[i]? = some (k, v) → H b = some (.tup (k.map kV)) → Pv i σ H → g (.ref b) σ H fun σ2 H2 => tb { D with nx := Pv (i + 1), ct := Pv (i + 1), bk := D.nx } σ2 H2) (hd : ∀ σ H, Pv kvs.length σ H → D.nx σ H) :
    ∃ W : Nat → Nat → St → Hp → Prop, (∃ m, W 0 m σ H) ∧ ∀ i m σ H, W i m σ H →
      ((Itd d od kvs).stop i H ∧ D.nx σ H) ∨ ((Itd d od kvs).go i H ∧ ∃ N : St → Hp → Prop, (∀ σ' H', N σ' H' → ∃ m', m' < m ∧ W (i + 1) m' σ' H') ∧ ∀ x H', (Itd d od kvs).yld i H x H' → g x σ H' fun σ2 H2 => tb { D with nx := N, ct := N, bk := D.nx } σ2 H2) := by
  refine ⟨fun i m σ H => m = kvs.length - i ∧ i ≤ kvs.length ∧ Pv i σ H, ⟨kvs.length, by simp, Nat.zero_le _, h0⟩, ?_⟩
  rintro i m σ H ⟨rfl, hi, p⟩
  by_cases hlt : i < kvs.length
  · refine .inr ⟨⟨hl i σ H p, hlt⟩, Pv (i + 1), fun σ' H' p' => ⟨kvs.length - (i + 1), by omega, rfl, hlt, p'⟩, fun x H' y => ?_⟩
    obtain ⟨e, k, v, b, hk, ex, hb⟩ := y
    subst e ex
    exact hs i k v b σ _ hk hb p
  · have e : i = kvs.length := by omega
    subst e
    exact .inl ⟨⟨hl _ σ H p, Nat.le_refl _⟩, hd σ H p⟩
theorem for_dict' {d : Addr} {od : Obj} {kvs : List (List Key × V)} {g : TG} {tb : TS} {D : Ends} {σ : St} {H : Hp} (Pv : Nat → St → Hp → Prop) (h0 : Pv 0 σ H) (hl : ∀ i σ H, Pv i σ H → H d = some (.frz od (.dT kvs)))
    (hs : ∀ i k v b σ H, kvs[i]? = some (k, v) → H b = some (.tup (k.map kV)) → Pv i σ H → ∀ D' : Ends, (∀ σ H, Pv (i + 1) σ H → D'.nx σ H) → g (.ref b) σ H fun σ2 H2 => tb D' σ2 H2) (hd : ∀ σ H, Pv kvs.length σ H → D.nx σ H) :
    ∃ W : Nat → Nat → St → Hp → Prop, (∃ m, W 0 m σ H) ∧ ∀ i m σ H, W i m σ H →
      ((Itd d od kvs).stop i H ∧ D.nx σ H) ∨ ((Itd d od kvs).go i H ∧ ∃ N : St → Hp → Prop, (∀ σ' H', N σ' H' → ∃ m', m' < m ∧ W (i + 1) m' σ' H') ∧ ∀ x H', (Itd d od kvs).yld i H x H' → g x σ H' fun σ2 H2 => tb { D with nx := N, ct := N, bk := D.nx } σ2 H2) :=
  for_dict Pv h0 hl (fun i k v b σ H e hb p => hs i k v b σ H e hb p _ fun _ _ h => h) hd
theorem lcS_dict {d D : Addr} {od : Obj} {kvs : List (List Key × V)} {st : TStp} {σ : St} {js : List Nat} {H1 : Hp} {R : Hp → Prop} (Pv : Nat → List V → Hp → Prop) (h0 : Pv 0 [] (upd H1 D (.lst []))) (hl : ∀ i ys H, Pv i ys H → H d = some (.frz od (.dT kvs)))
    (hs : ∀ i k v b ys H, kvs[i]? = some (k, v) → H b = some (.tup (k.map kV)) → Pv i ys H → st (lcSt σ js (some (.ref b))) H (LcEnd D (kvs.length - i) (fun m' H => m' = kvs.length - (i + 1) ∧ i + 1 ≤ kvs.length ∧ ∃ ys, Pv (i + 1) ys H))) (hd : ∀ ys H, Pv kvs.length ys H → R H) :
    ∃ W : Nat → Nat → Hp → Prop, (∃ m, W 0 m (upd H1 D (.lst []))) ∧ ∀ i m H2, W i m H2 → ((Itd d od kvs).stop i H2 ∧ R H2) ∨ ((Itd d od kvs).go i H2 ∧ ∀ y H3, (Itd d od kvs).yld i H2 y H3 → st (lcSt σ js (some y)) H3 (LcEnd D m (W (i + 1)))) := by
  refine ⟨fun i m H => m = kvs.length - i ∧ i ≤ kvs.length ∧ ∃ ys, Pv i ys H, ⟨kvs.length, by simp, Nat.zero_le _, [], h0⟩, ?_⟩
  rintro i m H ⟨rfl, hi, ys, p⟩
  by_cases hlt : i < kvs.length
  · refine .inr ⟨⟨hl i ys H p, hlt⟩, fun x H' y => ?_⟩
    obtain ⟨e, k, v, b, hk, ex, hb⟩ := y
    subst e ex
    exact hs i k v b ys _ hk hb p
  · have e : i = kvs.length := by omega
    subst e
    exact .inl ⟨⟨hl _ ys H p, Nat.le_refl _⟩, hd ys H p⟩
end L2

set_option Elab.async false
set_option linter.all false
set_option maxRecDepth 100000
namespace L2
open PySem PySem.Spec PyProof.Rows
structure Dm (K : PySem.W.Frag) (C : Addr) (x qual : Str) (st : Stmt) (f : Addr) (fd : FuncData) (ps : List Str) : Prop where
  F : Fun K x qual st f fd
  h : Meth K C x f
  b : Binds K fd ps []
theorem dm_mk {K : PySem.W.Frag} {C : Addr} {x qual : Str} {st : Stmt} {f : Addr} {ps : List Str} {kV doc pm cdv ct : Value} {an : Option Addr}
    (F : Fun K x qual st f (PySem.W.fnOf x qual (defArgs st) (defBody st) (defScope st) .none kV doc pm an cdv ct)) (e : PySem.W.findIn K (.ref C) x = some (some (.ref f))) (i : PySem.W.isFn K (.ref f) = true)
    (h : ∀ (kV doc pm : Value) (an : Option Addr) (cdv ct : Value) (us : List Value), us.length = ps.length → bindArgs (PySem.W.fnOf x qual (defArgs st) (defBody st) (defScope st) .none kV doc pm an cdv ct) ⟨us, []⟩ = pure (ps.zip us)) :
    Dm K C x qual st f (PySem.W.fnOf x qual (defArgs st) (defBody st) (defScope st) .none kV doc pm an cdv ct) ps := ⟨F, ⟨e, i, F.kp⟩, F.binds h⟩
section
variable {X : Cx} {k : Nat} {f C : Addr} {fd : FuncData} {ps : List Str} {sp : Sp} {x qual : Str} {st : Stmt} {p pos pos' apos : Pos} {o e : Expr} {es : List Expr} {t : TA} {ta : TE} {m : Str}
theorem pmake (hm : X.mg x = some (.ref C)) (M : Mk X.K C f) (D : Dm X.K C m qual st f fd ps) (F : FnOk X.prog X.w X.K X.mg X.base CX0 k f fd ps sp) (hr : Room (k + 1) X.A) (ha : PA X (e :: es) t) (hg : Gl X x := by rfl)
    (hdb : (x == ("__debug__" : Str)) = false := by decide) (he : starEach (e :: es) X.env = (false, eval e X.env) :: starEach es X.env := by rfl) (hpl : (backTo pos (starEach es X.env)).any (·.1) = false := by rfl) :
    PE X (.Call (.Name x p) (e :: es) [] pos) (tMake C sp [] E0 t) := pe_make M F hr hg hm D.b .nil pass0 ha hdb he hpl
theorem pmeth0 {pl : Sem Bool} (c : Cls X.K C) (D : Dm X.K C m qual st f fd ps) (F : FnOk X.prog X.w X.K X.mg X.base CX0 k f fd ps sp) (hr : Room k X.A) (he : PE X o ta)
    (ht : eval (.Call (.Attribute o m apos) [] [] pos) X.env = (eval o X.env >>= fun ov => standAt apos.atName >>= fun _ => holding [ov] (getMethod ov m pl) >>= fun z => callWith pos z.1 z.2 (backTo pos (starEach [] X.env)) (backToKw pos (keywordEach [] X.env))) := by rfl) :
    PE X (.Call (.Attribute o m apos) [] [] pos) (tMeth C m sp [] E0 ta tNil) := pe_meth0 he c D.h F hr D.b .nil pass0 ht
end
end L2

namespace Rg
open Sev
def figs : List Int := [0, 1, 2, 3, 4, 5, 6]
theorem mem_figs {f : Int} : f ∈ figs ↔ Fig f := by
  simp only [figs, Fig, List.mem_cons, List.not_mem_nil, or_false]
  omega
def longer (xss : List (List Int)) : List (List Int) := xss.flatMap fun xs => figs.map fun f => xs ++ [f]
def lns : Nat → List Int → List (List Int)
  | 0, xs => [xs]
  | n + 1, xs => longer (lns n xs)
theorem mem_longer {xss : List (List Int)} {ys : List Int} : ys ∈ longer xss ↔ ∃ xs ∈ xss, ∃ f, Fig f ∧ ys = xs ++ [f] := by
  simp only [longer, List.mem_flatMap, List.mem_map, mem_figs]
  constructor
  · rintro ⟨xs, h, f, hf, rfl⟩; exact ⟨xs, h, f, hf, rfl⟩
  · rintro ⟨xs, h, f, hf, rfl⟩; exact ⟨xs, h, f, hf, rfl⟩
theorem mem_lns : ∀ {n : Nat} {xs ys : List Int}, ys ∈ lns n xs ↔ ∃ t, ys = xs ++ t ∧ t.length = n ∧ ∀ f ∈ t, Fig f
  | 0, xs, ys => by
    simp only [lns, List.mem_singleton]
    constructor
    · rintro rfl; exact ⟨[], by simp, rfl, by simp⟩
    · rintro ⟨t, rfl, ht, _⟩
      have : t = [] := List.length_eq_zero_iff.mp ht
      subst this; simp
  | n + 1, xs, ys => by
    simp only [lns, mem_longer, mem_lns (n := n)]
    constructor
    · rintro ⟨_, ⟨t, rfl, ht, hf⟩, f, hfig, rfl⟩
      refine ⟨t ++ [f], by simp, by simp [ht], fun g hg => ?_⟩
      rcases List.mem_append.mp hg with hg | hg
      · exact hf g hg
      · rw [List.mem_singleton.mp hg]; exact hfig
    · rintro ⟨t, rfl, ht, hf⟩
      have hne : t ≠ [] := fun z => by rw [z] at ht; simp at ht
      refine ⟨xs ++ t.dropLast, ⟨t.dropLast, rfl, by rw [List.length_dropLast]; omega, fun g hg => hf g ((List.dropLast_sublist t).subset hg)⟩, t.getLast hne, hf _ (List.getLast_mem hne), ?_⟩
      rw [List.append_assoc, List.dropLast_concat_getLast hne]
theorem len_longer (xss : List (List Int)) : (longer xss).length = 7 * xss.length := by
  induction xss with
  | nil => rfl
  | cons x r ih =>
    show (((figs.map fun f => x ++ [f]) ++ longer r)).length = _
    rw [List.length_append, ih, List.length_map]
    simp [figs]; omega
theorem len_lns : ∀ (n : Nat) (xs : List Int), (lns n xs).length = 7 ^ n
  | 0, _ => rfl
  | n + 1, xs => by rw [lns, len_longer, len_lns n xs, Nat.pow_succ, Nat.mul_comm]
theorem lns_len {n : Nat} {xs ys : List Int} (h : ys ∈ lns n xs) : ys.length = xs.length + n := by
  obtain ⟨t, rfl, ht, _⟩ := mem_lns.mp h
  rw [List.length_append, ht]
def put (LL : List (List Int)) (x : List Int) : List (List Int) := if x ∈ LL then LL else LL ++ [x]
def puts (LL xs : List (List Int)) : List (List Int) := xs.foldl put LL
theorem put_nodup {LL : List (List Int)} (h : LL.Nodup) (x : List Int) : (put LL x).Nodup := by
  unfold put
  split
  · exact h
  · rename_i hx
    rw [List.nodup_append]
    refine ⟨h, by simp, ?_⟩
    intro a ha b hb
    rw [List.mem_singleton.mp hb]
    intro z; subst z; exact hx ha
theorem mem_put {LL : List (List Int)} {x y : List Int} : y ∈ put LL x ↔ y ∈ LL ∨ y = x := by
  unfold put
  split
  · constructor
    · exact .inl
    · rintro (h | h)
      · exact h
      · rw [h]; assumption
  · simp
theorem put_len (LL : List (List Int)) (x : List Int) : (put LL x).length ≤ LL.length + 1 := by
  unfold put
  split <;> simp
theorem puts_nodup : ∀ {xs LL : List (List Int)}, LL.Nodup → (puts LL xs).Nodup
  | [], _, h => h
  | x :: r, LL, h => puts_nodup (xs := r) (put_nodup h x)
theorem mem_puts : ∀ {xs LL : List (List Int)} {y : List Int}, y ∈ puts LL xs ↔ y ∈ LL ∨ y ∈ xs
  | [], LL, y => by simp [puts]
  | x :: r, LL, y => by
    have := mem_puts (xs := r) (LL := put LL x) (y := y)
    rw [mem_put] at this
    show y ∈ puts (put LL x) r ↔ _
    rw [this, List.mem_cons, or_assoc]
theorem puts_len : ∀ (xs LL : List (List Int)), (puts LL xs).length ≤ LL.length + xs.length
  | [], LL => by simp [puts]
  | x :: r, LL => by
    have h1 := puts_len r (put LL x)
    have h2 := put_len LL x
    show (puts (put LL x) r).length ≤ _
    rw [List.length_cons]
    omega
theorem puts_snoc (LL xs : List (List Int)) (x : List Int) : puts LL (xs ++ [x]) = put (puts LL xs) x := by simp [puts, List.foldl_append]
theorem take_snoc {α : Type} {xs : List α} {i : Nat} {x : α} (h : xs[i]? = some x) : xs.take (i + 1) = xs.take i ++ [x] := by
  rw [List.take_add_one, h]; rfl
def lall (lv : Nat) (xss : List (List Int)) : List (List Int) := puts [] ((puts [] xss).flatMap fun xs => lns (lv - xs.length) xs)
theorem lall_nodup (lv : Nat) (xss : List (List Int)) : (lall lv xss).Nodup := puts_nodup (by simp)
theorem mem_lall {lv : Nat} {xss : List (List Int)} {ys : List Int} : ys ∈ lall lv xss ↔ ∃ xs ∈ xss, ys ∈ lns (lv - xs.length) xs := by
  unfold lall
  rw [mem_puts]
  simp only [List.not_mem_nil, false_or, List.mem_flatMap, mem_puts]
theorem flat_len {lv : Nat} (hl : lv ≤ 4) : ∀ xss : List (List Int), (xss.flatMap fun xs => lns (lv - xs.length) xs).length ≤ 2401 * xss.length
  | [] => by simp
  | x :: r => by
    rw [List.flatMap_cons, List.length_append, len_lns, List.length_cons]
    have h := flat_len hl r
    have : 7 ^ (lv - x.length) ≤ 7 ^ 4 := Nat.pow_le_pow_right (by decide) (by omega)
    have e : (7 : Nat) ^ 4 = 2401 := by decide
    omega
end Rg

set_option Elab.async false
set_option linter.all false
set_option maxRecDepth 100000
namespace L2
open PySem PySem.Spec PyProof.Rows
section
variable {X : Cx}
theorem op_catTT : OpR X (binaryOp .Add) (fun x y H Q => ∃ a b xs ys, x = .ref a ∧ y = .ref b ∧ SqT X.K H a xs ∧ H b = some (.tup ys) ∧ ys ≠ [] ∧ xs.length + ys.length ≤ sizeLine ∧ ∀ p H', Same H H' → H' p = some (.tup (xs ++ ys)) → Q (.ref p) H') := by
  intro pins s σ H x y v u Q I rx ry h
  obtain ⟨a, b, xs, ys, rfl, rfl, ha, hb, hy, hz, q⟩ := h
  by_cases hx : xs = []
  · subst hx
    cases rx
    cases ry
    obtain ⟨its, r1, p1, _⟩ := I.tuple ha
    obtain ⟨its2, r2, p2, _⟩ := I.tuple (SqT.of hb)
    have e1 : its = [] := by cases r1; rfl
    subst e1
    obtain ⟨⟨c1, d1, t1, l1⟩, g1, k1, n1, m1⟩ := id p1
    obtain ⟨⟨c2, d2, t2, l2⟩, g2, k2, n2, m2⟩ := id p2
    simp only at k1 m1 k2 m2
    subst k1 m1 k2 m2
    exact concat_meets ⟨_, g1, rfl⟩ ⟨_, g2, rfl⟩ noFill_tuple_add seq_tuple_add PySem.F.slot_tuple_add PySem.F.entry_tuple_add (PySem.F.args_tuple_add_2 _ _)
      (tuple_addW0 a b _ _ n1 n2 d1 d2 l1 l2 rfl) ⟨g1, g2, .ref b, H, I, rfl, q b H (Same.refl _) (by simpa using hb)⟩
  · exact op_catT pins s σ H _ _ v u Q I rx ry ⟨a, b, xs, ys, rfl, rfl, ha, SqT.of hb, hx, hz, fun z => absurd z hy, fun _ p hp => q p _ (same_upd hp) upd_same⟩
def iSeq (K : PySem.W.Frag) (tl : TE) : TI := fun σ H R => tl σ H fun x H1 => ∃ a, x = .ref a ∧ (((∃ xs, SqL K H1 a xs) ∧ R (Itl K a) H1) ∨ ((∃ xs, SqT K H1 a xs) ∧ R (Itt K a) H1))
theorem pi_seq {tg l : Expr} {tl : TE} (hl : PE X l tl) : PI X tg l (iSeq X.K tl) := by
  intro pins s σ H R I h
  refine thn (hl pins s σ H _ I h) fun v s1 ⟨x, H1, I1, r1, q1⟩ => ?_
  obtain ⟨a, e, q⟩ := q1
  subst e
  cases r1
  rcases q with ⟨⟨xs, hq⟩, q⟩ | ⟨⟨xs, hq⟩, q⟩
  · obtain ⟨its, rv, p, hz⟩ := I1.list hq
    refine wpAny_pyIter_list p.isList ⟨s1.heap.objs.size, [s1.heap.objs.size], _, _, H1, rfl, I1.kept (t' := s1.toks) fun b o e => Heap.get?_push_of_some _ e, turn_list a _, ⟨_, Heap.get?_push_size _ rfl, rfl, rfl⟩, fun b hb => ?_, q⟩
    cases (show b = s1.heap.objs.size by simpa using hb)
    exact I1.fpOk (Nat.le_refl _) (I1.hok.fresh (Nat.le_refl _))
  · obtain ⟨its, rv, p, hz⟩ := I1.tuple hq
    refine wpAny_pyIter_tuple p ⟨s1.heap.objs.size, [s1.heap.objs.size], _, _, H1, rfl, I1.kept (t' := s1.toks) fun b o e => Heap.get?_push_of_some _ e, turn_tuple a _, ⟨_, Heap.get?_push_size _ rfl, rfl, rfl⟩, fun b hb => ?_, q⟩
    cases (show b = s1.heap.objs.size by simpa using hb)
    exact I1.fpOk (Nat.le_refl _) (I1.hok.fresh (Nat.le_refl _))
end
def Sq (K : PySem.W.Frag) (H : Hp) (a : Addr) (xs : List Int) : Prop := SqL K H a (List.map V.int xs) ∨ SqT K H a (List.map V.int xs)
def Tups (H : Hp) : List V → List (List Int) → Prop := Paired fun v xs => ∃ a, v = .ref a ∧ H a = some (.tup (List.map V.int xs))
theorem Tups.keep {H H' : Hp} (s : Same H H') : ∀ {us : List V} {xss : List (List Int)}, Tups H us xss → Tups H' us xss
  | _, _, .nil => .nil
  | _, _, .cons ⟨a, e, h⟩ r => .cons ⟨a, e, s _ _ h⟩ (Tups.keep s r)
theorem Tups.len {H : Hp} {us : List V} {xss : List (List Int)} (h : Tups H us xss) : us.length = xss.length := Paired.length h
theorem Tups.snoc {H : Hp} : ∀ {us : List V} {xss : List (List Int)} {a : Addr} {xs : List Int}, Tups H us xss → H a = some (.tup (List.map V.int xs)) → Tups H (us ++ [.ref a]) (xss ++ [xs])
  | _, _, a, xs, .nil, h => .cons ⟨a, rfl, h⟩ .nil
  | _, _, _, _, .cons p r, h => .cons p (Tups.snoc r h)
theorem Tups.get {H : Hp} : ∀ {us : List V} {xss : List (List Int)} {i : Nat} {u : V}, Tups H us xss → us[i]? = some u → ∃ a xs, u = .ref a ∧ xss[i]? = some xs ∧ H a = some (.tup (List.map V.int xs))
  | _, _, 0, _, .cons ⟨a, e, h⟩ _, hu => by cases hu; exact ⟨a, _, e, rfl, h⟩
  | _, _, i + 1, _, .cons _ r, hu => Tups.get (i := i) r hu
theorem Tups.upd {H : Hp} {p : Addr} {o : HO} (hp : ∀ ys, H p ≠ some (.tup ys)) : ∀ {us : List V} {xss : List (List Int)}, Tups H us xss → Tups (L2.upd H p o) us xss
  | _, _, .nil => .nil
  | _, _, .cons ⟨a, e, h⟩ r => .cons ⟨a, e, by rw [upd_ne (fun z => hp _ (by rw [← z]; exact h))]; exact h⟩ (Tups.upd hp r)
theorem RowsV.len {K : PySem.W.Frag} {H : Hp} {us : List V} {xss : List (List Int)} (h : RowsV K H us xss) : us.length = xss.length := Paired.length h
theorem RowsV.get {K : PySem.W.Frag} {H : Hp} : ∀ {us : List V} {xss : List (List Int)} {i : Nat} {u : V}, RowsV K H us xss → us[i]? = some u → ∃ a xs, u = .ref a ∧ xss[i]? = some xs ∧ SqL K H a (List.map V.int xs)
  | _, _, 0, _, .cons ⟨a, e, h⟩ _, hu => by cases hu; exact ⟨a, _, e, rfl, h⟩
  | _, _, i + 1, _, .cons _ r, hu => RowsV.get (i := i) r hu
theorem SqL.upd_ins {K : PySem.W.Frag} {H : Hp} {p a : Addr} {o : HO} {xs : List V} (hp : ∀ ys, ¬ Rd H p (.lst ys)) (h : SqL K H a xs) : SqL K (L2.upd H p o) a xs := by
  rcases h with (h | ⟨ob, h⟩) | h
  · exact .inl (.inl (by rw [upd_ne (fun z => hp xs (.inl (by rw [← z]; exact h)))]; exact h))
  · exact .inl (.inr ⟨ob, by rw [upd_ne (fun z => hp xs (.inr ⟨ob, by rw [← z]; exact h⟩))]; exact h⟩)
  · exact .inr h
theorem RowsV.upd_ins {K : PySem.W.Frag} {H : Hp} {p : Addr} {o : HO} (hp : ∀ ys, ¬ Rd H p (.lst ys)) : ∀ {us : List V} {xss : List (List Int)}, RowsV K H us xss → RowsV K (L2.upd H p o) us xss
  | _, _, .nil => .nil
  | _, _, .cons ⟨a, e, h⟩ r => .cons ⟨a, e, h.upd_ins hp⟩ (RowsV.upd_ins hp r)
def kk (xs : List Int) : List Key := xs.map Sum.inl
theorem kk_kV (xs : List Int) : (kk xs).map kV = List.map V.int xs := by unfold kk; rw [List.map_map]; rfl
theorem kk_inj {xs ys : List Int} (h : kk xs = kk ys) : xs = ys := by
  induction xs generalizing ys with
  | nil => cases ys with
    | nil => rfl
    | cons y r => cases h
  | cons x r ih => cases ys with
    | nil => cases h
    | cons y q =>
      unfold kk at h
      rw [List.map_cons, List.map_cons, List.cons.injEq] at h
      rw [Sum.inl.inj h.1, ih h.2]
def dset (LL : List (List Int)) : List (List Key × V) := LL.map fun xs => (kk xs, V.bl true)
theorem dset_val (LL : List (List Int)) (xs : List Int) : valV (dset LL) (kk xs) = if xs ∈ LL then some (.bl true) else none := by
  induction LL with
  | nil => rfl
  | cons y r ih =>
    by_cases h : y = xs
    · subst h
      rw [if_pos (by simp)]
      exact valV_pos rfl
    · have hk : ¬ kk y = kk xs := fun z => h (kk_inj z)
      show valV ((kk y, V.bl true) :: dset r) (kk xs) = _
      rw [valV_neg hk, ih]
      by_cases hx : xs ∈ r
      · rw [if_pos hx, if_pos (by simp [hx])]
      · rw [if_neg hx, if_neg (by simp [hx]; exact fun z => h z.symm)]
theorem dset_put (LL : List (List Int)) (xs : List Int) : putK (dset LL) (kk xs) (.bl true) = dset (Rg.put LL xs) := by
  have e := dset_val LL xs
  unfold Rg.put
  by_cases h : xs ∈ LL
  · rw [if_pos h]
    have hany : ((dset LL).any fun kv => decide (kv.1 = kk xs)) = true := by
      rw [valV_any, e, if_pos h]; rfl
    unfold putK
    rw [if_pos hany]
    unfold dset
    rw [List.map_map]
    apply List.map_congr_left
    intro y _
    simp only [Function.comp]
    split <;> rfl
  · rw [if_neg h]
    rw [if_neg h] at e
    rw [putK_new _ e]
    unfold dset
    rw [List.map_append]; rfl
theorem dset_len (LL : List (List Int)) : (dset LL).length = LL.length := by unfold dset; rw [List.length_map]
theorem dset_get {LL : List (List Int)} {i : Nat} {k : List Key} {v : V} (h : (dset LL)[i]? = some (k, v)) : ∃ xs, LL[i]? = some xs ∧ k = kk xs ∧ v = .bl true := by
  unfold dset at h
  rw [List.getElem?_map] at h
  obtain ⟨xs, e, h⟩ := Option.map_eq_some_iff.mp h
  cases h
  exact ⟨xs, e, rfl, rfl⟩
end L2

set_option Elab.async false
set_option linter.all false
set_option maxRecDepth 100000
namespace L2
open PySem PySem.Spec PyProof.Rows
section
variable {prog : Program} {w : World} {A : Around} {R : Result → Shared → Prop} {I : Addr} {fp wr : List Addr} {n : Nat} {P : Nat → Value → Prop} {St : Nat → Heap → Prop}
theorem maxD_turn (W : Walks prog w A.in1 I fp wr n P St) (bt : Nat → Nat → Bool) (hcmp : CmpOf prog w A.in1 .Gt P bt) (S : Addr) (hSf : S ∉ fp) (kw : List (Str × Value)) :
    ∀ (k j : Nat) (s : Shared) (vb : Value) (c : Nat), n - (j + 1) = k → j + 1 ≤ n → St (j + 1) s.heap → P (argBest bt j) vb → s.heap.get? S = some { cls := .type "list", data := .seq #[vb, vb] c } →
    (∀ v h' tk, P (argBest bt (n - 1)) v → (∀ b o, b ∉ S :: wr → s.heap.get? b = some o → h'.get? b = some o) → R (.ok (.ret v)) { s with heap := h', toks := tk }) → codeAny (model prog w) A (.builtin "max.loop" ⟨[.ref I, .none, .ref S], kw⟩) R s := by
  have sw : S ∉ wr := fun z => hSf (W.sub _ z)
  have nm : (toString "max" ++ toString ".loop" : String) = "max.loop" := by decide
  have ns : ∀ {b : Addr}, b ∉ S :: wr → S ≠ b := fun hb z => hb (by rw [z]; exact List.mem_cons_self)
  have nw : ∀ {b : Addr}, b ∉ S :: wr → b ∉ wr := fun hb z => hb (List.mem_cons_of_mem _ z)
  intro k
  induction k with
  | zero =>
    intro j s vb c hk hj hst hPb gS hR
    have jn : j + 1 = n := by omega
    refine codeAny_builtin F.entry_max_loop ?_; rw [Around.under_plainId F.plain_max_loop _]; show wpAny _ A.in1 (seqItems? (.ref S) >>= _) _ _ s; refine wpAny_bind (wpAny_seqItems gS rfl ?_)
    show wpAny _ A.in1 (tryCatch (pyNext (.ref I)) _ >>= _) _ _ s; refine wpAny_bind (wpAny_tryCatch (W.done s _ _ (jn ▸ hst) fun h1 tk hm => ?_))
    show wpAny _ A.in1 (updateSeq S (fun _ => #[]) >>= _) _ _ _; refine wpAny_bind (wpAny_updateSeq (hm S _ sw gS) rfl (wpAny_bind (wpAny_letGo (wpAny_pure ?_))))
    exact hR vb _ _ (by rw [← jn]; exact hPb) fun b o hb e => (Heap.get?_update_other _ _ (ns hb)).trans (hm b o (nw hb) e)
  | succ k ih =>
    intro j s vb c hk hj hst hPb gS hR
    have jl : j + 1 < n := by omega
    refine codeAny_builtin F.entry_max_loop ?_; rw [Around.under_plainId F.plain_max_loop _]; show wpAny _ A.in1 (seqItems? (.ref S) >>= _) _ _ s; refine wpAny_bind (wpAny_seqItems gS rfl ?_)
    show wpAny _ A.in1 (tryCatch (pyNext (.ref I)) _ >>= _) _ _ s; refine wpAny_bind (wpAny_tryCatch (W.item (j + 1) s _ _ jl hst fun v h1 tk hP hst1 hm => ?_))
    have gS1 := hm S _ sw gS
    show wpAny _ A.in1 (tryCatch (holding [v, v] (richCompare .Gt v vb >>= _)) _ >>= _) _ _ _; refine wpAny_bind (wpAny_tryCatch (wpAny_holding (wpAny_bind (hcmp (j + 1) (argBest bt j) v vb _ _ _ hP hPb ?_)))); refine wpAny_bind (wpAny_holding (wpAny_truthy_bool ?_)); refine wpAny_bind (wpAny_letGo (wpAny_pure ?_))
    cases hb : bt (j + 1) (argBest bt j) with
    | true =>
      simp only [if_true]; refine wpAny_bind (wpAny_updateSeq gS1 rfl (wpAny_bind (wpAny_letGo ?_))); rw [nm]
      refine wpAny_pure ⟨plainId_quiet F.plain_max_loop _, ih (j + 1) _ v _ (by omega) jl (W.frame _ _ _ hst1 fun b hbf o e => (Heap.get?_update_other _ _ (fun z : S = b => hSf (by rw [z]; exact hbf))).trans e) (by simp only [argBest, hb, if_true]; exact hP) (Heap.get?_update_self _ gS1 rfl) fun v2 h2 tk2 hP2 hm2 => ?_⟩
      exact hR v2 h2 tk2 hP2 fun b o hb e => hm2 b o hb ((Heap.get?_update_other _ _ (ns hb)).trans (hm b o (nw hb) e))
    | false =>
      simp only [Bool.false_eq_true, if_false]; refine wpAny_bind (wpAny_letGo ?_); rw [nm]
      exact wpAny_pure ⟨plainId_quiet F.plain_max_loop _, ih (j + 1) _ vb c (by omega) jl hst1 (by simp only [argBest, hb, Bool.false_eq_true, if_false]; exact hPb) gS1 fun v2 h2 tk2 hP2 hm2 => hR v2 h2 tk2 hP2 fun b o hb e => hm2 b o hb (hm b o (nw hb) e)⟩
theorem maxD_first (W : Walks prog w A.in1 I fp wr n P St) (bt : Nat → Nat → Bool) (hcmp : CmpOf prog w A.in1 .Gt P bt) (S : Addr) (hSf : S ∉ fp) (x : Str) (d : Value) {s : Shared} {c : Nat} (hst : St 0 s.heap) (gS : s.heap.get? S = some { cls := .type "list", data := .seq #[] c })
    (h0 : n = 0 → ∀ h' tk, (∀ b o, b ∉ S :: wr → s.heap.get? b = some o → h'.get? b = some o) → R (.ok (.ret d)) { s with heap := h', toks := tk })
    (hR : 0 < n → ∀ v h' tk, P (argBest bt (n - 1)) v → (∀ b o, b ∉ S :: wr → s.heap.get? b = some o → h'.get? b = some o) → R (.ok (.ret v)) { s with heap := h', toks := tk }) :
    codeAny (model prog w) A (.builtin "max.loop" ⟨[.ref I, .none, .ref S], [(x, d)]⟩) R s := by
  have sw : S ∉ wr := fun z => hSf (W.sub _ z)
  have nm : (toString "max" ++ toString ".loop" : String) = "max.loop" := by decide
  have ns : ∀ {b : Addr}, b ∉ S :: wr → S ≠ b := fun hb z => hb (by rw [z]; exact List.mem_cons_self)
  have nw : ∀ {b : Addr}, b ∉ S :: wr → b ∉ wr := fun hb z => hb (List.mem_cons_of_mem _ z)
  refine codeAny_builtin F.entry_max_loop ?_; rw [Around.under_plainId F.plain_max_loop _]; show wpAny _ A.in1 (seqItems? (.ref S) >>= _) _ _ s; refine wpAny_bind (wpAny_seqItems gS rfl ?_)
  show wpAny _ A.in1 (tryCatch (pyNext (.ref I)) _ >>= _) _ _ s
  by_cases hn : n = 0
  · subst hn
    refine wpAny_bind (wpAny_tryCatch (W.done s _ _ hst fun h1 tk hm => ?_))
    show wpAny _ A.in1 (rule _ >>= _) _ _ _
    exact wpAny_bind (wpAny_rule (wpAny_pure (h0 rfl h1 tk fun b o hb e => hm b o (nw hb) e)))
  · refine wpAny_bind (wpAny_tryCatch (W.item 0 s _ _ (by omega) hst fun v h1 tk hP hst1 hm => ?_))
    have gS1 := hm S _ sw gS
    show wpAny _ A.in1 (updateSeq S (fun _ => #[v, v]) >>= _) _ _ _; refine wpAny_bind (wpAny_updateSeq gS1 rfl ?_); rw [nm]
    refine wpAny_pure ⟨plainId_quiet F.plain_max_loop _, maxD_turn W bt hcmp S hSf _ _ 0 _ v _ rfl (by omega) (W.frame _ _ _ hst1 fun b hbf o e => (Heap.get?_update_other _ _ (fun z : S = b => hSf (by rw [z]; exact hbf))).trans e) hP (Heap.get?_update_self _ gS1 rfl) fun v2 h2 tk2 hP2 hm2 => ?_⟩
    exact hR (by omega) v2 h2 tk2 hP2 fun b o hb e => hm2 b o hb ((Heap.get?_update_other _ _ (ns hb)).trans (hm b o (nw hb) e))
end
def maxOf (ns : List Int) (d : Int) : Int := match ns with
  | [] => d
  | n :: r => r.foldl max n
theorem foldl_max_le (r : List Int) : ∀ n : Int, n ≤ r.foldl max n ∧ (∀ a ∈ r, a ≤ r.foldl max n) ∧ (r.foldl max n = n ∨ r.foldl max n ∈ r) := by
  induction r with
  | nil => intro n; exact ⟨Int.le_refl _, fun a ha => (List.not_mem_nil ha).elim, .inl rfl⟩
  | cons a r ih =>
    intro n
    obtain ⟨h1, h2, h3⟩ := ih (max n a)
    have l1 : n ≤ max n a := by omega
    have l2 : a ≤ max n a := by omega
    refine ⟨Int.le_trans l1 h1, fun b hb => ?_, ?_⟩
    · rcases List.mem_cons.mp hb with rfl | hb
      · exact Int.le_trans l2 h1
      · exact h2 b hb
    · rw [List.foldl_cons]
      rcases h3 with h3 | h3
      · rw [h3]
        rcases Int.le_total n a with z | z
        · right; rw [Int.max_eq_right z]; exact List.mem_cons_self
        · left; exact Int.max_eq_left z
      · exact .inr (List.mem_cons_of_mem _ h3)
theorem maxOf_is {ns : List Int} {d M : Int} (hm : M ∈ ns) (hl : ∀ a ∈ ns, a ≤ M) : maxOf ns d = M := by
  cases ns with
  | nil => cases hm
  | cons n r =>
    obtain ⟨h1, h2, h3⟩ := foldl_max_le r n
    have a1 : maxOf (n :: r) d ≤ M := by
      show r.foldl max n ≤ M
      rcases h3 with h3 | h3
      · rw [h3]; exact hl n List.mem_cons_self
      · exact hl _ (List.mem_cons_of_mem _ h3)
    have a2 : M ≤ maxOf (n :: r) d := by
      show M ≤ r.foldl max n
      rcases List.mem_cons.mp hm with rfl | hm
      · exact h1
      · exact h2 M hm
    omega
theorem args_maxD (a v : Value) : argsOk "max" ⟨[a], [(Str.ofString "default", v)]⟩ := by unfold argsOk; kernel_rfl
section
variable {X : Cx}
theorem call_maxD {pins : List (Addr × Obj)} {σ : St} {H : Hp} {s : Shared} {l : Addr} {ns : List Int} {d : Int} {tk : Tok} {Q : VK} (hc : X.calm = true) (I : Inv X pins σ H s) (hl : SqL X.K H l (List.map V.int ns)) (q : Q (.int (maxOf ns d)) H) :
    wpAny (model X.prog X.w) X.A (call (.builtin "max") [.ref l] [(Str.ofString "default", .int d tk)]) (EP X pins σ Q) X.xe s := by
  obtain ⟨its, rv, pl, hz⟩ := I.list hl
  have hi := intsAre_of rv
  obtain ⟨xs, e⟩ := hi.allInts.items
  have hns : ns = xs.toList.map (·.1) := by rw [← hi.numsOf, ← nums_intItems, ← e]
  have hil := pl.isList
  rw [e] at hil
  refine wpAny_call (codeAny_call_builtin F.plain_max F.entry_max ?_)
  have main : wpAny (model X.prog X.w) X.A.in1 (Builtin.«max» ⟨[.ref l], [(Str.ofString "default", .int d tk)]⟩) (fun fin s' => match fin with
      | .done f => (match (Except.ok f : Result) with | .ok (.ret v) => EP X pins σ Q v s' | .ok _ => False | .error e => X.xe e s')
      | .again c' => c'.quiet = true ∧ codeAny (model X.prog X.w) X.A c' (fun r s' => match r with | .ok (.ret v) => EP X pins σ Q v s' | .ok _ => False | .error e => X.xe e s') s') X.xe s := by
    have nm : (toString "max" ++ toString ".loop" : String) = "max.loop" := by decide
    show wpAny _ X.A.in1 (Builtin.Builtins.bindParams "max" ["key", "default"] 0 ⟨[], [(Str.ofString "default", .int d tk)]⟩ >>= _) _ _ s
    refine wpAny_bind (wpAny_of_eq (show Builtin.Builtins.bindParams "max" ["key", "default"] 0 ⟨[], [(Str.ofString "default", .int d tk)]⟩ = pure [none, some (.int d tk)] from rfl) (wpAny_bind (wpAny_pure ?_)))
    refine wpAny_bind (iter_intList hil fun s2 es st hfp hlI => ?_)
    subst es
    refine wpAny_bind (wpAny_newObj_type ?_)
    rw [nm]
    have hSf : (s.heap.push { cls := .type "list_iterator", data := .fields #[.ref l, .int 0 0] }).objs.size ∉ [s.heap.objs.size, l] := fun hm => Nat.lt_irrefl _ (hfp _ hm)
    have keep : ∀ (h' : Heap) (S : Addr), s.heap.objs.size ≤ S → (∀ b o, b ∉ S :: [s.heap.objs.size] → ((s.heap.push { cls := .type "list_iterator", data := .fields #[.ref l, .int 0 0] }).push { cls := .type "list", data := .seq ([] : List Value).toArray }).get? b = some o → h'.get? b = some o) →
        ∀ b o, s.heap.get? b = some o → h'.get? b = some o := fun h' S hS hk b o g => hk b o (fun hm => by
          have hlt := Heap.lt_size g
          rcases List.mem_cons.mp hm with z | z
          · rw [z] at hlt; exact absurd (Nat.lt_of_lt_of_le hlt hS) (Nat.lt_irrefl _)
          · rw [List.mem_singleton.mp z] at hlt; exact Nat.lt_irrefl _ hlt) (Heap.get?_push_of_some _ (Heap.get?_push_of_some _ g))
    have hS : s.heap.objs.size ≤ (s.heap.push { cls := .type "list_iterator", data := .fields #[.ref l, .int 0 0] }).objs.size := by rw [Heap.size_push]; exact Nat.le_succ _
    refine wpAny_pure ⟨plainId_quiet F.plain_max_loop _, maxD_first (Walks.list (A := X.A.in1) (I.ok.hd hc) _ l hlI (intItems xs)) _ (CmpOf.ints_gt (numAt xs) (fun _ _ => intItems_at)) _ hSf _ _ ⟨⟨_, Heap.get?_push_of_some _ (Heap.get?_push_size _ rfl), rfl, rfl⟩, st.2.push _⟩ (Heap.get?_push_size _ rfl) (fun n0 h' t' hk => ?_) (fun n0 v h' t' hP hk => ?_)⟩
    · have e0 : ns = [] := by
        have : xs.size = 0 := by simpa [intItems] using n0
        have e1 : xs.toList = [] := List.length_eq_zero_iff.mp (by rw [Array.length_toList]; exact this)
        rw [hns, e1]; rfl
      refine ⟨.int d, H, I.kept (t' := t') (keep h' _ hS hk), ⟨tk, rfl⟩, ?_⟩
      rw [e0] at q; exact q
    · have hsz : 0 < xs.size := by simpa [intItems] using n0
      have hP : (intItems xs)[argBest (fun i j => decide (numAt xs i > numAt xs j)) (xs.size - 1)]? = some v := by simpa [intItems] using hP
      obtain ⟨t2, rfl⟩ := intItems_at hP
      obtain ⟨h1, h2⟩ := argBest_gt (numAt xs) (xs.size - 1)
      refine ⟨.int (maxOf ns d), H, I.kept (t' := t') (keep h' _ hS hk), ⟨t2, ?_⟩, q⟩
      congr 1
      refine (maxOf_is ?_ fun a ha => ?_).symm
      · rw [hns, numAt_eq]; exact getD_mem (by rw [List.length_map, Array.length_toList]; omega)
      · rw [hns] at ha
        obtain ⟨j, hj, rfl⟩ := mem_getD ha
        rw [List.length_map, Array.length_toList] at hj
        rw [← numAt_eq]; exact h2 j (by omega)
  simp only [checkBuiltinCall, F.kind_max]
  cases hsig : Manifest.signature? "max" with
  | none => exact wpAny_pure main
  | some sig =>
    have ha : Bind.checkArgs "max" sig ⟨[.ref l], [(Str.ofString "default", .int d tk)]⟩ = pure () := by simpa only [argsOk, hsig] using args_maxD (.ref l) (.int d tk)
    simp only [ha]
    exact wpAny_pure main
def tMaxD (K : PySem.W.Frag) (t : TA) (d : Int) : TE := fun σ H Q => t σ H fun vs H1 => ∃ l ns, vs = [.ref l] ∧ SqL K H1 l (List.map V.int ns) ∧ Q (.int (maxOf ns d)) H1
theorem pe_maxD {e : Expr} {t : TA} {p pos kp kp' : Pos} {d : Int} {j : Nat} (hc : X.calm = true) (hm : X.mg "max" = none) (hv : bootBuiltins "max" = some (.builtin "max")) (ha : PA X [e] t) (hg : Gl X "max" := by rfl)
    (hs : backTo pos (starEach [e] X.env) = (false, eval e X.env) :: backTo pos (starEach [] X.env) := by rfl) (hp : (backTo pos (starEach [e] X.env)).any (·.1) = false := by rfl) :
    PE X (.Call (.Name "max" p) [e] [⟨some "default", .Constant (.int d) j kp', kp⟩] pos) (tMaxD X.K t d) := by
  intro pins s σ H Q I h
  refine wpAny_Call_Name_kw (ld_blt I hg hm hv ?_ (by decide))
  refine callWith_kw (thn (ha pos pins s σ H _ I h) fun us s1 ww => ?_) hs hp
  obtain ⟨vs, H1, I1, r, l, ns, rfl, hl, q⟩ := ww
  obtain ⟨u, rfl, ru⟩ := vals1 r
  cases ru
  refine kws_cons (thn (pe_int (X := X) pins s1 σ H1 (fun y H2 => y = .int d ∧ H2 = H1) I1 ⟨rfl, rfl⟩) fun y s2 wy => kws_nil ?_)
  obtain ⟨y', H2, I2, ry, ey, eH⟩ := wy
  subst ey eH
  obtain ⟨tk, rfl⟩ := ry
  exact call_maxD hc I2 hl q
end
end L2

set_option Elab.async false
set_option linter.all false
set_option maxRecDepth 100000
namespace Srt
open PySem PySem.Spec PyProof.Rows
def Ord (M : Model) (A : Around) (E : Value → Shared → Prop) (s : Shared) (κ : SortKind) (P : Keyed → Prop) (O : KeyOrd) (key : Keyed → O.α) : Prop :=
  ∀ x y, P x → P y → ∀ (st : SortSt) (Q : Option Bool → SortSt → Prop), kindOf st = κ → Q (some (O.blt (key x) (key y))) st → wpS M A E s (lt' x y) Q st
section
variable {O : KeyOrd} {key : Keyed → O.α}
def kAt (key : Keyed → O.α) (arr : Array Keyed) (i : Nat) : O.α := key ((arr[i]?).getD (Value.none, Value.none))
theorem kAt_congr {xs ys : Array Keyed} {i j : Nat} (h : xs[i]? = ys[j]?) : kAt key xs i = kAt key ys j := by unfold kAt; rw [h]
theorem kAt_bub {xs : Array Keyed} {src d : Nat} (hs : src < xs.size) (hd : d ≤ src) (k : Nat) :
    kAt key (bubble xs src d) k = if k = src - d then kAt key xs src else if src - d < k ∧ k ≤ src then kAt key xs (k - 1) else kAt key xs k := by
  have e := getElem?_bubble hs d hd k
  split <;> rename_i h1
  · rw [if_pos h1] at e; exact kAt_congr e
  · rw [if_neg h1] at e
    split <;> rename_i h2
    · rw [if_pos h2] at e; exact kAt_congr e
    · rw [if_neg h2] at e; exact kAt_congr e
theorem kAt_mir {xs : Array Keyed} {i j : Nat} (hj : j ≤ xs.size) (k : Nat) : kAt key (mirror xs i j ((j - i) / 2)) k = if i ≤ k ∧ k < j then kAt key xs (i + j - 1 - k) else kAt key xs k := by
  have e := getElem?_mirror_all (i := i) hj k
  split <;> rename_i h1
  · rw [if_pos h1] at e; exact kAt_congr e
  · rw [if_neg h1] at e; exact kAt_congr e
theorem kAt_mir_eq {xs : Array Keyed} {i j : Nat} (hj : j ≤ xs.size) (heq : ∀ k, i ≤ k → k < j → kAt key xs k = kAt key xs (j - 1)) (k : Nat) : kAt key (mirror xs i j ((j - i) / 2)) k = kAt key xs k := by
  rw [kAt_mir hj]; split
  · rw [heq _ (by omega) (by omega), heq k (by omega) (by omega)]
  · rfl
end
structure SB (κ : SortKind) (a₀ : Array Keyed) (pd : Array (Nat × Nat × Nat)) (lo : Nat) (f : Nat → Option Keyed) (st : SortSt) : Prop where
  pm : (arrOf st).Perm a₀
  kd : kindOf st = κ
  fl : failedOf st = none
  pe : pendingOf st = pd
  pr : ∀ k, k < lo → (arrOf st)[k]? = f k
section
variable {κ : SortKind} {a₀ : Array Keyed} {pd : Array (Nat × Nat × Nat)} {lo : Nat} {f : Nat → Option Keyed} {st : SortSt}
theorem SB.sz (h : SB κ a₀ pd lo f st) : (arrOf st).size = a₀.size := h.pm.size_eq
theorem SB.mir (h : SB κ a₀ pd lo f st) {i j : Nat} (hi : lo ≤ i) (hj : j ≤ a₀.size) : SB κ a₀ pd lo f (setArr st (mirror (arrOf st) i j ((j - i) / 2))) :=
  ⟨(mirror_perm _ _ _ _).trans h.pm, h.kd, h.fl, h.pe, fun k hk => by
    show (mirror (arrOf st) i j ((j - i) / 2))[k]? = _
    rw [getElem?_mirror_all (by rw [h.sz]; exact hj), if_neg (by omega)]; exact h.pr k hk⟩
theorem SB.bub (h : SB κ a₀ pd lo f st) {src d : Nat} (hs : src < a₀.size) (hd : lo + d ≤ src) : SB κ a₀ pd lo f (setArr st (bubble (arrOf st) src d)) :=
  ⟨(bubble_perm _ _ _).trans h.pm, h.kd, h.fl, h.pe, fun k hk => by
    show (bubble (arrOf st) src d)[k]? = _
    rw [getElem?_bubble (by rw [h.sz]; exact hs) d (by omega), if_neg (by omega), if_neg (by omega)]; exact h.pr k hk⟩
theorem SB.el (h : SB κ a₀ pd lo f st) {P : Keyed → Prop} (hP : ∀ x ∈ a₀.toList, P x) {i : Nat} (hi : i < a₀.size) : ∃ x, (arrOf st)[i]? = some x ∧ P x := by
  have hi' : i < (arrOf st).size := by rw [h.sz]; exact hi
  exact ⟨(arrOf st)[i], getElem?_pos _ i hi', hP _ ((Array.perm_iff_toList_perm.mp h.pm).mem_iff.mp (by simp))⟩
end
section
variable {prog : Program} {w : World} {A : Around} {E : Value → Shared → Prop} {s : Shared} {κ : SortKind} {P : Keyed → Prop} {O : KeyOrd} {key : Keyed → O.α} {a₀ : Array Keyed} {pd : Array (Nat × Nat × Nat)} {lo : Nat} {f : Nat → Option Keyed}
def Up (key : Keyed → O.α) (xs : Array Keyed) (lo k : Nat) : Prop := ∀ i j, i ≤ j → j < k → O.kle (kAt key xs (lo + i)) (kAt key xs (lo + j))
def Dn (key : Keyed → O.α) (xs : Array Keyed) (lo k : Nat) : Prop := ∀ i j, i ≤ j → j < k → O.kle (kAt key xs (lo + j)) (kAt key xs (lo + i))
theorem ltAt_ok {st : SortSt} {i j : Nat} {Q : Option Bool → SortSt → Prop} (C : Ord (model prog w) A E s κ P O key) (hP : ∀ x ∈ a₀.toList, P x) (hB : SB κ a₀ pd lo f st) (hi : i < a₀.size) (hj : j < a₀.size)
    (h : Q (some (O.blt (kAt key (arrOf st) i) (kAt key (arrOf st) j))) st) : wpS (model prog w) A E s (ltAt' i j) Q st := by
  obtain ⟨x, e1, px⟩ := hB.el hP hi
  obtain ⟨y, e2, py⟩ := hB.el hP hj
  rw [ltAt'_eq]
  refine wpS_bind (wpS_get ?_); dsimp only; rw [elem'_eq, elem'_eq, e1, e2]
  refine wpS_bind (wpS_pure (wpS_bind (wpS_pure (C x y px py st Q hB.kd ?_))))
  unfold kAt at h; rw [e1, e2] at h; exact h
theorem binSort_ok {st : SortSt} {n ok : Nat} {Q : Bool → SortSt → Prop} (C : Ord (model prog w) A E s κ P O key) (hP : ∀ x ∈ a₀.toList, P x) (hn : lo + n ≤ a₀.size) (hok : ok ≤ n) (hB : SB κ a₀ pd lo f st) (hs : Up key (arrOf st) lo ok)
    (h : ∀ st', SB κ a₀ pd lo f st' → Up key (arrOf st') lo n → Q true st') : wpS (model prog w) A E s (binarySort' lo n ok) Q st := by
  rw [binarySort'_eq]
  refine wpS_bind (wpS_mono (wpS_forRange (I := fun k c st' => c = (none, ()) ∧ SB κ a₀ pd lo f st' ∧ Up key (arrOf st') lo (min k n)) (Q := fun c st' => c = (none, ()) ∧ SB κ a₀ pd lo f st' ∧ Up key (arrOf st') lo n) ?step ?fin ?init) ?post)
  case post => rintro c st' ⟨rfl, hB', hs'⟩; exact wpS_pure (h st' hB' hs')
  case init =>
    refine ⟨rfl, hB, fun i j hij hj => ?_⟩
    by_cases h1 : ok = 0
    · have : i = j := by omega
      subst this; exact KeyOrd.kle_refl _
    · exact hs i j hij (by omega)
  case fin => rintro c st' ⟨hc, hB', hs'⟩; rw [show min (max (max ok 1) n) n = n by omega] at hs'; exact ⟨hc, hB', hs'⟩
  case step =>
    rintro k c st' hak hkn ⟨rfl, hB', hs'⟩
    rw [show min k n = k by omega] at hs'
    have hk : lo + k < a₀.size := by omega
    refine wpS_bind (wpS_mono (wpS_forRange (I := fun x c st'' => st'' = st' ∧ ∃ l r, c = (none, l, r) ∧ l ≤ r ∧ r ≤ k ∧ r - l ≤ k - x ∧ (∀ i, i < l → O.kle (kAt key (arrOf st') (lo + i)) (kAt key (arrOf st') (lo + k))) ∧ (∀ i, r ≤ i → i < k → O.klt (kAt key (arrOf st') (lo + k)) (kAt key (arrOf st') (lo + i))))
      (Q := fun c st'' => st'' = st' ∧ ∃ l r, c = (none, l, r) ∧ l ≤ k ∧ (∀ i, i < l → O.kle (kAt key (arrOf st') (lo + i)) (kAt key (arrOf st') (lo + k))) ∧ (∀ i, l ≤ i → i < k → O.klt (kAt key (arrOf st') (lo + k)) (kAt key (arrOf st') (lo + i)))) ?istep ?ifin ?iinit) ?ipost)
    case iinit => exact ⟨rfl, 0, k, rfl, by omega, by omega, by omega, fun i hi => by omega, fun i h1 h2 => by omega⟩
    case ifin =>
      rintro c st'' ⟨rfl, l, r, rfl, hlr, hrk, hm, hlo, hhi⟩
      obtain rfl : l = r := by omega
      exact ⟨rfl, l, l, rfl, hrk, hlo, hhi⟩
    case istep =>
      rintro x c st'' _ hxk ⟨rfl, l, r, rfl, hlr, hrk, hm, hlo, hhi⟩
      dsimp only
      by_cases hge : l ≥ r
      · rw [if_pos hge]
        obtain rfl : l = r := by omega
        exact wpS_pure ⟨rfl, l, l, rfl, hrk, hlo, hhi⟩
      · rw [if_neg hge]
        refine wpS_bind (ltAt_ok C hP hB' hk (by omega) ?_)
        dsimp only
        cases hless : O.blt (kAt key (arrOf st'') (lo + k)) (kAt key (arrOf st'') (lo + (l + r) / 2)) with
        | true =>
          simp only [if_true]
          exact wpS_pure ⟨rfl, l, (l + r) / 2, rfl, by omega, by omega, by omega, hlo, fun i h1 h2 => KeyOrd.klt_of_klt_of_kle hless (hs' _ _ h1 h2)⟩
        | false =>
          simp only [Bool.false_eq_true, if_false]
          exact wpS_pure ⟨rfl, (l + r) / 2 + 1, r, rfl, by omega, by omega, by omega, fun i h1 => KeyOrd.kle_trans (hs' i ((l + r) / 2) (by omega) (by omega)) (show O.kle _ _ from hless), hhi⟩
    case ipost =>
      rintro c st'' ⟨rfl, l, r, rfl, hlk, hlo, hhi⟩
      show wpS _ _ _ _ (do moveDown' (lo + k) (lo + l); pure (ForInStep.yield (none, ()))) _ _
      rw [moveDown'_eq]
      have hks : lo + k < (arrOf st'').size := by rw [hB'.sz]; exact hk
      refine wpS_bind (wpS_modify (wpS_pure ⟨rfl, hB'.bub hk (by omega), ?_⟩))
      rw [show min (k + 1) n = k + 1 by omega]; intro i j hij hj
      show O.kle (kAt key (bubble (arrOf st'') (lo + k) (lo + k - (lo + l))) (lo + i)) (kAt key (bubble (arrOf st'') (lo + k) (lo + k - (lo + l))) (lo + j))
      rw [kAt_bub hks (by omega), kAt_bub hks (by omega), show lo + k - (lo + k - (lo + l)) = lo + l by omega]
      have prev : ∀ i, 0 < i → lo + i - 1 = lo + (i - 1) := fun i hi => by omega
      repeat' split
      all_goals first
        | (exfalso; omega)
        | exact KeyOrd.kle_refl _
        | exact hlo _ (by omega)
        | (rw [prev _ (by omega)]; exact KeyOrd.kle_of_klt (hhi _ (by omega) (by omega)))
        | exact KeyOrd.kle_of_klt (hhi _ (by omega) (by omega))
        | exact hs' _ _ (by omega) (by omega)
        | (rw [prev _ (by omega), prev _ (by omega)]; exact hs' _ _ (by omega) (by omega))
        | (rw [prev _ (by omega)]; exact hs' _ _ (by omega) (by omega))
        | (rw [prev j (by omega)]; exact hs' _ _ (by omega) (by omega))
def ascL (lo a nrem : Nat) : StateT SortSt Sem AscSt := forIn [a:nrem] ((none, a) : AscSt) fun _ c => do
    let x ← ltAt' (lo + c.snd) (lo + c.snd - 1)
    match x with
    | some smaller => if smaller = true then pure (ForInStep.done (none, c.snd)) else pure (ForInStep.yield (none, c.snd + 1))
    | _ => pure (ForInStep.done (some none, c.snd))
def tailL (lo n nrem : Nat) : StateT SortSt Sem (Option Nat) := do
  reverseSlice' lo (lo + n)
  let c ← ascL lo n nrem
  match c.fst with
  | some r => pure r
  | none => pure (some c.snd)
def descL (lo n nrem : Nat) : StateT SortSt Sem DescSt := forIn [n:nrem] ((none, n, 0) : DescSt) fun _ c => do
    let x ← ltAt' (lo + c.snd.fst) (lo + c.snd.fst - 1)
    match x with
    | some smaller =>
      if smaller = true then
        if c.snd.snd > 0 then do
          reverseSlice' (lo + c.snd.fst - (c.snd.snd + 1)) (lo + c.snd.fst)
          pure (ForInStep.yield (none, c.snd.fst + 1, 0))
        else pure (ForInStep.yield (none, c.snd.fst + 1, 0))
      else do
        let x ← ltAt' (lo + c.snd.fst - 1) (lo + c.snd.fst)
        match x with
        | some larger => if larger = true then pure (ForInStep.done (none, c.snd.fst, c.snd.snd)) else pure (ForInStep.yield (none, c.snd.fst + 1, c.snd.snd + 1))
        | _ => pure (ForInStep.done (some none, c.snd.fst, c.snd.snd))
    | _ => pure (ForInStep.done (some none, c.snd.fst, c.snd.snd))
def partL (lo n nrem : Nat) : StateT SortSt Sem (Option Nat) := do
  liftM (rule "list.sort.descending-run")
  let c ← descL lo (n + 1) nrem
  match c.fst with
  | some r => pure r
  | none =>
    if c.snd.snd > 0 then do
      reverseSlice' (lo + c.snd.fst - (c.snd.snd + 1)) (lo + c.snd.fst)
      tailL lo c.snd.fst nrem
    else tailL lo c.snd.fst nrem
theorem countRunL_eq (lo nrem : Nat) : countRun' lo nrem = (do
    let c ← ascL lo 1 nrem
    match c.fst with
    | some r => pure r
    | none =>
      if (c.snd == nrem) = true then pure (some c.snd)
      else if c.snd > 1 then do
        let x ← ltAt' lo (lo + c.snd - 1)
        match x with
        | some rose => if rose = true then pure (some c.snd) else do
            reverseSlice' lo (lo + c.snd)
            partL lo c.snd nrem
        | _ => pure none
      else partL lo c.snd nrem) := by
  rw [countRun'_eq]
  unfold partL tailL descL ascL
  refine congrArg (fun g => _ >>= g) (funext fun c => ?_); obtain ⟨r, n⟩ := c
  cases r with
  | some r => rfl
  | none =>
    dsimp only; split
    · rfl
    · split
      · congr 1; funext x
        cases x with
        | none => rfl
        | some rose =>
          dsimp only; split
          · rfl
          · congr 1; funext _r; congr 1; funext _u; congr 1; congr 1; funext s2; obtain ⟨r2, n2, q2⟩ := s2
            cases r2 with
            | some r2 => rfl
            | none =>
              dsimp only; split
              · congr 1; funext _v; congr 1; funext _w; congr 1; funext s3; obtain ⟨r3, n3⟩ := s3; cases r3 <;> rfl
              · congr 1; funext _w; congr 1; funext s3; obtain ⟨r3, n3⟩ := s3; cases r3 <;> rfl
      · congr 1; funext _u; congr 1; congr 1; funext s2; obtain ⟨r2, n2, q2⟩ := s2
        cases r2 with
        | some r2 => rfl
        | none =>
          dsimp only; split
          · congr 1; funext _v; congr 1; funext _w; congr 1; funext s3; obtain ⟨r3, n3⟩ := s3; cases r3 <;> rfl
          · congr 1; funext _w; congr 1; funext s3; obtain ⟨r3, n3⟩ := s3; cases r3 <;> rfl
theorem ascL_ok {st : SortSt} {a nrem : Nat} {Q : AscSt → SortSt → Prop} (C : Ord (model prog w) A E s κ P O key) (hP : ∀ x ∈ a₀.toList, P x) (hn : lo + nrem ≤ a₀.size) (ha : 1 ≤ a) (han : a ≤ nrem) (hB : SB κ a₀ pd lo f st) (hs : Up key (arrOf st) lo a)
    (h : ∀ n, a ≤ n → n ≤ nrem → Up key (arrOf st) lo n → (n = nrem ∨ O.klt (kAt key (arrOf st) (lo + n)) (kAt key (arrOf st) (lo + (n - 1)))) → Q (none, n) st) : wpS (model prog w) A E s (ascL lo a nrem) Q st := by
  unfold ascL
  refine wpS_forRange (I := fun x c st' => st' = st ∧ c = (none, x) ∧ Up key (arrOf st) lo x) ?step ?fin ⟨rfl, rfl, hs⟩
  case fin => rintro c st' ⟨rfl, rfl, hs'⟩; rw [show max a nrem = nrem by omega] at hs' ⊢; exact h nrem han (Nat.le_refl _) hs' (.inl rfl)
  case step =>
    rintro x c st' hax hxn ⟨rfl, rfl, hs'⟩
    dsimp only
    refine wpS_bind (ltAt_ok C hP hB (by omega) (by omega) ?_)
    dsimp only
    rw [show lo + x - 1 = lo + (x - 1) by omega]
    cases hless : O.blt (kAt key (arrOf st') (lo + x)) (kAt key (arrOf st') (lo + (x - 1))) with
    | true => simp only [if_true]; exact wpS_pure (h x hax (by omega) hs' (.inr hless))
    | false =>
      simp only [Bool.false_eq_true, if_false]
      refine wpS_pure ⟨rfl, rfl, fun i j hij hj => ?_⟩
      by_cases hjx : j < x
      · exact hs' i j hij hjx
      · obtain rfl : j = x := by omega
        by_cases hi' : i = j
        · subst hi'; exact KeyOrd.kle_refl _
        · exact KeyOrd.kle_trans (hs' i (j - 1) (by omega) (by omega)) hless
theorem tailL_ok {st : SortSt} {n nrem : Nat} {Q : Option Nat → SortSt → Prop} (C : Ord (model prog w) A E s κ P O key) (hP : ∀ x ∈ a₀.toList, P x) (hn : lo + nrem ≤ a₀.size) (h1 : 1 ≤ n) (hnn : n ≤ nrem) (hB : SB κ a₀ pd lo f st) (hs : Dn key (arrOf st) lo n)
    (h : ∀ m st', SB κ a₀ pd lo f st' → 1 ≤ m → m ≤ nrem → Up key (arrOf st') lo m → Q (some m) st') : wpS (model prog w) A E s (tailL lo n nrem) Q st := by
  unfold tailL
  have hsz : lo + n ≤ (arrOf st).size := by rw [hB.sz]; omega
  refine wpS_bind (wpS_reverse ?_)
  have hB' := hB.mir (Nat.le_refl lo) (j := lo + n) (by omega)
  refine wpS_bind (ascL_ok C hP hn h1 hnn hB' (fun i j hij hj => ?_) fun m hm1 hm2 hsm _ => wpS_pure (h m _ hB' (by omega) hm2 hsm))
  show O.kle (kAt key (mirror (arrOf st) lo (lo + n) ((lo + n - lo) / 2)) (lo + i)) (kAt key (mirror (arrOf st) lo (lo + n) ((lo + n - lo) / 2)) (lo + j))
  rw [kAt_mir hsz, kAt_mir hsz, if_pos (by omega), if_pos (by omega), show lo + (lo + n) - 1 - (lo + i) = lo + (n - 1 - i) by omega, show lo + (lo + n) - 1 - (lo + j) = lo + (n - 1 - j) by omega]
  exact hs _ _ (by omega) (by omega)
theorem descL_ok {st : SortSt} {n nrem : Nat} {Q : DescSt → SortSt → Prop} (C : Ord (model prog w) A E s κ P O key) (hP : ∀ x ∈ a₀.toList, P x) (hn : lo + nrem ≤ a₀.size) (h1 : 1 ≤ n) (hnn : n ≤ nrem) (hB : SB κ a₀ pd lo f st) (hs : Dn key (arrOf st) lo n)
    (h : ∀ m neq st', SB κ a₀ pd lo f st' → n ≤ m → m ≤ nrem → Dn key (arrOf st') lo m → neq + 1 ≤ m → (∀ i, m - (neq + 1) ≤ i → i < m → kAt key (arrOf st') (lo + i) = kAt key (arrOf st') (lo + (m - 1))) → Q (none, m, neq) st') :
    wpS (model prog w) A E s (descL lo n nrem) Q st := by
  unfold descL
  refine wpS_forRange (I := fun x c st' => ∃ neq, c = (none, x, neq) ∧ SB κ a₀ pd lo f st' ∧ Dn key (arrOf st') lo x ∧ neq + 1 ≤ x ∧ (∀ i, x - (neq + 1) ≤ i → i < x → kAt key (arrOf st') (lo + i) = kAt key (arrOf st') (lo + (x - 1)))) ?step ?fin
    ⟨0, rfl, hB, hs, by omega, fun i h1 h2 => by rw [show i = n - 1 by omega]⟩
  case fin => rintro c st' ⟨neq, rfl, hB', hs', hq, he⟩; rw [show max n nrem = nrem by omega] at hs' hq he ⊢; exact h nrem neq st' hB' hnn (Nat.le_refl _) hs' hq he
  case step =>
    rintro x c st' hax hxn ⟨neq, rfl, hB', hs', hq, he⟩
    dsimp only
    have hsz : lo + x ≤ (arrOf st').size := by rw [hB'.sz]; omega
    have he' : ∀ k, lo + x - (neq + 1) ≤ k → k < lo + x → kAt key (arrOf st') k = kAt key (arrOf st') (lo + x - 1) := fun k h1 h2 => by
      have := he (k - lo) (by omega) (by omega)
      rwa [show lo + (k - lo) = k by omega, show lo + (x - 1) = lo + x - 1 by omega] at this
    refine wpS_bind (ltAt_ok C hP hB' (by omega) (by omega) ?_)
    dsimp only
    rw [show lo + x - 1 = lo + (x - 1) by omega]
    cases hless : O.blt (kAt key (arrOf st') (lo + x)) (kAt key (arrOf st') (lo + (x - 1))) with
    | true =>
      simp only [if_true]
      have step1 : ∀ xs : Array Keyed, (∀ k, kAt key xs k = kAt key (arrOf st') k) → Dn key xs lo (x + 1) := by
        intro xs hk i j hij hj
        rw [hk, hk]
        by_cases hjx : j < x
        · exact hs' i j hij hjx
        · obtain rfl : j = x := by omega
          by_cases hi' : i = j
          · subst hi'; exact KeyOrd.kle_refl _
          · exact KeyOrd.kle_trans (KeyOrd.kle_of_klt hless) (hs' i (j - 1) (by omega) (by omega))
      by_cases hneq : neq > 0
      · rw [if_pos hneq]
        exact wpS_bind (wpS_reverse (wpS_pure ⟨0, rfl, hB'.mir (by omega) (by omega), step1 _ (kAt_mir_eq hsz he'), by omega, fun i h1 h2 => by rw [show i = x + 1 - 1 by omega]⟩))
      · rw [if_neg hneq]
        exact wpS_pure ⟨0, rfl, hB', step1 _ (fun _ => rfl), by omega, fun i h1 h2 => by rw [show i = x + 1 - 1 by omega]⟩
    | false =>
      simp only [Bool.false_eq_true, if_false]
      refine wpS_bind (ltAt_ok C hP hB' (by omega) (by omega) ?_)
      dsimp only
      cases hlarger : O.blt (kAt key (arrOf st') (lo + (x - 1))) (kAt key (arrOf st') (lo + x)) with
      | true => simp only [if_true]; exact wpS_pure (h x neq st' hB' hax (by omega) hs' hq he)
      | false =>
        simp only [Bool.false_eq_true, if_false]
        have heqx : kAt key (arrOf st') (lo + x) = kAt key (arrOf st') (lo + (x - 1)) := KeyOrd.kle_antisymm hlarger hless
        refine wpS_pure ⟨neq + 1, rfl, hB', fun i j hij hj => ?_, by omega, fun i h1 h2 => ?_⟩
        · by_cases hjx : j < x
          · exact hs' i j hij hjx
          · obtain rfl : j = x := by omega
            by_cases hi' : i = j
            · subst hi'; exact KeyOrd.kle_refl _
            · rw [heqx]; exact hs' i (j - 1) (by omega) (by omega)
        · rw [show x + 1 - 1 = x by omega]
          by_cases hix : i = x
          · subst hix; rfl
          · rw [heqx]; exact he i (by omega) (by omega)
theorem partL_ok {st : SortSt} {n nrem : Nat} {Q : Option Nat → SortSt → Prop} (C : Ord (model prog w) A E s κ P O key) (hP : ∀ x ∈ a₀.toList, P x) (hn : lo + nrem ≤ a₀.size) (hnn : n + 1 ≤ nrem) (hB : SB κ a₀ pd lo f st) (hs : Dn key (arrOf st) lo (n + 1))
    (h : ∀ m st', SB κ a₀ pd lo f st' → 1 ≤ m → m ≤ nrem → Up key (arrOf st') lo m → Q (some m) st') : wpS (model prog w) A E s (partL lo n nrem) Q st := by
  unfold partL
  refine wpS_bind (wpS_lift (wpAny_rule ⟨rfl, ?_⟩)); refine wpS_bind (descL_ok C hP hn (by omega) hnn hB hs fun m neq st' hB' hm1 hm2 hs' hq he => ?_)
  dsimp only
  have hsz : lo + m ≤ (arrOf st').size := by rw [hB'.sz]; omega
  have he' : ∀ k, lo + m - (neq + 1) ≤ k → k < lo + m → kAt key (arrOf st') k = kAt key (arrOf st') (lo + m - 1) := fun k h1 h2 => by
    have := he (k - lo) (by omega) (by omega)
    rwa [show lo + (k - lo) = k by omega, show lo + (m - 1) = lo + m - 1 by omega] at this
  by_cases hneq : neq > 0
  · rw [if_pos hneq]
    refine wpS_bind (wpS_reverse (tailL_ok C hP hn (by omega) hm2 (hB'.mir (by omega) (by omega)) (fun i j hij hj => ?_) h))
    show O.kle (kAt key (mirror (arrOf st') _ _ _) (lo + j)) (kAt key (mirror (arrOf st') _ _ _) (lo + i))
    rw [kAt_mir_eq hsz he', kAt_mir_eq hsz he']; exact hs' i j hij hj
  · rw [if_neg hneq]; exact tailL_ok C hP hn (by omega) hm2 hB' hs' h
theorem countRun_ok {st : SortSt} {nrem : Nat} {Q : Option Nat → SortSt → Prop} (C : Ord (model prog w) A E s κ P O key) (hP : ∀ x ∈ a₀.toList, P x) (hn : lo + nrem ≤ a₀.size) (h1 : 1 ≤ nrem) (hB : SB κ a₀ pd lo f st)
    (h : ∀ m st', SB κ a₀ pd lo f st' → 1 ≤ m → m ≤ nrem → Up key (arrOf st') lo m → Q (some m) st') : wpS (model prog w) A E s (countRun' lo nrem) Q st := by
  rw [countRunL_eq]
  refine wpS_bind (ascL_ok C hP hn (Nat.le_refl 1) h1 hB (fun i j hij hj => by have : i = j := (by omega); subst this; exact KeyOrd.kle_refl _) fun n hn1 hn2 hsn hor => ?_); dsimp only
  by_cases hnn : n = nrem
  · rw [if_pos (by simpa using hnn)]; exact wpS_pure (h n st hB hn1 hn2 hsn)
  · rw [if_neg (by simpa using hnn)]
    have hlt : O.klt (kAt key (arrOf st) (lo + n)) (kAt key (arrOf st) (lo + (n - 1))) := hor.resolve_left hnn
    by_cases hgt : n > 1
    · rw [if_pos hgt]
      refine wpS_bind (ltAt_ok C hP hB (by omega) (by omega) ?_)
      dsimp only
      cases hrose : O.blt (kAt key (arrOf st) lo) (kAt key (arrOf st) (lo + n - 1)) with
      | true => simp only [if_true]; exact wpS_pure (h n st hB hn1 hn2 hsn)
      | false =>
        simp only [Bool.false_eq_true, if_false]
        have hsz : lo + n ≤ (arrOf st).size := by rw [hB.sz]; omega
        have hall : ∀ k, lo ≤ k → k < lo + n → kAt key (arrOf st) k = kAt key (arrOf st) (lo + n - 1) := fun k h1 h2 => by
          have a1 := hsn 0 (k - lo) (by omega) (by omega)
          have a2 := hsn (k - lo) (n - 1) (by omega) (by omega)
          rw [show lo + (k - lo) = k by omega, show lo + 0 = lo by omega] at a1
          rw [show lo + (k - lo) = k by omega, show lo + (n - 1) = lo + n - 1 by omega] at a2
          exact KeyOrd.kle_antisymm a2 (KeyOrd.kle_trans hrose a1)
        refine wpS_bind (wpS_reverse (partL_ok C hP hn (by omega) (hB.mir (Nat.le_refl _) (by omega)) (fun i j hij hj => ?_) h))
        show O.kle (kAt key (mirror (arrOf st) _ _ _) (lo + j)) (kAt key (mirror (arrOf st) _ _ _) (lo + i))
        rw [kAt_mir_eq hsz hall, kAt_mir_eq hsz hall]
        by_cases hjn : j < n
        · rw [hall _ (by omega) (by omega), hall (lo + i) (by omega) (by omega)]; exact KeyOrd.kle_refl _
        · obtain rfl : j = n := by omega
          by_cases hi' : i = j
          · subst hi'; exact KeyOrd.kle_refl _
          · rw [hall (lo + i) (by omega) (by omega), show lo + j - 1 = lo + (j - 1) by omega]; exact KeyOrd.kle_of_klt hlt
    · rw [if_neg hgt]
      obtain rfl : n = 1 := by omega
      refine partL_ok C hP hn (by omega) hB (fun i j hij hj => ?_) h
      by_cases hi' : i = j
      · subst hi'; exact KeyOrd.kle_refl _
      · obtain rfl : i = 0 := by omega
        obtain rfl : j = 1 := by omega
        exact KeyOrd.kle_of_klt hlt
end
end Srt

set_option Elab.async false
set_option linter.all false
set_option maxRecDepth 100000
namespace Srt
open PySem PySem.Spec PyProof.Rows
def gallop' : Bool → Keyed → Array Keyed → Nat → Nat → Nat → StateT SortSt Sem (Option Nat) := sortPriv% PySem.Builtin.gallop
def mergeLo' : Array Keyed → Array Keyed → StateT SortSt Sem (Array Keyed) := sortPriv% PySem.Builtin.mergeLo
def mergeHi' : Array Keyed → Array Keyed → StateT SortSt Sem (Array Keyed) := sortPriv% PySem.Builtin.mergeHi
structure Ans (M : Model) (A : Around) (E : Value → Shared → Prop) (s : Shared) (κ : SortKind) (P : Keyed → Prop) (L : Keyed → Keyed → Bool) : Prop where
  lt : ∀ x y, P x → P y → ∀ (st : SortSt) (Q : Option Bool → SortSt → Prop), kindOf st = κ → Q (some (L x y)) st → wpS M A E s (lt' x y) Q st
  asym : ∀ x y, P x → P y → L x y = true → L y x = false
  tr : ∀ x y z, P x → P y → P z → L y x = false → L z y = false → L z x = false
section
variable {M : Model} {A : Around} {E : Value → Shared → Prop} {s : Shared} {κ : SortKind} {P : Keyed → Prop} {L : Keyed → Keyed → Bool}
theorem wpS_elem {arr : Array Keyed} {i : Nat} {x : Keyed} {st : SortSt} {Q : Keyed → SortSt → Prop} (h : arr[i]? = some x) (q : Q x st) : wpS M A E s (elem' arr i) Q st := by
  rw [elem'_eq, h]; exact wpS_pure q
def beyondV (L : Keyed → Keyed → Bool) (left : Bool) (key x : Keyed) : Bool := if left = true then L x key else !L key x
theorem beyond_ok {left : Bool} {key x : Keyed} {arr : Array Keyed} {base i : Nat} {st : SortSt} {Q : Option Bool → SortSt → Prop} (C : Ans M A E s κ P L) (hx : arr[base + i]? = some x) (px : P x) (pk : P key) (hk : kindOf st = κ)
    (q : Q (some (beyondV L left key x)) st) : wpS M A E s ((fun i => elem' arr (base + i) >>= fun x => if left = true then lt' x key else lt' key x >>= fun r => pure (Option.map (fun x => !x) r)) i) Q st := by
  refine wpS_bind (wpS_elem hx ?_)
  unfold beyondV at q
  cases left with
  | true => exact C.lt x key px pk st Q hk q
  | false => exact wpS_bind (C.lt key x pk px st _ hk (wpS_pure q))
theorem gallop_ok {left : Bool} {key : Keyed} {arr : Array Keyed} {base n hint : Nat} {B : Nat → Bool} {Q : Option Nat → SortSt → Prop} {st : SortSt} (C : Ans M A E s κ P L) (pk : P key) (hk : kindOf st = κ) (hh : hint < n)
    (hB : ∀ i, i < n → ∃ x, arr[base + i]? = some x ∧ P x ∧ beyondV L left key x = B i) (mono : ∀ i j, i ≤ j → j < n → B j = true → B i = true)
    (q : ∀ k, k ≤ n → (∀ i, i < k → B i = true) → (∀ i, k ≤ i → i < n → B i = false) → Q (some k) st) : wpS M A E s (gallop' left key arr base n hint) Q st := by
  have ask : ∀ (i : Nat) (Q' : Option Bool → SortSt → Prop), i < n → Q' (some (B i)) st → wpS M A E s ((fun i => elem' arr (base + i) >>= fun x => if left = true then lt' x key else lt' key x >>= fun r => pure (Option.map (fun x => !x) r)) i) Q' st := by
    intro i Q' hi h
    obtain ⟨x, hx, px, e⟩ := hB i hi
    exact beyond_ok C hx px pk hk (by rw [e]; exact h)
  unfold gallop'
  refine wpS_bind (ask hint _ hh ?_)
  dsimp only
  cases hr : B hint with
  | true =>
    simp only [if_true]
    refine wpS_bind (wpS_mono (wpS_forRange (I := fun x c st' => ∃ la of, c = (none, la, of) ∧ st = st' ∧ x + 1 ≤ of ∧ la < of ∧ la < n - hint ∧ B (hint + la) = true)
      (Q := fun c st' => ∃ la of, c = (none, la, of) ∧ st = st' ∧ la < of ∧ la < n - hint ∧ B (hint + la) = true ∧ (of < n - hint → B (hint + of) = false)) ?_ ?_ ⟨0, 1, rfl, rfl, Nat.le_refl _, Nat.zero_lt_one, by omega, hr⟩) ?_)
    · rintro x _ _ _ hx ⟨la, of, rfl, rfl, h3, h4, h5, h6⟩
      dsimp only
      by_cases hge : of ≥ n - hint
      · rw [if_pos hge]
        exact wpS_pure ⟨la, of, rfl, rfl, h4, h5, h6, fun z => by omega⟩
      · rw [if_neg hge]
        refine wpS_bind (ask (hint + of) _ (by omega) ?_)
        dsimp only
        cases hb : B (hint + of) with
        | false => exact wpS_pure ⟨la, of, rfl, rfl, h4, h5, h6, fun _ => hb⟩
        | true => exact wpS_pure ⟨of, 2 * of + 1, rfl, rfl, by omega, by omega, by omega, hb⟩
    · rintro _ _ ⟨la, of, rfl, rfl, h3, h4, h5, h6⟩
      exact ⟨la, of, rfl, rfl, h4, h5, h6, fun z => by omega⟩
    · rintro _ _ ⟨la, of, rfl, rfl, h4, h5, h6, h7⟩
      dsimp only
      have hlo : ∀ i, i < hint + la + 1 → B i = true := fun i hi => mono i _ (by omega) (by omega) h6
      have hhi : ∀ i, hint + min of (n - hint) ≤ i → i < n → B i = false := fun i h1 h2 => by
        by_cases z : of < n - hint
        · cases hi2 : B i with
          | false => rfl
          | true => exact absurd (mono (hint + of) i (by omega) h2 hi2) (by rw [h7 z]; exact Bool.false_ne_true)
        · omega
      refine wpS_bind (wpS_mono (wpS_forRange (I := fun x c st' => ∃ lo hi, c = (none, lo, hi) ∧ st = st' ∧ lo ≤ hi ∧ hi ≤ n ∧ hi - lo ≤ n - x ∧ (∀ i, i < lo → B i = true) ∧ (∀ i, hi ≤ i → i < n → B i = false))
          (Q := fun c st' => ∃ lo hi, c = (none, lo, hi) ∧ st = st' ∧ hi ≤ n ∧ (∀ i, i < hi → B i = true) ∧ (∀ i, hi ≤ i → i < n → B i = false)) ?_ ?_ ⟨_, _, rfl, rfl, by omega, by omega, by omega, hlo, hhi⟩) ?_)
      · rintro x _ _ _ hx ⟨lo, hi, rfl, rfl, h3, h4, h5, h6, h7⟩
        dsimp only
        by_cases hge : lo ≥ hi
        · rw [if_pos hge]
          exact wpS_pure ⟨lo, hi, rfl, rfl, h4, fun i hi' => h6 i (by omega), h7⟩
        · rw [if_neg hge]
          refine wpS_bind (ask (lo + (hi - lo) / 2) _ (by omega) ?_)
          dsimp only
          cases hb : B (lo + (hi - lo) / 2) with
          | true => exact wpS_pure ⟨lo + (hi - lo) / 2 + 1, hi, rfl, rfl, by omega, h4, by omega, fun i hi' => mono i _ (by omega) (by omega) hb, h7⟩
          | false =>
            refine wpS_pure ⟨lo, lo + (hi - lo) / 2, rfl, rfl, by omega, by omega, by omega, h6, fun i h1 h2 => ?_⟩
            cases hi2 : B i with
            | false => rfl
            | true => exact absurd (mono _ i h1 h2 hi2) (by rw [hb]; exact Bool.false_ne_true)
      · rintro _ _ ⟨lo, hi, rfl, rfl, h3, h4, h5, h6, h7⟩
        exact ⟨lo, hi, rfl, rfl, h4, fun i hi' => h6 i (by omega), h7⟩
      · rintro _ _ ⟨lo, hi, rfl, rfl, h4, h6, h7⟩
        exact wpS_pure (q hi h4 h6 h7)
  | false =>
    simp only [Bool.false_eq_true, if_false]
    refine wpS_bind (wpS_mono (wpS_forRange (I := fun x c st' => ∃ la of, c = (none, la, of) ∧ st = st' ∧ x + 1 ≤ of ∧ la < of ∧ la ≤ hint ∧ B (hint - la) = false)
      (Q := fun c st' => ∃ la of, c = (none, la, of) ∧ st = st' ∧ la < of ∧ la ≤ hint ∧ B (hint - la) = false ∧ (of ≤ hint → B (hint - of) = true)) ?_ ?_ ⟨0, 1, rfl, rfl, Nat.le_refl _, Nat.zero_lt_one, Nat.zero_le _, hr⟩) ?_)
    · rintro x _ _ _ hx ⟨la, of, rfl, rfl, h3, h4, h5, h6⟩
      dsimp only
      by_cases hge : of ≥ hint + 1
      · rw [if_pos hge]
        exact wpS_pure ⟨la, of, rfl, rfl, h4, h5, h6, fun z => by omega⟩
      · rw [if_neg hge]
        refine wpS_bind (ask (hint - of) _ (by omega) ?_)
        dsimp only
        cases hb : B (hint - of) with
        | true => exact wpS_pure ⟨la, of, rfl, rfl, h4, h5, h6, fun _ => hb⟩
        | false => exact wpS_pure ⟨of, 2 * of + 1, rfl, rfl, by omega, by omega, by omega, hb⟩
    · rintro _ _ ⟨la, of, rfl, rfl, h3, h4, h5, h6⟩
      exact ⟨la, of, rfl, rfl, h4, h5, h6, fun z => by omega⟩
    · rintro _ _ ⟨la, of, rfl, rfl, h4, h5, h6, h7⟩
      dsimp only
      have hlo : ∀ i, i < hint + 1 - min of (hint + 1) → B i = true := fun i hi => mono i (hint - of) (by omega) (by omega) (h7 (by omega))
      have hhi : ∀ i, hint - la ≤ i → i < n → B i = false := fun i h1 h2 => by
        cases hi2 : B i with
        | false => rfl
        | true => exact absurd (mono (hint - la) i h1 h2 hi2) (by rw [h6]; exact Bool.false_ne_true)
      refine wpS_bind (wpS_mono (wpS_forRange (I := fun x c st' => ∃ lo hi, c = (none, lo, hi) ∧ st = st' ∧ lo ≤ hi ∧ hi ≤ n ∧ hi - lo ≤ n - x ∧ (∀ i, i < lo → B i = true) ∧ (∀ i, hi ≤ i → i < n → B i = false))
          (Q := fun c st' => ∃ lo hi, c = (none, lo, hi) ∧ st = st' ∧ hi ≤ n ∧ (∀ i, i < hi → B i = true) ∧ (∀ i, hi ≤ i → i < n → B i = false)) ?_ ?_ ⟨_, _, rfl, rfl, by omega, by omega, by omega, hlo, hhi⟩) ?_)
      · rintro x _ _ _ hx ⟨lo, hi, rfl, rfl, h3, h4, h5, h6, h7⟩
        dsimp only
        by_cases hge : lo ≥ hi
        · rw [if_pos hge]
          exact wpS_pure ⟨lo, hi, rfl, rfl, h4, fun i hi' => h6 i (by omega), h7⟩
        · rw [if_neg hge]
          refine wpS_bind (ask (lo + (hi - lo) / 2) _ (by omega) ?_)
          dsimp only
          cases hb : B (lo + (hi - lo) / 2) with
          | true => exact wpS_pure ⟨lo + (hi - lo) / 2 + 1, hi, rfl, rfl, by omega, h4, by omega, fun i hi' => mono i _ (by omega) (by omega) hb, h7⟩
          | false =>
            refine wpS_pure ⟨lo, lo + (hi - lo) / 2, rfl, rfl, by omega, by omega, by omega, h6, fun i h1 h2 => ?_⟩
            cases hi2 : B i with
            | false => rfl
            | true => exact absurd (mono _ i h1 h2 hi2) (by rw [hb]; exact Bool.false_ne_true)
      · rintro _ _ ⟨lo, hi, rfl, rfl, h3, h4, h5, h6, h7⟩
        exact ⟨lo, hi, rfl, rfl, h4, fun i hi' => h6 i (by omega), h7⟩
      · rintro _ _ ⟨lo, hi, rfl, rfl, h4, h6, h7⟩
        exact wpS_pure (q hi h4 h6 h7)
end
end Srt

set_option Elab.async false
set_option linter.all false
set_option maxRecDepth 100000
namespace Srt
open PySem PySem.Spec PyProof.Rows
section
variable {O : KeyOrd} {key : Keyed → O.α}
def AscL (key : Keyed → O.α) (l : List Keyed) : Prop := l.Pairwise fun x y => O.kle (key x) (key y)
theorem AscL.sub {l m : List Keyed} (h : AscL key m) (s : l.Sublist m) : AscL key l := List.Pairwise.sublist s h
theorem AscL.cut {l : List Keyed} (h : AscL key l) (k : Nat) : ∀ x ∈ l.take k, ∀ y ∈ l.drop k, O.kle (key x) (key y) := by
  have := h
  unfold AscL at this
  rw [← List.take_append_drop k l, List.pairwise_append] at this
  exact this.2.2
theorem AscL.head {l : List Keyed} (h : AscL key l) {i : Nat} (hi : i < l.length) : ∀ y ∈ l.drop i, O.kle (key l[i]) (key y) := by
  intro y hy
  have hs : AscL key (l.drop i) := h.sub (List.drop_sublist _ _)
  rw [List.drop_eq_getElem_cons hi] at hs hy
  rcases List.mem_cons.mp hy with rfl | hy
  · exact KeyOrd.kle_refl _
  · exact List.rel_of_pairwise_cons hs hy
theorem AscL.lastle {l : List Keyed} (h : AscL key l) {i : Nat} (hi : i < l.length) : ∀ y ∈ l.take (i + 1), O.kle (key y) (key l[i]) := by
  intro y hy
  obtain ⟨j, hj, rfl⟩ := List.getElem_of_mem hy
  rw [List.length_take] at hj
  rw [List.getElem_take]
  rcases Nat.lt_or_ge j i with c | c
  · exact List.pairwise_iff_getElem.mp h j i (by omega) hi c
  · obtain rfl : j = i := by omega
    exact KeyOrd.kle_refl _
structure LoInv (key : Keyed → O.α) (A B R : List Keyed) (ia ib : Nat) : Prop where
  pm : R.Perm (A.take ia ++ B.take ib)
  asc : AscL key R
  leA : ∀ x ∈ R, ∀ y ∈ A.drop ia, O.kle (key x) (key y)
  leB : ∀ x ∈ R, ∀ y ∈ B.drop ib, O.kle (key x) (key y)
variable {A B R : List Keyed} {ia ib : Nat}
theorem LoInv.symm (h : LoInv key A B R ia ib) : LoInv key B A R ib ia := ⟨h.pm.trans List.perm_append_comm, h.asc, h.leB, h.leA⟩
theorem LoInv.stepA (h : LoInv key A B R ia ib) (hA : AscL key A) (k : Nat) (hb : ∀ x ∈ (A.drop ia).take k, ∀ y ∈ B.drop ib, O.kle (key x) (key y)) : LoInv key A B (R ++ (A.drop ia).take k) (ia + k) ib := by
  have e : A.take (ia + k) = A.take ia ++ (A.drop ia).take k := List.take_add
  have hd : A.drop (ia + k) = (A.drop ia).drop k := List.drop_drop.symm
  have hs : AscL key (A.drop ia) := hA.sub (List.drop_sublist _ _)
  refine ⟨?_, ?_, ?_, ?_⟩
  · rw [e]
    refine (h.pm.append_right _).trans ?_
    rw [List.append_assoc, List.append_assoc]
    exact List.Perm.append_left _ List.perm_append_comm
  · exact List.pairwise_append.mpr ⟨h.asc, hs.sub (List.take_sublist _ _), fun x hx y hy => h.leA x hx y (List.mem_of_mem_take hy)⟩
  · intro x hx y hy
    rw [hd] at hy
    rcases List.mem_append.mp hx with hx | hx
    · exact h.leA x hx y (List.mem_of_mem_drop hy)
    · exact hs.cut k x hx y hy
  · intro x hx y hy
    rcases List.mem_append.mp hx with hx | hx
    · exact h.leB x hx y hy
    · exact hb x hx y hy
theorem LoInv.stepB (h : LoInv key A B R ia ib) (hB : AscL key B) (k : Nat) (ha : ∀ x ∈ (B.drop ib).take k, ∀ y ∈ A.drop ia, O.kle (key x) (key y)) : LoInv key A B (R ++ (B.drop ib).take k) ia (ib + k) := (h.symm.stepA hB k ha).symm
theorem take1 {l : List Keyed} {i : Nat} (hi : i < l.length) : (l.drop i).take 1 = [l[i]] := by rw [List.drop_eq_getElem_cons hi]; rfl
theorem LoInv.pushA (h : LoInv key A B R ia ib) (hA : AscL key A) (hi : ia < A.length) (hb : ∀ y ∈ B.drop ib, O.kle (key A[ia]) (key y)) : LoInv key A B (R ++ [A[ia]]) (ia + 1) ib := by
  have := h.stepA hA 1 (fun x hx => by rw [take1 hi] at hx; rw [List.mem_singleton.mp hx]; exact hb)
  rwa [take1 hi] at this
theorem LoInv.pushB (h : LoInv key A B R ia ib) (hB : AscL key B) (hi : ib < B.length) (ha : ∀ y ∈ A.drop ia, O.kle (key B[ib]) (key y)) : LoInv key A B (R ++ [B[ib]]) ia (ib + 1) := (h.symm.pushA hB hi ha).symm
def Mgd (key : Keyed → O.α) (A B R : List Keyed) : Prop := AscL key R ∧ R.Perm (A ++ B)
theorem LoInv.fin (h : LoInv key A B R ia ib) (hA : AscL key A) (hB : AscL key B) (hx : ∀ x ∈ A.drop ia, ∀ y ∈ B.drop ib, O.kle (key x) (key y)) : Mgd key A B (R ++ A.drop ia ++ B.drop ib) := by
  refine ⟨?_, ?_⟩
  · refine List.pairwise_append.mpr ⟨List.pairwise_append.mpr ⟨h.asc, hA.sub (List.drop_sublist _ _), h.leA⟩, hB.sub (List.drop_sublist _ _), fun x hx' y hy => ?_⟩
    rcases List.mem_append.mp hx' with z | z
    · exact h.leB x z y hy
    · exact hx x z y hy
  · have e : (A ++ B).Perm (A.take ia ++ B.take ib ++ (A.drop ia ++ B.drop ib)) := by
      have h1 : (A.take ia ++ A.drop ia ++ (B.take ib ++ B.drop ib)).Perm (A.take ia ++ B.take ib ++ (A.drop ia ++ B.drop ib)) := by
        rw [List.append_assoc, List.append_assoc]
        refine List.Perm.append_left _ ?_
        rw [← List.append_assoc, ← List.append_assoc]
        exact List.Perm.append_right _ List.perm_append_comm
      rwa [List.take_append_drop, List.take_append_drop] at h1
    rw [List.append_assoc]
    exact (h.pm.append_right _).trans e.symm
theorem LoInv.fin2 (h : LoInv key A B R ia ib) (hA : AscL key A) (hB : AscL key B) (hx : ∀ x ∈ B.drop ib, ∀ y ∈ A.drop ia, O.kle (key x) (key y)) : Mgd key A B (R ++ B.drop ib ++ A.drop ia) :=
  let ⟨h1, h2⟩ := h.symm.fin hB hA hx
  ⟨h1, h2.trans List.perm_append_comm⟩
structure HiInv (key : Keyed → O.α) (A B S : List Keyed) (na nb : Nat) : Prop where
  pm : S.Perm (A.drop na ++ B.drop nb)
  asc : AscL key S
  leA : ∀ x ∈ A.take na, ∀ y ∈ S, O.kle (key x) (key y)
  leB : ∀ x ∈ B.take nb, ∀ y ∈ S, O.kle (key x) (key y)
variable {S : List Keyed} {na nb : Nat}
theorem HiInv.symm (h : HiInv key A B S na nb) : HiInv key B A S nb na := ⟨h.pm.trans List.perm_append_comm, h.asc, h.leB, h.leA⟩
theorem HiInv.stepA (h : HiInv key A B S na nb) (hA : AscL key A) (k : Nat) (hk : k ≤ na) (hb : ∀ x ∈ B.take nb, ∀ y ∈ (A.take na).drop k, O.kle (key x) (key y)) : HiInv key A B ((A.take na).drop k ++ S) k nb := by
  have hs : AscL key (A.take na) := hA.sub (List.take_sublist _ _)
  have ht : A.take k = (A.take na).take k := by rw [List.take_take, Nat.min_eq_left hk]
  have e : A.drop k = (A.take na).drop k ++ A.drop na := by
    have : (A.take na ++ A.drop na).drop k = (A.take na).drop k ++ A.drop na := by
      by_cases c : na ≤ A.length
      · rw [List.drop_append_of_le_length (by rw [List.length_take]; omega)]
      · rw [List.drop_eq_nil_of_le (as := A) (i := na) (by omega), List.append_nil, List.append_nil]
    rwa [List.take_append_drop] at this
  refine ⟨?_, ?_, ?_, ?_⟩
  · rw [e, List.append_assoc]
    exact List.Perm.append_left _ h.pm
  · exact List.pairwise_append.mpr ⟨hs.sub (List.drop_sublist _ _), h.asc, fun x hx y hy => h.leA x (List.mem_of_mem_drop hx) y hy⟩
  · intro x hx y hy
    rw [ht] at hx
    rcases List.mem_append.mp hy with hy | hy
    · exact hs.cut k x hx y hy
    · exact h.leA x (List.mem_of_mem_take hx) y hy
  · intro x hx y hy
    rcases List.mem_append.mp hy with hy | hy
    · exact hb x hx y hy
    · exact h.leB x hx y hy
theorem HiInv.stepB (h : HiInv key A B S na nb) (hB : AscL key B) (k : Nat) (hk : k ≤ nb) (ha : ∀ x ∈ A.take na, ∀ y ∈ (B.take nb).drop k, O.kle (key x) (key y)) : HiInv key A B ((B.take nb).drop k ++ S) na k := (h.symm.stepA hB k hk ha).symm
theorem drop1 {l : List Keyed} {i : Nat} (hi : i < l.length) : (l.take (i + 1)).drop i = [l[i]] := by
  rw [List.take_succ_eq_append_getElem hi, List.drop_append_of_le_length (by rw [List.length_take]; omega), List.drop_eq_nil_of_le (by rw [List.length_take]; omega)]; rfl
theorem HiInv.pushA (h : HiInv key A B S (na + 1) nb) (hA : AscL key A) (hi : na < A.length) (hb : ∀ x ∈ B.take nb, O.kle (key x) (key A[na])) : HiInv key A B (A[na] :: S) na nb := by
  have := h.stepA hA na (by omega) (fun x hx y hy => by rw [drop1 hi] at hy; rw [List.mem_singleton.mp hy]; exact hb x hx)
  rwa [drop1 hi] at this
theorem HiInv.pushB (h : HiInv key A B S na (nb + 1)) (hB : AscL key B) (hi : nb < B.length) (ha : ∀ x ∈ A.take na, O.kle (key x) (key B[nb])) : HiInv key A B (B[nb] :: S) na nb := (h.symm.pushA hB hi ha).symm
theorem HiInv.fin (h : HiInv key A B S na nb) (hA : AscL key A) (hB : AscL key B) (hx : ∀ x ∈ A.take na, ∀ y ∈ B.take nb, O.kle (key x) (key y)) : Mgd key A B (A.take na ++ B.take nb ++ S) := by
  refine ⟨?_, ?_⟩
  · refine List.pairwise_append.mpr ⟨List.pairwise_append.mpr ⟨hA.sub (List.take_sublist _ _), hB.sub (List.take_sublist _ _), hx⟩, h.asc, fun x hx' y hy => ?_⟩
    rcases List.mem_append.mp hx' with z | z
    · exact h.leA x z y hy
    · exact h.leB x z y hy
  · have e : (A ++ B).Perm (A.take na ++ B.take nb ++ (A.drop na ++ B.drop nb)) := by
      have h1 : (A.take na ++ A.drop na ++ (B.take nb ++ B.drop nb)).Perm (A.take na ++ B.take nb ++ (A.drop na ++ B.drop nb)) := by
        rw [List.append_assoc, List.append_assoc]
        refine List.Perm.append_left _ ?_
        rw [← List.append_assoc, ← List.append_assoc]
        exact List.Perm.append_right _ List.perm_append_comm
      rwa [List.take_append_drop, List.take_append_drop] at h1
    exact (h.pm.append_left _).trans e.symm
theorem HiInv.fin2 (h : HiInv key A B S na nb) (hA : AscL key A) (hB : AscL key B) (hx : ∀ x ∈ B.take nb, ∀ y ∈ A.take na, O.kle (key x) (key y)) : Mgd key A B (B.take nb ++ A.take na ++ S) :=
  let ⟨h1, h2⟩ := h.symm.fin hB hA hx
  ⟨h1, h2.trans List.perm_append_comm⟩
end
def SameSt (st st' : SortSt) : Prop := arrOf st' = arrOf st ∧ kindOf st' = kindOf st ∧ pendingOf st' = pendingOf st ∧ failedOf st' = failedOf st
theorem SameSt.rfl' {st : SortSt} : SameSt st st := ⟨rfl, rfl, rfl, rfl⟩
theorem SameSt.tr {a b c : SortSt} (h : SameSt a b) (g : SameSt b c) : SameSt a c := ⟨g.1.trans h.1, g.2.1.trans h.2.1, g.2.2.1.trans h.2.2.1, g.2.2.2.trans h.2.2.2⟩
def setMin' : Nat → StateT SortSt Sem Unit := sortPriv% PySem.Builtin.setMinGallop
section
variable {prog : Program} {w : World} {Ar : Around} {E : Value → Shared → Prop} {s : Shared} {κ : SortKind} {P : Keyed → Prop} {O : KeyOrd} {key : Keyed → O.α}
theorem wpS_setMin {g : Nat} {st : SortSt} {Q : Unit → SortSt → Prop} (q : ∀ st', SameSt st st' → Q () st') : wpS (model prog w) Ar E s (setMin' g) Q st := by
  unfold setMin'
  exact wpS_modify (q _ ⟨rfl, rfl, rfl, rfl⟩)
theorem Ord.ans (C : Ord (model prog w) Ar E s κ P O key) : Ans (model prog w) Ar E s κ P (fun x y => O.blt (key x) (key y)) :=
  ⟨fun x y px py st Q hk q => C x y px py st Q hk q, fun x y _ _ h => KeyOrd.klt_asymm h, fun x y z _ _ _ h1 h2 => KeyOrd.kle_trans (O := O) h1 h2⟩
theorem gal_ok {left : Bool} {x0 : Keyed} {arr : Array Keyed} {base n hint : Nat} {seg : List Keyed} {st : SortSt} {Q : Option Nat → SortSt → Prop} (C : Ord (model prog w) Ar E s κ P O key) (hk : kindOf st = κ) (hl : seg.length = n) (hseg : ∀ i, i < n → arr[base + i]? = seg[i]?)
    (asc : AscL key seg) (pseg : ∀ x ∈ seg, P x) (px : P x0) (hh : hint < n)
    (q : ∀ k, k ≤ n → (∀ x ∈ seg.take k, O.kle (key x) (key x0)) → (∀ x ∈ seg.drop k, O.kle (key x0) (key x)) → Q (some k) st) : wpS (model prog w) Ar E s (gallop' left x0 arr base n hint) Q st := by
  have el : ∀ i, i < n → ∃ x, seg[i]? = some x ∧ P x := fun i hi => ⟨seg[i]'(by omega), List.getElem?_eq_getElem _, pseg _ (List.getElem_mem _)⟩
  refine gallop_ok (B := fun i => match seg[i]? with | some x => beyondV (fun x y => O.blt (key x) (key y)) left x0 x | none => false) C.ans px hk hh (fun i hi => ?_) (fun i j hij hj hb => ?_) fun k hkn h1 h2 => q k hkn (fun x hx => ?_) (fun x hx => ?_)
  · obtain ⟨x, hx, p⟩ := el i hi
    exact ⟨x, by rw [hseg i hi, hx], p, by rw [hx]⟩
  · obtain ⟨x, hx, p⟩ := el i (by omega)
    obtain ⟨y, hy, p2⟩ := el j hj
    simp only [hx]
    simp only [hy] at hb
    have hxy : O.kle (key x) (key y) := by
      have hx' := (List.getElem?_eq_some_iff.mp hx)
      have hy' := (List.getElem?_eq_some_iff.mp hy)
      obtain ⟨l1, e1⟩ := hx'
      obtain ⟨l2, e2⟩ := hy'
      rcases Nat.lt_or_ge i j with c | c
      · rw [← e1, ← e2]; exact List.pairwise_iff_getElem.mp asc i j l1 l2 c
      · obtain rfl : i = j := by omega
        rw [← e1, ← e2]; exact KeyOrd.kle_refl _
    cases left with
    | true =>
      have hb : O.klt (key y) (key x0) := hb
      exact KeyOrd.klt_of_kle_of_klt hxy hb
    | false =>
      have hb : (!O.blt (key x0) (key y)) = true := hb
      have hb : O.blt (key x0) (key y) = false := by simpa using hb
      have hb : O.kle (key y) (key x0) := hb
      have := KeyOrd.kle_trans hxy hb
      have : O.blt (key x0) (key x) = false := this
      show (!O.blt (key x0) (key x)) = true
      rw [this]; rfl
  · obtain ⟨i, hi, e⟩ := List.getElem_of_mem hx
    rw [List.length_take] at hi
    rw [List.getElem_take] at e
    have := h1 i (by omega)
    rw [List.getElem?_eq_getElem (by omega)] at this
    simp only [e] at this
    cases left with
    | true => exact KeyOrd.kle_of_klt this
    | false =>
      have this : (!O.blt (key x0) (key x)) = true := this
      show O.blt (key x0) (key x) = false
      simpa using this
  · obtain ⟨i, hi, e⟩ := List.getElem_of_mem hx
    rw [List.length_drop] at hi
    rw [List.getElem_drop] at e
    have := h2 (k + i) (by omega) (by omega)
    rw [List.getElem?_eq_getElem (by omega)] at this
    simp only [e] at this
    cases left with
    | true => exact this
    | false =>
      have this : (!O.blt (key x0) (key x)) = false := this
      have this : O.blt (key x0) (key x) = true := by simpa using this
      have this : O.klt (key x0) (key x) := this
      exact KeyOrd.kle_of_klt this
theorem toExtract {a : Array Keyed} {i j : Nat} : (a.extract i j).toList = (a.toList.drop i).take (j - i) := by rw [Array.toList_extract]
theorem toTail {a : Array Keyed} {i : Nat} : (a.extract i a.size).toList = a.toList.drop i := by
  rw [toExtract]; exact List.take_of_length_le (by rw [List.length_drop, Array.length_toList]; exact Nat.le_refl _)
theorem el_at {a : Array Keyed} {i : Nat} (h : i < a.size) : a[i]? = some (a.toList[i]'(by rw [Array.length_toList]; exact h)) := by
  rw [Array.getElem?_eq_getElem h, Array.getElem_toList]
structure MI (P : Keyed → Prop) (key : Keyed → O.α) (a b : Array Keyed) : Prop where
  pa : ∀ x ∈ a.toList, P x
  pb : ∀ x ∈ b.toList, P x
  ha : AscL key a.toList
  hb : AscL key b.toList
  na : 0 < a.size
  nb : 0 < b.size
  first : ∀ x ∈ b.toList.take 1, ∀ y ∈ a.toList, O.kle (key x) (key y)
  last : ∀ x ∈ b.toList, ∀ y ∈ a.toList.drop (a.size - 1), O.kle (key x) (key y)
abbrev LSt := Option (Array Keyed) × Array Keyed × Nat × Nat × Nat × Nat × Nat
def loZ (a b o : Array Keyed) (ia ib mg ac bc : Nat) : StateT SortSt Sem (ForInStep LSt) := do
  let x ← elem' a ia
  if (ia + 1 + 1 == a.size) = true then pure (.done (some (o.push x ++ b.extract ib b.size ++ a.extract (ia + 1) a.size), o.push x, ia + 1, ib, mg, ac, bc))
  else if (decide (ac < 7) && decide (bc < 7)) = true then pure (.done (none, o.push x, ia + 1, ib, mg, ac, bc))
  else pure (.yield (none, o.push x, ia + 1, ib, mg, ac, bc))
def loY (a b o : Array Keyed) (ia ib mg ac bc : Nat) : StateT SortSt Sem (ForInStep LSt) := do
  let x ← elem' b ib
  if (ib + 1 == b.size) = true then pure (.done (some (o.push x ++ a.extract ia a.size ++ b.extract (ib + 1) b.size), o.push x, ia, ib + 1, mg, ac, bc))
  else do
    let y ← elem' a ia
    let z ← gallop' true y b (ib + 1) (b.size - (ib + 1)) 0
    match z with
    | some k => if k > 0 then (if (ib + 1 + k == b.size) = true then pure (.done (some (o.push x ++ b.extract (ib + 1) (ib + 1 + k) ++ a.extract ia a.size ++ b.extract (ib + 1 + k) b.size), o.push x ++ b.extract (ib + 1) (ib + 1 + k), ia, ib + 1 + k, mg, ac, k))
        else loZ a b (o.push x ++ b.extract (ib + 1) (ib + 1 + k)) ia (ib + 1 + k) mg ac k) else loZ a b (o.push x) ia (ib + 1) mg ac k
    | _ => pure (.done (some (o.push x ++ a.extract ia a.size ++ b.extract (ib + 1) b.size), o.push x, ia, ib + 1, mg, ac, bc))
def loX (a b o : Array Keyed) (ia ib ac bc mg : Nat) : StateT SortSt Sem (ForInStep LSt) := do
  setMin' mg
  let x ← elem' b ib
  let z ← gallop' false x a ia (a.size - ia) 0
  match z with
  | some k => if k > 0 then (if (ia + k + 1 == a.size) = true then pure (.done (some (o ++ a.extract ia (ia + k) ++ b.extract ib b.size ++ a.extract (ia + k) a.size), o ++ a.extract ia (ia + k), ia + k, ib, mg, k, bc))
      else if (ia + k == a.size) = true then pure (.done (some (o ++ a.extract ia (ia + k) ++ a.extract (ia + k) a.size ++ b.extract ib b.size), o ++ a.extract ia (ia + k), ia + k, ib, mg, k, bc))
      else loY a b (o ++ a.extract ia (ia + k)) (ia + k) ib mg k bc) else loY a b o ia ib mg k bc
  | _ => pure (.done (some (o ++ a.extract ia a.size ++ b.extract ib b.size), o, ia, ib, mg, ac, bc))
def LIn (key : Keyed → O.α) (a b : Array Keyed) (n0 : Nat) (c : LSt) : Prop := ∃ (o : Array Keyed) (la lb mg ac bc : Nat), c = (none, o, la, lb, mg, ac, bc) ∧ LoInv key a.toList b.toList o.toList la lb ∧ la + 1 < a.size ∧ lb < b.size ∧ n0 ≤ la + lb
def LOut (key : Keyed → O.α) (a b : Array Keyed) (n0 : Nat) (c : LSt) : Prop := (∃ (r : Array Keyed) (rest : Array Keyed × Nat × Nat × Nat × Nat × Nat), c = (some r, rest) ∧ Mgd key a.toList b.toList r.toList) ∨ LIn key a b n0 c
def LP (key : Keyed → O.α) (a b : Array Keyed) (n0 : Nat) (st : SortSt) : ForInStep LSt → SortSt → Prop
  | .done c, st' => SameSt st st' ∧ LOut key a b n0 c
  | .yield c, st' => SameSt st st' ∧ LIn key a b n0 c
section
variable {a b o : Array Keyed} {ia ib mg ac bc n0 : Nat} {st st0 : SortSt}
theorem MI.dn (M : MI P key a b) (h : LoInv key a.toList b.toList o.toList ia b.size) : Mgd key a.toList b.toList (o ++ a.extract ia a.size ++ b.extract b.size b.size).toList := by
  rw [Array.toList_append, Array.toList_append, toTail, toTail]
  exact h.fin M.ha M.hb fun x _ y hy => by rw [List.drop_eq_nil_of_le (by rw [Array.length_toList]; exact Nat.le_refl _)] at hy; cases hy
theorem MI.dn2 (M : MI P key a b) (h : LoInv key a.toList b.toList o.toList a.size ib) : Mgd key a.toList b.toList (o ++ a.extract a.size a.size ++ b.extract ib b.size).toList := by
  rw [Array.toList_append, Array.toList_append, toTail, toTail]
  exact h.fin M.ha M.hb fun x hx y hy => by rw [List.drop_eq_nil_of_le (by rw [Array.length_toList]; exact Nat.le_refl _)] at hx; cases hx
theorem MI.ls (M : MI P key a b) (e : ia + 1 = a.size) (h : LoInv key a.toList b.toList o.toList ia ib) : Mgd key a.toList b.toList (o ++ b.extract ib b.size ++ a.extract ia a.size).toList := by
  rw [Array.toList_append, Array.toList_append, toTail, toTail]
  exact h.fin2 M.ha M.hb fun x hx y hy => M.last x (List.mem_of_mem_drop hx) y (by rw [show a.size - 1 = ia by omega]; exact hy)
theorem lt_len {c : Array Keyed} {i : Nat} (h : i < c.size) : i < c.toList.length := by rw [Array.length_toList]; exact h
theorem eqT {n m : Nat} (h : n = m) : (n == m) = true := by simpa using h
theorem eqF {n m : Nat} (h : ¬ n = m) : ¬ (n == m) = true := by simpa using h
theorem loZ_ok (M : MI P key a b) (hs : SameSt st0 st) (g : LoInv key a.toList b.toList o.toList ia ib) (g1 : ia + 1 < a.size) (g2 : ib < b.size) (g3 : n0 ≤ ia + ib) (hle : ∀ y ∈ b.toList.drop ib, O.kle (key (a.toList[ia]'(lt_len (by omega)))) (key y)) :
    wpS (model prog w) Ar E s (loZ a b o ia ib mg ac bc) (LP key a b n0 st0) st := by
  refine wpS_bind (wpS_elem (el_at (by omega)) ?_)
  have g4 : LoInv key a.toList b.toList (o.push (a.toList[ia]'(lt_len (by omega)))).toList (ia + 1) ib := by
    rw [Array.toList_push]; exact g.pushA M.ha (lt_len (by omega)) hle
  by_cases e : ia + 1 + 1 = a.size
  · rw [if_pos (eqT e)]
    exact wpS_pure ⟨hs, .inl ⟨_, _, rfl, M.ls e g4⟩⟩
  rw [if_neg (eqF e)]
  have fin : ∀ mg ac bc, LIn key a b n0 (none, o.push (a.toList[ia]'(lt_len (by omega))), ia + 1, ib, mg, ac, bc) := fun mg ac bc => ⟨_, _, _, _, _, _, rfl, g4, by omega, g2, by omega⟩
  split
  · exact wpS_pure ⟨hs, .inr (fin _ _ _)⟩
  · exact wpS_pure ⟨hs, fin _ _ _⟩
theorem loY_ok (C : Ord (model prog w) Ar E s κ P O key) (M : MI P key a b) (hk : kindOf st = κ) (hs : SameSt st0 st) (g : LoInv key a.toList b.toList o.toList ia ib) (g1 : ia + 1 < a.size) (g2 : ib < b.size) (g3 : n0 ≤ ia + ib) (hle : ∀ y ∈ a.toList.drop ia, O.kle (key (b.toList[ib]'(lt_len g2))) (key y)) :
    wpS (model prog w) Ar E s (loY a b o ia ib mg ac bc) (LP key a b n0 st0) st := by
  refine wpS_bind (wpS_elem (el_at g2) ?_)
  have h2 : LoInv key a.toList b.toList (o.push (b.toList[ib]'(lt_len g2))).toList ia (ib + 1) := by
    rw [Array.toList_push]; exact g.pushB M.hb (lt_len g2) hle
  generalize o.push (b.toList[ib]'(lt_len g2)) = o2 at h2 ⊢
  by_cases d : ib + 1 = b.size
  · rw [if_pos (eqT d)]
    rw [d] at h2 ⊢
    exact wpS_pure ⟨hs, .inl ⟨_, _, rfl, M.dn h2⟩⟩
  rw [if_neg (eqF d)]
  have la : a.toList.length = a.size := Array.length_toList
  have lb : b.toList.length = b.size := Array.length_toList
  refine wpS_bind (wpS_elem (el_at (by omega)) (wpS_bind (gal_ok (seg := b.toList.drop (ib + 1)) C hk (by rw [List.length_drop]; omega) (fun i hi => by rw [List.getElem?_drop, Array.getElem?_toList]) (M.hb.sub (List.drop_sublist _ _)) (fun x hx => M.pb x (List.mem_of_mem_drop hx)) (M.pa _ (List.getElem_mem (lt_len (by omega)))) (by omega) fun m hm1 hm2 hm3 => ?_)))
  dsimp only
  by_cases cm : m > 0
  · rw [if_pos cm]
    have h3 : LoInv key a.toList b.toList (o2 ++ b.extract (ib + 1) (ib + 1 + m)).toList ia (ib + 1 + m) := by
      rw [Array.toList_append, toExtract, show ib + 1 + m - (ib + 1) = m by omega]
      exact h2.stepB M.hb m fun x hx y hy => KeyOrd.kle_trans (hm2 x hx) (M.ha.head (lt_len (by omega)) y hy)
    generalize o2 ++ b.extract (ib + 1) (ib + 1 + m) = o3 at h3 ⊢
    by_cases d3 : ib + 1 + m = b.size
    · rw [if_pos (eqT d3)]
      rw [d3] at h3 ⊢
      exact wpS_pure ⟨hs, .inl ⟨_, _, rfl, M.dn h3⟩⟩
    rw [if_neg (eqF d3)]
    exact loZ_ok M hs h3 g1 (by omega) (by omega) fun y hy => hm3 y (by rw [List.drop_drop]; exact hy)
  · rw [if_neg cm]
    obtain rfl : m = 0 := by omega
    exact loZ_ok M hs h2 g1 (by omega) (by omega) fun y hy => hm3 y hy
theorem loX_ok (C : Ord (model prog w) Ar E s κ P O key) (M : MI P key a b) (hk : kindOf st = κ) (hs : SameSt st0 st) (g : LoInv key a.toList b.toList o.toList ia ib) (g1 : ia + 1 < a.size) (g2 : ib < b.size) (g3 : n0 ≤ ia + ib) :
    wpS (model prog w) Ar E s (loX a b o ia ib ac bc mg) (LP key a b n0 st0) st := by
  refine wpS_bind (wpS_setMin fun st3 s3 => ?_)
  have hs3 := hs.tr s3
  have hk3 : kindOf st3 = κ := s3.2.1.trans hk
  have la : a.toList.length = a.size := Array.length_toList
  refine wpS_bind (wpS_elem (el_at g2) (wpS_bind (gal_ok (seg := a.toList.drop ia) C hk3 (by rw [List.length_drop]; omega) (fun i hi => by rw [List.getElem?_drop, Array.getElem?_toList]) (M.ha.sub (List.drop_sublist _ _)) (fun x hx => M.pa x (List.mem_of_mem_drop hx)) (M.pb _ (List.getElem_mem (lt_len g2))) (by omega) fun k hk1 hk2 hk3' => ?_)))
  dsimp only
  by_cases ck : k > 0
  · rw [if_pos ck]
    have g' : LoInv key a.toList b.toList (o ++ a.extract ia (ia + k)).toList (ia + k) ib := by
      rw [Array.toList_append, toExtract, show ia + k - ia = k by omega]
      exact g.stepA M.ha k fun x hx y hy => KeyOrd.kle_trans (hk2 x hx) (M.hb.head (lt_len g2) y hy)
    generalize o ++ a.extract ia (ia + k) = o' at g' ⊢
    by_cases c : ia + k + 1 = a.size
    · rw [if_pos (eqT c)]
      exact wpS_pure ⟨hs3, .inl ⟨_, _, rfl, M.ls c g'⟩⟩
    rw [if_neg (eqF c)]
    by_cases c' : ia + k = a.size
    · rw [if_pos (eqT c')]
      rw [c'] at g' ⊢
      exact wpS_pure ⟨hs3, .inl ⟨_, _, rfl, M.dn2 g'⟩⟩
    rw [if_neg (eqF c')]
    exact loY_ok C M hk3 hs3 g' (by omega) g2 (by omega) fun y hy => hk3' y (by rw [List.drop_drop]; exact hy)
  · rw [if_neg ck]
    obtain rfl : k = 0 := by omega
    exact loY_ok C M hk3 hs3 g g1 g2 g3 fun y hy => hk3' y hy
def lo1 (a b o : Array Keyed) (ia ib ac bc mg : Nat) : StateT SortSt Sem (ForInStep (Option (Array Keyed) × Array Keyed × Nat × Nat × Nat × Nat)) := do
  let x ← elem' b ib
  let y ← elem' a ia
  let z ← lt' x y
  match z with
  | some c =>
    if c = true then do
      let x ← elem' b ib
      if (ib + 1 == b.size) = true then pure (.done (some (o.push x ++ a.extract ia a.size ++ b.extract (ib + 1) b.size), o.push x, ia, ib + 1, 0, bc + 1))
      else if bc + 1 ≥ mg then pure (.done (none, o.push x, ia, ib + 1, 0, bc + 1)) else pure (.yield (none, o.push x, ia, ib + 1, 0, bc + 1))
    else do
      let x ← elem' a ia
      if (ia + 1 + 1 == a.size) = true then pure (.done (some (o.push x ++ b.extract ib b.size ++ a.extract (ia + 1) a.size), o.push x, ia + 1, ib, ac + 1, 0))
      else if ac + 1 ≥ mg then pure (.done (none, o.push x, ia + 1, ib, ac + 1, 0)) else pure (.yield (none, o.push x, ia + 1, ib, ac + 1, 0))
  | _ => pure (.done (some (o ++ a.extract ia a.size ++ b.extract ib b.size), o, ia, ib, ac, bc))
def OIn (key : Keyed → O.α) (a b : Array Keyed) (n0 : Nat) (c : Option (Array Keyed) × Array Keyed × Nat × Nat × Nat × Nat) : Prop := ∃ (o : Array Keyed) (la lb ac bc : Nat), c = (none, o, la, lb, ac, bc) ∧ LoInv key a.toList b.toList o.toList la lb ∧ la + 1 < a.size ∧ lb < b.size ∧ n0 ≤ la + lb
def OP (key : Keyed → O.α) (a b : Array Keyed) (n0 : Nat) (st : SortSt) : ForInStep (Option (Array Keyed) × Array Keyed × Nat × Nat × Nat × Nat) → SortSt → Prop
  | .done c, st' => st' = st ∧ ((∃ (r : Array Keyed) (rest : Array Keyed × Nat × Nat × Nat × Nat), c = (some r, rest) ∧ Mgd key a.toList b.toList r.toList) ∨ OIn key a b (n0 + 1) c)
  | .yield c, st' => st' = st ∧ OIn key a b (n0 + 1) c
theorem lo1_ok (C : Ord (model prog w) Ar E s κ P O key) (M : MI P key a b) (hk : kindOf st = κ) (g : LoInv key a.toList b.toList o.toList ia ib) (g1 : ia + 1 < a.size) (g2 : ib < b.size) (g3 : n0 ≤ ia + ib) :
    wpS (model prog w) Ar E s (lo1 a b o ia ib ac bc mg) (OP key a b n0 st) st := by
  have hja : ia < a.toList.length := lt_len (by omega)
  have hjb : ib < b.toList.length := lt_len g2
  refine wpS_bind (wpS_elem (el_at g2) (wpS_bind (wpS_elem (el_at (by omega)) (wpS_bind (C _ _ (M.pb _ (List.getElem_mem hjb)) (M.pa _ (List.getElem_mem hja)) _ _ hk ?_)))))
  dsimp only
  cases hw : O.blt (key b.toList[ib]) (key a.toList[ia]) with
  | true =>
    have hw : O.klt (key b.toList[ib]) (key a.toList[ia]) := hw
    rw [if_pos rfl]
    refine wpS_bind (wpS_elem (el_at g2) ?_)
    have g' : LoInv key a.toList b.toList (o.push b.toList[ib]).toList ia (ib + 1) := by
      rw [Array.toList_push]
      exact g.pushB M.hb hjb fun z hz => KeyOrd.kle_trans (KeyOrd.kle_of_klt hw) (M.ha.head hja z hz)
    generalize o.push b.toList[ib] = o2 at g' ⊢
    by_cases c : ib + 1 = b.size
    · rw [if_pos (eqT c)]
      rw [c] at g' ⊢
      exact wpS_pure ⟨rfl, .inl ⟨_, _, rfl, M.dn g'⟩⟩
    · rw [if_neg (eqF c)]
      have fin : OIn key a b (n0 + 1) (none, o2, ia, ib + 1, 0, bc + 1) := ⟨_, _, _, _, _, rfl, g', g1, by omega, by omega⟩
      split
      · exact wpS_pure ⟨rfl, .inr fin⟩
      · exact wpS_pure ⟨rfl, fin⟩
  | false =>
    have hw : O.kle (key a.toList[ia]) (key b.toList[ib]) := hw
    rw [if_neg Bool.false_ne_true]
    refine wpS_bind (wpS_elem (el_at (by omega)) ?_)
    have g' : LoInv key a.toList b.toList (o.push a.toList[ia]).toList (ia + 1) ib := by
      rw [Array.toList_push]
      exact g.pushA M.ha hja fun z hz => KeyOrd.kle_trans hw (M.hb.head hjb z hz)
    generalize o.push a.toList[ia] = o2 at g' ⊢
    by_cases c : ia + 1 + 1 = a.size
    · rw [if_pos (eqT c)]
      exact wpS_pure ⟨rfl, .inl ⟨_, _, rfl, M.ls c g'⟩⟩
    · rw [if_neg (eqF c)]
      have fin : OIn key a b (n0 + 1) (none, o2, ia + 1, ib, ac + 1, 0) := ⟨_, _, _, _, _, rfl, g', by omega, g2, by omega⟩
      split
      · exact wpS_pure ⟨rfl, .inr fin⟩
      · exact wpS_pure ⟨rfl, fin⟩
end
abbrev OSt := Option (Array Keyed) × Array Keyed × Nat × Nat × Nat × Nat
abbrev RSt := Option (Array Keyed) × Array Keyed × Nat × Nat × Nat
def RIn (key : Keyed → O.α) (a b : Array Keyed) (n0 : Nat) (st : SortSt) (c : RSt) (st' : SortSt) : Prop := ∃ (out : Array Keyed) (ia ib mg : Nat), c = (none, out, ia, ib, mg) ∧ SameSt st st' ∧ LoInv key a.toList b.toList out.toList ia ib ∧ ia + 1 < a.size ∧ ib < b.size ∧ n0 ≤ ia + ib
def RP (key : Keyed → O.α) (a b : Array Keyed) (n0 : Nat) (st : SortSt) : ForInStep RSt → SortSt → Prop
  | .done c, st' => ∃ (r : Array Keyed) (rest : Array Keyed × Nat × Nat × Nat), c = (some r, rest) ∧ SameSt st st' ∧ Mgd key a.toList b.toList r.toList
  | .yield c, st' => RIn key a b (n0 + 1) st c st'
theorem loR_gen {a b out : Array Keyed} {ia ib mg n0 : Nat} {st st1 : SortSt} {f1 : Nat → OSt → StateT SortSt Sem (ForInStep OSt)} {f2 : Nat → LSt → StateT SortSt Sem (ForInStep LSt)} {g : OSt → StateT SortSt Sem (ForInStep RSt)} (hs : SameSt st st1) (hi : LoInv key a.toList b.toList out.toList ia ib) (h1 : ia + 1 < a.size) (h2 : ib < b.size) (h3 : n0 ≤ ia + ib)
    (H1 : ∀ y n1 o ja jb ac bc, LoInv key a.toList b.toList o.toList ja jb → ja + 1 < a.size → jb < b.size → n1 ≤ ja + jb → wpS (model prog w) Ar E s (f1 y (none, o, ja, jb, ac, bc)) (OP key a b n1 st1) st1)
    (G1 : ∀ r o ja jb ac bc Q, Q (ForInStep.done (some r, o, ja, jb, mg)) st1 → wpS (model prog w) Ar E s (g (some r, o, ja, jb, ac, bc)) Q st1)
    (G2 : ∀ o ja jb ac bc, LoInv key a.toList b.toList o.toList ja jb → ja + 1 < a.size → jb < b.size → n0 + 1 ≤ ja + jb → wpS (model prog w) Ar E s (g (none, o, ja, jb, ac, bc)) (RP key a b n0 st) st1) :
    wpS (model prog w) Ar E s (forIn [0:a.size + b.size] ((none, out, ia, ib, 0, 0) : OSt) f1 >>= g) (RP key a b n0 st) st1 := by
  refine wpS_bind (wpS_mono (wpS_forRange (I := fun y c st' => st' = st1 ∧ OIn key a b (ia + ib + y) c)
    (Q := fun c st' => st' = st1 ∧ ((∃ (r : Array Keyed) (rest : Array Keyed × Nat × Nat × Nat × Nat), c = (some r, rest) ∧ Mgd key a.toList b.toList r.toList) ∨ OIn key a b (ia + ib + 1) c)) ?_ ?_ ⟨rfl, out, ia, ib, 0, 0, rfl, hi, h1, h2, Nat.le_refl _⟩) ?_)
  · rintro y _ _ _ hy ⟨rfl, o, ja, jb, ac, bc, rfl, g, g1, g2, g3⟩
    refine wpS_mono (H1 y (ia + ib + y) o ja jb ac bc g g1 g2 g3) ?_
    rintro (⟨c⟩ | ⟨c⟩) st' h
    · exact ⟨h.1, h.2.imp id fun ⟨o, la, lb, ac, bc, e, g, g1, g2, g3⟩ => ⟨o, la, lb, ac, bc, e, g, g1, g2, by omega⟩⟩
    · exact h
  · rintro _ _ ⟨rfl, o, ja, jb, ac, bc, rfl, g, g1, g2, g3⟩
    exact ⟨rfl, .inr ⟨o, ja, jb, ac, bc, rfl, g, g1, g2, by omega⟩⟩
  · rintro _ _ ⟨rfl, ⟨r, ⟨o, ja, jb, ac, bc⟩, rfl, hr⟩ | ⟨o, ja, jb, ac, bc, rfl, g, g1, g2, g3⟩⟩
    · exact G1 r o ja jb ac bc _ ⟨r, _, rfl, hs, hr⟩
    · exact G2 o ja jb ac bc g g1 g2 (by omega)
theorem loL_gen {a b o : Array Keyed} {ja jb mg ac bc n0 : Nat} {st st1 : SortSt} {f2 : Nat → LSt → StateT SortSt Sem (ForInStep LSt)} {g : LSt → StateT SortSt Sem (ForInStep RSt)} (hs : SameSt st st1) (hi : LoInv key a.toList b.toList o.toList ja jb) (h1 : ja + 1 < a.size) (h2 : jb < b.size) (h3 : n0 + 1 ≤ ja + jb)
    (H2 : ∀ y n1 st2 o la lb mg ac bc, SameSt st st2 → LoInv key a.toList b.toList o.toList la lb → la + 1 < a.size → lb < b.size → n1 ≤ la + lb → wpS (model prog w) Ar E s (f2 y (none, o, la, lb, mg, ac, bc)) (LP key a b n1 st) st2)
    (G1 : ∀ r o ja jb mg ac bc st2 Q, (∀ z, Q (ForInStep.done (some r, z)) st2) → wpS (model prog w) Ar E s (g (some r, o, ja, jb, mg, ac, bc)) Q st2)
    (G2 : ∀ o ja jb mg ac bc st2 Q, (∀ mg' st3, SameSt st2 st3 → Q (ForInStep.yield (none, o, ja, jb, mg')) st3) → wpS (model prog w) Ar E s (g (none, o, ja, jb, mg, ac, bc)) Q st2) :
    wpS (model prog w) Ar E s (forIn [0:a.size + b.size] ((none, o, ja, jb, mg, ac, bc) : LSt) f2 >>= g) (RP key a b n0 st) st1 := by
  refine wpS_bind (wpS_mono (wpS_forRange (I := fun y c st' => SameSt st st' ∧ LIn key a b (ja + jb) c) (Q := fun c st' => SameSt st st' ∧ LOut key a b (ja + jb) c) ?_ ?_ ⟨hs, o, ja, jb, _, _, _, rfl, hi, h1, h2, Nat.le_refl _⟩) ?_)
  · rintro y _ st2 _ hy ⟨hs2, o, la, lb, mg, ac, bc, rfl, f, f1, f2, f3⟩
    refine wpS_mono (H2 y _ st2 o la lb mg ac bc hs2 f f1 f2 f3) ?_
    rintro (⟨c⟩ | ⟨c⟩) st' h
    · exact h
    · exact h
  · rintro _ _ ⟨hs2, h⟩
    exact ⟨hs2, .inr h⟩
  · rintro _ st2 ⟨hs2, ⟨r, ⟨o, la, lb, mg, ac, bc⟩, rfl, hr⟩ | ⟨o, la, lb, mg, ac, bc, rfl, f, f1, f2, f3⟩⟩
    · exact G1 r o la lb mg ac bc st2 _ fun z => ⟨r, _, rfl, hs2, hr⟩
    · exact G2 o la lb mg ac bc st2 _ fun mg' st3 s3 => ⟨o, la, lb, _, rfl, hs2.tr s3, f, f1, f2, by omega⟩
theorem mergeLo_ok {a b : Array Keyed} {st : SortSt} {Q : Array Keyed → SortSt → Prop} (C : Ord (model prog w) Ar E s κ P O key) (hk : kindOf st = κ) (M : MI P key a b)
    (q : ∀ out st', SameSt st st' → Mgd key a.toList b.toList out.toList → Q out st') : wpS (model prog w) Ar E s (mergeLo' a b) Q st := by
  have na := M.na
  have nb := M.nb
  unfold mergeLo'
  refine wpS_bind (wpS_lift (wpAny_rule ⟨rfl, ?_⟩))
  dsimp only
  refine wpS_bind (wpS_elem (el_at nb) ?_)
  have e1 : b.toList.take 1 = [b.toList[0]'(lt_len nb)] := take1 (l := b.toList) (i := 0) (lt_len nb)
  have h0 : LoInv key a.toList b.toList #[b.toList[0]'(lt_len nb)].toList 0 1 := by
    refine ⟨?_, ?_, ?_, ?_⟩
    · rw [e1]; exact List.Perm.refl _
    · exact List.pairwise_singleton _ _
    · intro x hx; rw [← e1] at hx; exact M.first x hx
    · intro x hx y hy; rw [← e1] at hx; exact M.hb.cut 1 x hx y hy
  by_cases c1 : 1 = b.size
  · rw [if_pos (eqT c1)]
    rw [c1] at h0 ⊢
    exact wpS_pure (q _ _ .rfl' (M.dn h0))
  rw [if_neg (eqF c1)]
  by_cases c2 : 0 + 1 = a.size
  · rw [if_pos (eqT c2)]
    exact wpS_pure (q _ _ .rfl' (M.ls c2 h0))
  rw [if_neg (eqF c2)]
  refine wpS_bind (wpS_get ?_)
  -- the rounds
  refine wpS_bind (wpS_mono (wpS_forRange (I := fun x c st' => ∃ (out : Array Keyed) (ia ib mg : Nat), c = (none, out, ia, ib, mg) ∧ SameSt st st' ∧ LoInv key a.toList b.toList out.toList ia ib ∧ ia + 1 < a.size ∧ ib < b.size ∧ x ≤ ia + ib)
    (Q := fun c st' => ∃ (r : Array Keyed) (rest : Array Keyed × Nat × Nat × Nat), c = (some r, rest) ∧ SameSt st st' ∧ Mgd key a.toList b.toList r.toList) ?step ?fin ⟨_, 0, 1, _, rfl, .rfl', h0, by omega, by omega, by omega⟩) ?post)
  case fin =>
    rintro _ _ ⟨out, ia, ib, mg, rfl, _, _, h1, h2, h3⟩
    omega
  case post =>
    rintro _ _ ⟨r, rest, rfl, h1, h2⟩
    exact wpS_pure (q r _ h1 h2)
  case step =>
    rintro x _ st1 _ hx ⟨out, ia, ib, mg, rfl, hs, hi, h1, h2, h3⟩
    have hk1 : kindOf st1 = κ := hs.2.1.trans hk
    refine wpS_mono (Q := RP key a b x st) (loR_gen (f2 := fun _ _ => pure (.done (none, #[], 0, 0, 0, 0, 0))) hs hi h1 h2 h3 (fun y n1 o ja jb ac bc g g1 g2 g3 => show wpS (model prog w) Ar E s (lo1 a b o ja jb ac bc mg) (OP key a b n1 _) _ from lo1_ok C M hk1 g g1 g2 g3) (fun r o ja jb ac bc Q q => wpS_pure q) fun o ja jb ac bc g g1 g2 g3 => ?_) ?_
    · dsimp only
      refine wpS_bind (wpS_lift (wpAny_rule ⟨rfl, ?_⟩))
      exact loL_gen hs g g1 g2 g3 (fun y n1 st2 o la lb mg ac bc hs2 f f1 f2 f3 => show wpS (model prog w) Ar E s (if mg > 1 then loX a b o la lb ac bc (mg - 1) else loX a b o la lb ac bc mg) (LP key a b n1 st) st2 by split <;> exact loX_ok C M (hs2.2.1.trans hk) hs2 f f1 f2 f3)
        (fun r o ja jb mg ac bc st2 Q q => wpS_pure (q _)) fun o ja jb mg ac bc st2 Q q => wpS_bind (wpS_setMin fun st3 s3 => wpS_pure (q _ st3 s3))
    · rintro (⟨c⟩ | ⟨c⟩) st' h
      · exact h
      · exact h
end
end Srt

set_option Elab.async false
set_option linter.all false
set_option maxRecDepth 100000
namespace Srt
open PySem PySem.Spec PyProof.Rows
section
variable {prog : Program} {w : World} {Ar : Around} {E : Value → Shared → Prop} {s : Shared} {κ : SortKind} {P : Keyed → Prop} {O : KeyOrd} {key : Keyed → O.α}
abbrev HSt := Option (Array Keyed) × Nat × Nat × Array Keyed × Nat × Nat × Nat
def hiZ (a b o : Array Keyed) (na nb mg ac bc : Nat) : StateT SortSt Sem (ForInStep HSt) := do
  let x ← elem' a (na - 1)
  if (na - 1 == 0) = true then pure (.done (some (a.extract 0 (na - 1) ++ b.extract 0 nb ++ (o.push x).reverse), na - 1, nb, o.push x, mg, ac, bc))
  else if (decide (ac < 7) && decide (bc < 7)) = true then pure (.done (none, na - 1, nb, o.push x, mg, ac, bc))
  else pure (.yield (none, na - 1, nb, o.push x, mg, ac, bc))
def hiY (a b o : Array Keyed) (na nb mg ac bc : Nat) : StateT SortSt Sem (ForInStep HSt) := do
  let x ← elem' b (nb - 1)
  if (nb - 1 == 1) = true then pure (.done (some (b.extract 0 (nb - 1) ++ a.extract 0 na ++ (o.push x).reverse), na, nb - 1, o.push x, mg, ac, bc))
  else do
    let y ← elem' a (na - 1)
    let z ← gallop' true y b 0 (nb - 1) (nb - 1 - 1)
    match z with
    | some k => if nb - 1 - k > 0 then (if (k == 1) = true then pure (.done (some (b.extract 0 k ++ a.extract 0 na ++ (o.push x ++ (b.extract k (nb - 1)).reverse).reverse), na, k, o.push x ++ (b.extract k (nb - 1)).reverse, mg, ac, nb - 1 - k))
        else if (k == 0) = true then pure (.done (some (a.extract 0 na ++ b.extract 0 k ++ (o.push x ++ (b.extract k (nb - 1)).reverse).reverse), na, k, o.push x ++ (b.extract k (nb - 1)).reverse, mg, ac, nb - 1 - k))
        else hiZ a b (o.push x ++ (b.extract k (nb - 1)).reverse) na k mg ac (nb - 1 - k)) else hiZ a b (o.push x) na (nb - 1) mg ac (nb - 1 - k)
    | _ => pure (.done (some (a.extract 0 na ++ b.extract 0 (nb - 1) ++ (o.push x).reverse), na, nb - 1, o.push x, mg, ac, bc))
def hiX (a b o : Array Keyed) (na nb ac bc mg : Nat) : StateT SortSt Sem (ForInStep HSt) := do
  setMin' mg
  let x ← elem' b (nb - 1)
  let z ← gallop' false x a 0 na (na - 1)
  match z with
  | some k => if na - k > 0 then (if (k == 0) = true then pure (.done (some (a.extract 0 k ++ b.extract 0 nb ++ (o ++ (a.extract k na).reverse).reverse), k, nb, o ++ (a.extract k na).reverse, mg, na - k, bc))
      else hiY a b (o ++ (a.extract k na).reverse) k nb mg (na - k) bc) else hiY a b o na nb mg (na - k) bc
  | _ => pure (.done (some (a.extract 0 na ++ b.extract 0 nb ++ o.reverse), na, nb, o, mg, ac, bc))
def HIn (key : Keyed → O.α) (a b : Array Keyed) (n0 : Nat) (c : HSt) : Prop := ∃ (o : Array Keyed) (la lb mg ac bc : Nat), c = (none, la, lb, o, mg, ac, bc) ∧ HiInv key a.toList b.toList o.toList.reverse la lb ∧ 0 < la ∧ la < a.size ∧ 1 < lb ∧ lb ≤ b.size ∧ la + lb ≤ n0
def HOut (key : Keyed → O.α) (a b : Array Keyed) (n0 : Nat) (c : HSt) : Prop := (∃ (r : Array Keyed) (rest : Nat × Nat × Array Keyed × Nat × Nat × Nat), c = (some r, rest) ∧ Mgd key a.toList b.toList r.toList) ∨ HIn key a b n0 c
def HP (key : Keyed → O.α) (a b : Array Keyed) (n0 : Nat) (st : SortSt) : ForInStep HSt → SortSt → Prop
  | .done c, st' => SameSt st st' ∧ HOut key a b n0 c
  | .yield c, st' => SameSt st st' ∧ HIn key a b n0 c
section
variable {a b o : Array Keyed} {na nb mg ac bc n0 : Nat} {st st0 : SortSt}
theorem toFront {c : Array Keyed} {n : Nat} : (c.extract 0 n).toList = c.toList.take n := by rw [toExtract, List.drop_zero, Nat.sub_zero]
theorem MI.hdn (M : MI P key a b) (h : HiInv key a.toList b.toList o.toList.reverse 0 nb) : Mgd key a.toList b.toList (a.extract 0 0 ++ b.extract 0 nb ++ o.reverse).toList := by
  rw [Array.toList_append, Array.toList_append, toFront, toFront, Array.toList_reverse]
  exact h.fin M.ha M.hb fun x hx => by rw [List.take_zero] at hx; cases hx
theorem MI.hdn2 (M : MI P key a b) (h : HiInv key a.toList b.toList o.toList.reverse na 0) : Mgd key a.toList b.toList (a.extract 0 na ++ b.extract 0 0 ++ o.reverse).toList := by
  rw [Array.toList_append, Array.toList_append, toFront, toFront, Array.toList_reverse]
  exact h.fin M.ha M.hb fun x _ y hy => by rw [List.take_zero] at hy; cases hy
theorem MI.hls (M : MI P key a b) (h : HiInv key a.toList b.toList o.toList.reverse na 1) : Mgd key a.toList b.toList (b.extract 0 1 ++ a.extract 0 na ++ o.reverse).toList := by
  rw [Array.toList_append, Array.toList_append, toFront, toFront, Array.toList_reverse]
  exact h.fin2 M.ha M.hb fun x hx y hy => M.first x hx y (List.mem_of_mem_take hy)
theorem hiZ_ok (M : MI P key a b) (hs : SameSt st0 st) (g : HiInv key a.toList b.toList o.toList.reverse (na + 1) nb) (g2 : na + 1 < a.size) (g3 : 1 < nb) (g4 : nb ≤ b.size) (g5 : na + 1 + nb ≤ n0) (hle : ∀ x ∈ b.toList.take nb, O.kle (key x) (key (a.toList[na]'(lt_len (by omega))))) :
    wpS (model prog w) Ar E s (hiZ a b o (na + 1) nb mg ac bc) (HP key a b n0 st0) st := by
  refine wpS_bind (wpS_elem (el_at (show na + 1 - 1 < a.size by omega)) ?_)
  have g4' : HiInv key a.toList b.toList (o.push (a.toList[na]'(lt_len (by omega)))).toList.reverse na nb := by
    rw [Array.toList_push, List.reverse_append]
    exact HiInv.pushA g M.ha (lt_len (by omega)) hle
  simp only [Nat.add_sub_cancel]
  by_cases e : na = 0
  · rw [if_pos (eqT e)]
    subst e
    exact wpS_pure ⟨hs, .inl ⟨_, _, rfl, M.hdn g4'⟩⟩
  rw [if_neg (eqF e)]
  have fin : ∀ mg ac bc, HIn key a b n0 (none, na, nb, o.push (a.toList[na]'(lt_len (by omega))), mg, ac, bc) := fun mg ac bc => ⟨_, _, _, _, _, _, rfl, g4', by omega, by omega, g3, g4, by omega⟩
  split
  · exact wpS_pure ⟨hs, .inr (fin _ _ _)⟩
  · exact wpS_pure ⟨hs, fin _ _ _⟩
theorem hiY_ok (C : Ord (model prog w) Ar E s κ P O key) (M : MI P key a b) (hk : kindOf st = κ) (hs : SameSt st0 st) (g : HiInv key a.toList b.toList o.toList.reverse (na + 1) (nb + 1)) (g2 : na + 1 < a.size) (g3 : 0 < nb) (g4 : nb + 1 ≤ b.size) (g5 : na + 1 + (nb + 1) ≤ n0)
    (hle : ∀ x ∈ a.toList.take (na + 1), O.kle (key x) (key (b.toList[nb]'(lt_len (by omega))))) : wpS (model prog w) Ar E s (hiY a b o (na + 1) (nb + 1) mg ac bc) (HP key a b n0 st0) st := by
  refine wpS_bind (wpS_elem (el_at (show nb + 1 - 1 < b.size by omega)) ?_)
  have h2 : HiInv key a.toList b.toList (o.push (b.toList[nb]'(lt_len (by omega)))).toList.reverse (na + 1) nb := by
    rw [Array.toList_push, List.reverse_append]
    exact HiInv.pushB g M.hb (lt_len (by omega)) hle
  simp only [Nat.add_sub_cancel]
  generalize o.push (b.toList[nb]'(lt_len (by omega))) = o2 at h2 ⊢
  by_cases d : nb = 1
  · rw [if_pos (eqT d)]
    subst d
    exact wpS_pure ⟨hs, .inl ⟨_, _, rfl, M.hls h2⟩⟩
  rw [if_neg (eqF d)]
  have la : a.toList.length = a.size := Array.length_toList
  have lb : b.toList.length = b.size := Array.length_toList
  refine wpS_bind (wpS_elem (el_at (show na < a.size by omega)) (wpS_bind (gal_ok (seg := b.toList.take nb) C hk (by rw [List.length_take]; omega) (fun i hi => by rw [List.getElem?_take_of_lt hi, Array.getElem?_toList, Nat.zero_add]) (M.hb.sub (List.take_sublist _ _)) (fun x hx => M.pb x (List.mem_of_mem_take hx)) (M.pa _ (List.getElem_mem (lt_len (by omega)))) (by omega) fun m hm1 hm2 hm3 => ?_)))
  dsimp only
  have hle2 : ∀ x ∈ b.toList.take m, O.kle (key x) (key (a.toList[na]'(lt_len (by omega)))) := fun x hx => hm2 x (by rw [List.take_take, Nat.min_eq_left hm1]; exact hx)
  by_cases cm : nb - m > 0
  · rw [if_pos cm]
    have h3 : HiInv key a.toList b.toList (o2 ++ (b.extract m nb).reverse).toList.reverse (na + 1) m := by
      rw [Array.toList_append, Array.toList_reverse, List.reverse_append, List.reverse_reverse, toExtract, ← List.drop_take]
      exact h2.stepB M.hb m hm1 fun x hx y hy => KeyOrd.kle_trans (M.ha.lastle (lt_len (by omega)) x hx) (hm3 y hy)
    generalize o2 ++ (b.extract m nb).reverse = o3 at h3 ⊢
    by_cases d3 : m = 1
    · rw [if_pos (eqT d3)]
      subst d3
      exact wpS_pure ⟨hs, .inl ⟨_, _, rfl, M.hls h3⟩⟩
    rw [if_neg (eqF d3)]
    by_cases d4 : m = 0
    · rw [if_pos (eqT d4)]
      subst d4
      exact wpS_pure ⟨hs, .inl ⟨_, _, rfl, M.hdn2 h3⟩⟩
    rw [if_neg (eqF d4)]
    exact hiZ_ok M hs h3 g2 (by omega) (by omega) (by omega) hle2
  · rw [if_neg cm]
    obtain rfl : m = nb := by omega
    exact hiZ_ok M hs h2 g2 (by omega) (by omega) (by omega) hle2
theorem hiX_ok (C : Ord (model prog w) Ar E s κ P O key) (M : MI P key a b) (hk : kindOf st = κ) (hs : SameSt st0 st) (g : HiInv key a.toList b.toList o.toList.reverse na (nb + 1)) (g1 : 0 < na) (g2 : na < a.size) (g3 : 0 < nb) (g4 : nb + 1 ≤ b.size) (g5 : na + (nb + 1) ≤ n0) :
    wpS (model prog w) Ar E s (hiX a b o na (nb + 1) ac bc mg) (HP key a b n0 st0) st := by
  refine wpS_bind (wpS_setMin fun st3 s3 => ?_)
  have hs3 := hs.tr s3
  have hk3 : kindOf st3 = κ := s3.2.1.trans hk
  have la : a.toList.length = a.size := Array.length_toList
  simp only [Nat.add_sub_cancel]
  refine wpS_bind (wpS_elem (el_at (show nb < b.size by omega)) (wpS_bind (gal_ok (seg := a.toList.take na) C hk3 (by rw [List.length_take]; omega) (fun i hi => by rw [List.getElem?_take_of_lt hi, Array.getElem?_toList, Nat.zero_add]) (M.ha.sub (List.take_sublist _ _)) (fun x hx => M.pa x (List.mem_of_mem_take hx)) (M.pb _ (List.getElem_mem (lt_len (by omega)))) (by omega) fun k hk1 hk2 hk3' => ?_)))
  dsimp only
  have hle : ∀ x ∈ a.toList.take k, O.kle (key x) (key (b.toList[nb]'(lt_len (by omega)))) := fun x hx => hk2 x (by rw [List.take_take, Nat.min_eq_left hk1]; exact hx)
  by_cases ck : na - k > 0
  · rw [if_pos ck]
    have g' : HiInv key a.toList b.toList (o ++ (a.extract k na).reverse).toList.reverse k (nb + 1) := by
      rw [Array.toList_append, Array.toList_reverse, List.reverse_append, List.reverse_reverse, toExtract, ← List.drop_take]
      exact g.stepA M.ha k hk1 fun x hx y hy => KeyOrd.kle_trans (M.hb.lastle (lt_len (by omega)) x hx) (hk3' y hy)
    generalize o ++ (a.extract k na).reverse = o' at g' ⊢
    by_cases c : k = 0
    · rw [if_pos (eqT c)]
      subst c
      exact wpS_pure ⟨hs3, .inl ⟨_, _, rfl, M.hdn g'⟩⟩
    rw [if_neg (eqF c)]
    obtain ⟨k', rfl⟩ : ∃ z, k = z + 1 := ⟨k - 1, by omega⟩
    exact hiY_ok C M hk3 hs3 g' (by omega) g3 g4 (by omega) hle
  · rw [if_neg ck]
    obtain rfl : k = na := by omega
    obtain ⟨k', rfl⟩ : ∃ z, k = z + 1 := ⟨k - 1, by omega⟩
    exact hiY_ok C M hk3 hs3 g (by omega) g3 g4 (by omega) hle
def hi1 (a b o : Array Keyed) (na nb ac bc mg : Nat) : StateT SortSt Sem (ForInStep (Option (Array Keyed) × Nat × Nat × Array Keyed × Nat × Nat)) := do
  let x ← elem' b (nb - 1)
  let y ← elem' a (na - 1)
  let z ← lt' x y
  match z with
  | some c =>
    if c = true then do
      let x ← elem' a (na - 1)
      if (na - 1 == 0) = true then pure (.done (some (a.extract 0 (na - 1) ++ b.extract 0 nb ++ (o.push x).reverse), na - 1, nb, o.push x, ac + 1, 0))
      else if ac + 1 ≥ mg then pure (.done (none, na - 1, nb, o.push x, ac + 1, 0)) else pure (.yield (none, na - 1, nb, o.push x, ac + 1, 0))
    else do
      let x ← elem' b (nb - 1)
      if (nb - 1 == 1) = true then pure (.done (some (b.extract 0 (nb - 1) ++ a.extract 0 na ++ (o.push x).reverse), na, nb - 1, o.push x, 0, bc + 1))
      else if bc + 1 ≥ mg then pure (.done (none, na, nb - 1, o.push x, 0, bc + 1)) else pure (.yield (none, na, nb - 1, o.push x, 0, bc + 1))
  | _ => pure (.done (some (a.extract 0 na ++ b.extract 0 nb ++ o.reverse), na, nb, o, ac, bc))
def GIn (key : Keyed → O.α) (a b : Array Keyed) (y n0 : Nat) (c : Option (Array Keyed) × Nat × Nat × Array Keyed × Nat × Nat) : Prop := ∃ (o : Array Keyed) (la lb ac bc : Nat), c = (none, la, lb, o, ac, bc) ∧ HiInv key a.toList b.toList o.toList.reverse la lb ∧ 0 < la ∧ la < a.size ∧ 1 < lb ∧ lb ≤ b.size ∧ y + la + lb ≤ n0
def GP (key : Keyed → O.α) (a b : Array Keyed) (y n0 : Nat) (st : SortSt) : ForInStep (Option (Array Keyed) × Nat × Nat × Array Keyed × Nat × Nat) → SortSt → Prop
  | .done c, st' => st' = st ∧ ((∃ (r : Array Keyed) (rest : Nat × Nat × Array Keyed × Nat × Nat), c = (some r, rest) ∧ Mgd key a.toList b.toList r.toList) ∨ GIn key a b 1 n0 c)
  | .yield c, st' => st' = st ∧ GIn key a b (y + 1) n0 c
theorem hi1_ok {y : Nat} (C : Ord (model prog w) Ar E s κ P O key) (M : MI P key a b) (hk : kindOf st = κ) (g : HiInv key a.toList b.toList o.toList.reverse (na + 1) (nb + 1)) (g2 : na + 1 < a.size) (g3 : 0 < nb) (g4 : nb + 1 ≤ b.size) (g5 : y + (na + 1) + (nb + 1) ≤ n0) :
    wpS (model prog w) Ar E s (hi1 a b o (na + 1) (nb + 1) ac bc mg) (GP key a b y n0 st) st := by
  have hja : na < a.toList.length := lt_len (by omega)
  have hjb : nb < b.toList.length := lt_len (by omega)
  refine wpS_bind (wpS_elem (el_at (show nb + 1 - 1 < b.size by omega)) (wpS_bind (wpS_elem (el_at (show na + 1 - 1 < a.size by omega)) (wpS_bind (C _ _ (M.pb _ (List.getElem_mem hjb)) (M.pa _ (List.getElem_mem hja)) _ _ hk ?_)))))
  dsimp only
  simp only [Nat.add_sub_cancel]
  cases hw : O.blt (key b.toList[nb]) (key a.toList[na]) with
  | true =>
    have hw : O.klt (key b.toList[nb]) (key a.toList[na]) := hw
    rw [if_pos rfl]
    refine wpS_bind (wpS_elem (el_at (by omega)) ?_)
    have g' : HiInv key a.toList b.toList (o.push a.toList[na]).toList.reverse na (nb + 1) := by
      rw [Array.toList_push, List.reverse_append]
      exact HiInv.pushA g M.ha hja fun z hz => KeyOrd.kle_trans (M.hb.lastle hjb z hz) (KeyOrd.kle_of_klt hw)
    generalize o.push a.toList[na] = o2 at g' ⊢
    by_cases c : na = 0
    · rw [if_pos (eqT c)]
      subst c
      exact wpS_pure ⟨rfl, .inl ⟨_, _, rfl, M.hdn g'⟩⟩
    · rw [if_neg (eqF c)]
      have fin : ∀ z, z ≤ y + 1 → GIn key a b z n0 (none, na, nb + 1, o2, ac + 1, 0) := fun z hz => ⟨_, _, _, _, _, rfl, g', by omega, by omega, by omega, g4, by omega⟩
      split
      · exact wpS_pure ⟨rfl, .inr (fin 1 (by omega))⟩
      · exact wpS_pure ⟨rfl, fin _ (Nat.le_refl _)⟩
  | false =>
    have hw : O.kle (key a.toList[na]) (key b.toList[nb]) := hw
    rw [if_neg Bool.false_ne_true]
    refine wpS_bind (wpS_elem (el_at (by omega)) ?_)
    have g' : HiInv key a.toList b.toList (o.push b.toList[nb]).toList.reverse (na + 1) nb := by
      rw [Array.toList_push, List.reverse_append]
      exact HiInv.pushB g M.hb hjb fun z hz => KeyOrd.kle_trans (M.ha.lastle hja z hz) hw
    generalize o.push b.toList[nb] = o2 at g' ⊢
    by_cases c : nb = 1
    · rw [if_pos (eqT c)]
      subst c
      exact wpS_pure ⟨rfl, .inl ⟨_, _, rfl, M.hls g'⟩⟩
    · rw [if_neg (eqF c)]
      have fin : ∀ z, z ≤ y + 1 → GIn key a b z n0 (none, na + 1, nb, o2, 0, bc + 1) := fun z hz => ⟨_, _, _, _, _, rfl, g', by omega, by omega, by omega, by omega, by omega⟩
      split
      · exact wpS_pure ⟨rfl, .inr (fin 1 (by omega))⟩
      · exact wpS_pure ⟨rfl, fin _ (Nat.le_refl _)⟩
end
abbrev GSt := Option (Array Keyed) × Nat × Nat × Array Keyed × Nat × Nat
abbrev QSt := Option (Array Keyed) × Nat × Nat × Array Keyed × Nat
def QIn (key : Keyed → O.α) (a b : Array Keyed) (y n0 : Nat) (st : SortSt) (c : QSt) (st' : SortSt) : Prop := ∃ (out : Array Keyed) (ia ib mg : Nat), c = (none, ia, ib, out, mg) ∧ SameSt st st' ∧ HiInv key a.toList b.toList out.toList.reverse ia ib ∧ 0 < ia ∧ ia < a.size ∧ 1 < ib ∧ ib ≤ b.size ∧ y + ia + ib ≤ n0
def QP (key : Keyed → O.α) (a b : Array Keyed) (y n0 : Nat) (st : SortSt) : ForInStep QSt → SortSt → Prop
  | .done c, st' => ∃ (r : Array Keyed) (rest : Nat × Nat × Array Keyed × Nat), c = (some r, rest) ∧ SameSt st st' ∧ Mgd key a.toList b.toList r.toList
  | .yield c, st' => QIn key a b (y + 1) n0 st c st'
theorem hiR_gen {a b out : Array Keyed} {ia ib mg y0 n0 tot : Nat} {st st1 : SortSt} {f1 : Nat → GSt → StateT SortSt Sem (ForInStep GSt)} {g : GSt → StateT SortSt Sem (ForInStep QSt)} (hs : SameSt st st1) (hi : HiInv key a.toList b.toList out.toList.reverse ia ib) (h1 : 0 < ia) (h2 : ia < a.size) (h3 : 1 < ib) (h4 : ib ≤ b.size) (h5 : y0 + ia + ib ≤ n0) (ht : 0 < tot)
    (H1 : ∀ y n1 o ja jb ac bc, HiInv key a.toList b.toList o.toList.reverse (ja + 1) (jb + 1) → ja + 1 < a.size → 0 < jb → jb + 1 ≤ b.size → y + (ja + 1) + (jb + 1) ≤ n1 → wpS (model prog w) Ar E s (f1 y (none, ja + 1, jb + 1, o, ac, bc)) (GP key a b y n1 st1) st1)
    (G1 : ∀ r o ja jb ac bc Q, Q (ForInStep.done (some r, ja, jb, o, mg)) st1 → wpS (model prog w) Ar E s (g (some r, ja, jb, o, ac, bc)) Q st1)
    (G2 : ∀ o ja jb ac bc, HiInv key a.toList b.toList o.toList.reverse ja jb → 0 < ja → ja < a.size → 1 < jb → jb ≤ b.size → y0 + 1 + ja + jb ≤ n0 → wpS (model prog w) Ar E s (g (none, ja, jb, o, ac, bc)) (QP key a b y0 n0 st) st1) :
    wpS (model prog w) Ar E s (forIn [0:tot] ((none, ia, ib, out, 0, 0) : GSt) f1 >>= g) (QP key a b y0 n0 st) st1 := by
  refine wpS_bind (wpS_mono (wpS_forRange (I := fun y c st' => st' = st1 ∧ GIn key a b y (ia + ib) c)
    (Q := fun c st' => st' = st1 ∧ ((∃ (r : Array Keyed) (rest : Nat × Nat × Array Keyed × Nat × Nat), c = (some r, rest) ∧ Mgd key a.toList b.toList r.toList) ∨ GIn key a b 1 (ia + ib) c)) ?_ ?_ ⟨rfl, out, ia, ib, 0, 0, rfl, hi, h1, h2, h3, h4, by omega⟩) ?_)
  · rintro y _ _ _ hy ⟨rfl, o, ja', jb', ac, bc, rfl, g, g1, g2, g3, g4, g5⟩
    obtain ⟨ja, rfl⟩ : ∃ z, ja' = z + 1 := ⟨ja' - 1, by omega⟩
    obtain ⟨jb, rfl⟩ : ∃ z, jb' = z + 1 := ⟨jb' - 1, by omega⟩
    refine wpS_mono (H1 y (ia + ib) o ja jb ac bc g g2 (by omega) g4 g5) ?_
    rintro (⟨c⟩ | ⟨c⟩) st' h
    · exact h
    · exact h
  · rintro _ _ ⟨rfl, o, ja, jb, ac, bc, rfl, g, g1, g2, g3, g4, g5⟩
    exact ⟨rfl, .inr ⟨o, ja, jb, ac, bc, rfl, g, g1, g2, g3, g4, by omega⟩⟩
  · rintro _ _ ⟨rfl, ⟨r, ⟨ja, jb, o, ac, bc⟩, rfl, hr⟩ | ⟨o, ja, jb, ac, bc, rfl, g, g1, g2, g3, g4, g5⟩⟩
    · exact G1 r o ja jb ac bc _ ⟨r, _, rfl, hs, hr⟩
    · exact G2 o ja jb ac bc g g1 g2 g3 g4 (by omega)
theorem hiL_gen {a b o : Array Keyed} {ja jb mg ac bc y0 n0 tot : Nat} {st st1 : SortSt} {f2 : Nat → HSt → StateT SortSt Sem (ForInStep HSt)} {g : HSt → StateT SortSt Sem (ForInStep QSt)} (hs : SameSt st st1) (hi : HiInv key a.toList b.toList o.toList.reverse ja jb) (h1 : 0 < ja) (h2 : ja < a.size) (h3 : 1 < jb) (h4 : jb ≤ b.size) (h5 : y0 + 1 + ja + jb ≤ n0)
    (H2 : ∀ y n1 st2 o la lb mg ac bc, SameSt st st2 → HiInv key a.toList b.toList o.toList.reverse la (lb + 1) → 0 < la → la < a.size → 0 < lb → lb + 1 ≤ b.size → la + (lb + 1) ≤ n1 → wpS (model prog w) Ar E s (f2 y (none, la, lb + 1, o, mg, ac, bc)) (HP key a b n1 st) st2)
    (G1 : ∀ r o ja jb mg ac bc st2 Q, (∀ z, Q (ForInStep.done (some r, z)) st2) → wpS (model prog w) Ar E s (g (some r, ja, jb, o, mg, ac, bc)) Q st2)
    (G2 : ∀ o ja jb mg ac bc st2 Q, (∀ mg' st3, SameSt st2 st3 → Q (ForInStep.yield (none, ja, jb, o, mg')) st3) → wpS (model prog w) Ar E s (g (none, ja, jb, o, mg, ac, bc)) Q st2) :
    wpS (model prog w) Ar E s (forIn [0:tot] ((none, ja, jb, o, mg, ac, bc) : HSt) f2 >>= g) (QP key a b y0 n0 st) st1 := by
  refine wpS_bind (wpS_mono (wpS_forRange (I := fun y c st' => SameSt st st' ∧ HIn key a b (ja + jb) c) (Q := fun c st' => SameSt st st' ∧ HOut key a b (ja + jb) c) ?_ ?_ ⟨hs, o, ja, jb, _, _, _, rfl, hi, h1, h2, h3, h4, Nat.le_refl _⟩) ?_)
  · rintro y _ st2 _ hy ⟨hs2, o, la, lb', mg, ac, bc, rfl, f, f1, f2, f3, f4, f5⟩
    obtain ⟨lb, rfl⟩ : ∃ z, lb' = z + 1 := ⟨lb' - 1, by omega⟩
    refine wpS_mono (H2 y _ st2 o la lb mg ac bc hs2 f f1 f2 (by omega) f4 f5) ?_
    rintro (⟨c⟩ | ⟨c⟩) st' h
    · exact h
    · exact h
  · rintro _ _ ⟨hs2, h⟩
    exact ⟨hs2, .inr h⟩
  · rintro _ st2 ⟨hs2, ⟨r, ⟨la, lb, o, mg, ac, bc⟩, rfl, hr⟩ | ⟨o, la, lb, mg, ac, bc, rfl, f, f1, f2, f3, f4, f5⟩⟩
    · exact G1 r o la lb mg ac bc st2 _ fun z => ⟨r, _, rfl, hs2, hr⟩
    · exact G2 o la lb mg ac bc st2 _ fun mg' st3 s3 => ⟨o, la, lb, _, rfl, hs2.tr s3, f, f1, f2, f3, f4, by omega⟩
theorem mergeHi_ok {a b : Array Keyed} {st : SortSt} {Q : Array Keyed → SortSt → Prop} (C : Ord (model prog w) Ar E s κ P O key) (hk : kindOf st = κ) (M : MI P key a b)
    (q : ∀ out st', SameSt st st' → Mgd key a.toList b.toList out.toList → Q out st') : wpS (model prog w) Ar E s (mergeHi' a b) Q st := by
  have nb := M.nb
  have na := M.na
  obtain ⟨a1, ha1⟩ : ∃ a1, a.size = a1 + 1 := ⟨a.size - 1, by omega⟩
  have last := M.last
  unfold mergeHi'
  refine wpS_bind (wpS_lift (wpAny_rule ⟨rfl, ?_⟩))
  dsimp only
  rw [ha1, Nat.add_sub_cancel] at last ⊢
  refine wpS_bind (wpS_elem (el_at (by omega)) ?_)
  have e1 : a.toList.drop a1 = [a.toList[a1]'(lt_len (by omega))] := by
    rw [List.drop_eq_getElem_cons (lt_len (by omega)), List.drop_eq_nil_of_le (by rw [Array.length_toList]; omega)]
  have h0 : HiInv key a.toList b.toList #[a.toList[a1]'(lt_len (by omega))].toList.reverse a1 b.size := by
    show HiInv key a.toList b.toList [a.toList[a1]'(lt_len (by omega))] a1 b.size
    rw [← e1]
    refine ⟨?_, ?_, ?_, ?_⟩
    · rw [List.drop_eq_nil_of_le (as := b.toList) (by rw [Array.length_toList]; exact Nat.le_refl _), List.append_nil]
    · exact M.ha.sub (List.drop_sublist _ _)
    · exact fun x hx y hy => M.ha.cut a1 x hx y hy
    · exact fun x hx y hy => last x (List.mem_of_mem_take hx) y hy
  by_cases c1 : a1 = 0
  · rw [if_pos (eqT c1)]
    subst c1
    exact wpS_pure (q _ _ .rfl' (M.hdn h0))
  rw [if_neg (eqF c1)]
  by_cases c2 : b.size = 1
  · rw [if_pos (eqT c2)]
    rw [c2] at h0 ⊢
    exact wpS_pure (q _ _ .rfl' (M.hls h0))
  rw [if_neg (eqF c2)]
  refine wpS_bind (wpS_get ?_)
  -- the rounds
  refine wpS_bind (wpS_mono (wpS_forRange (I := fun x c st' => ∃ (out : Array Keyed) (ia ib mg : Nat), c = (none, ia, ib, out, mg) ∧ SameSt st st' ∧ HiInv key a.toList b.toList out.toList.reverse ia ib ∧ 0 < ia ∧ ia < a.size ∧ 1 < ib ∧ ib ≤ b.size ∧ x + ia + ib ≤ a1 + b.size)
    (Q := fun c st' => ∃ (r : Array Keyed) (rest : Nat × Nat × Array Keyed × Nat), c = (some r, rest) ∧ SameSt st st' ∧ Mgd key a.toList b.toList r.toList) ?step ?fin ⟨_, a1, b.size, _, rfl, .rfl', h0, by omega, by omega, by omega, by omega, by omega⟩) ?post)
  case fin =>
    rintro _ _ ⟨out, ia, ib, mg, rfl, _, _, h1, h2, h3, h4, h5⟩
    omega
  case post =>
    rintro _ _ ⟨r, rest, rfl, h1, h2⟩
    exact wpS_pure (q r _ h1 h2)
  case step =>
    rintro x _ st1 _ hx ⟨out, ia, ib, mg, rfl, hs, hi, h1, h2, h3, h4, h5⟩
    have hk1 : kindOf st1 = κ := hs.2.1.trans hk
    refine wpS_mono (Q := QP key a b x (a1 + b.size) st) (hiR_gen hs hi h1 h2 h3 h4 h5 (by omega) (fun y n1 o ja jb ac bc g g2 g3 g4 g5 => show wpS (model prog w) Ar E s (hi1 a b o (ja + 1) (jb + 1) ac bc mg) (GP key a b y n1 _) _ from hi1_ok C M hk1 g g2 g3 g4 g5) (fun r o ja jb ac bc Q q => wpS_pure q) fun o ja jb ac bc g g1 g2 g3 g4 g5 => ?_) ?_
    · dsimp only
      refine wpS_bind (wpS_lift (wpAny_rule ⟨rfl, ?_⟩))
      exact hiL_gen hs g g1 g2 g3 g4 g5 (fun y n1 st2 o la lb mg ac bc hs2 f f1 f2 f3 f4 f5 => show wpS (model prog w) Ar E s (if mg > 1 then hiX a b o la (lb + 1) ac bc (mg - 1) else hiX a b o la (lb + 1) ac bc mg) (HP key a b n1 st) st2 by split <;> exact hiX_ok C M (hs2.2.1.trans hk) hs2 f f1 f2 f3 f4 f5)
        (fun r o ja jb mg ac bc st2 Q q => wpS_pure (q _)) fun o ja jb mg ac bc st2 Q q => wpS_bind (wpS_setMin fun st3 s3 => wpS_pure (q _ st3 s3))
    · rintro (⟨c⟩ | ⟨c⟩) st' h
      · exact h
      · exact h
end
end Srt

set_option Elab.async false
set_option linter.all false
set_option maxRecDepth 100000
namespace Srt
open PySem PySem.Spec PyProof.Rows
theorem mergeAt'_eq (i : Nat) : mergeAt' i = (do
  let z ← get
  let (some (ua, ma, pw), some (ub, mb, _)) := ((pendingOf z)[i]?, (pendingOf z)[i + 1]?) | unsupported "internal:list.sort.pending"
  set (SortSt.mk' (kindOf z) (arrOf z) (((pendingOf z).setIfInBounds i (ua, ma + mb, pw)).eraseIdxIfInBounds (i + 1)) (gallopOf z) (failedOf z))
  let some k ← gallop' false (← elem' (arrOf z) ub) (arrOf z) ua ma 0 | return false
  let (va, la) := (ua + k, ma - k)
  if la == 0 then return true
  let some lb ← gallop' true (← elem' (arrOf z) (va + la - 1)) (arrOf z) ub mb (mb - 1) | return false
  if lb == 0 then return true
  let x := (arrOf z).extract va ub
  let y := (arrOf z).extract ub (ub + lb)
  let both ← if la ≤ lb then mergeLo' x y else mergeHi' x y
  modify fun z => setArr z (both.toList.zipIdx.foldl (fun a (p, j) => a.setIfInBounds (va + j) p) (arrOf z))
  return (failedOf (← get)).isNone) := rfl
theorem wb (sa : Nat) : ∀ (m : List Keyed) (k : Nat) (arr : Array Keyed), sa + k + m.length ≤ arr.size →
    ((m.zipIdx k).foldl (fun (a : Array Keyed) (x : Keyed × Nat) => match x with | (p, j) => a.setIfInBounds (sa + j) p) arr).toList = arr.toList.take (sa + k) ++ m ++ arr.toList.drop (sa + k + m.length)
  | [], k, arr, h => by simp
  | x :: m, k, arr, h => by
    rw [List.length_cons] at h
    rw [List.zipIdx_cons, List.foldl_cons]
    show (List.foldl _ (arr.setIfInBounds (sa + k) x) (m.zipIdx (k + 1))).toList = _
    rw [wb sa m (k + 1) _ (by rw [Array.size_setIfInBounds]; omega), Array.toList_setIfInBounds]
    have hl : sa + k < arr.toList.length := by rw [Array.length_toList]; omega
    have e : arr.toList.set (sa + k) x = arr.toList.take (sa + k) ++ x :: arr.toList.drop (sa + k + 1) := by rw [List.set_eq_take_append_cons_drop, if_pos hl]
    have tl : (arr.toList.take (sa + k)).length = sa + k := by rw [List.length_take]; omega
    rw [e, List.length_cons]
    have e1 : (arr.toList.take (sa + k) ++ x :: arr.toList.drop (sa + k + 1)).take (sa + (k + 1)) = arr.toList.take (sa + k) ++ [x] := by
      rw [show sa + (k + 1) = (arr.toList.take (sa + k)).length + 1 by omega, List.take_length_add_append]; rfl
    have e2 : (arr.toList.take (sa + k) ++ x :: arr.toList.drop (sa + k + 1)).drop (sa + (k + 1) + m.length) = arr.toList.drop (sa + k + (m.length + 1)) := by
      rw [show sa + (k + 1) + m.length = (arr.toList.take (sa + k)).length + (m.length + 1) by omega, List.drop_length_add_append, List.drop_succ_cons, List.drop_drop]
      congr 1; omega
    rw [e1, e2]; simp
section
variable {prog : Program} {w : World} {Ar : Around} {E : Value → Shared → Prop} {s : Shared} {κ : SortKind} {P : Keyed → Prop} {O : KeyOrd} {key : Keyed → O.α}
def seg (T : List Keyed) (lo n : Nat) : List Keyed := (T.drop lo).take n
theorem seg_len {T : List Keyed} {lo n : Nat} (h : lo + n ≤ T.length) : (seg T lo n).length = n := by unfold seg; rw [List.length_take, List.length_drop]; omega
theorem seg_get {T : List Keyed} {lo n i : Nat} (h : i < n) : (seg T lo n)[i]? = T[lo + i]? := by unfold seg; rw [List.getElem?_take_of_lt h, List.getElem?_drop]
theorem seg_take {T : List Keyed} {lo n k : Nat} (h : k ≤ n) : (seg T lo n).take k = seg T lo k := by unfold seg; rw [List.take_take, Nat.min_eq_left h]
theorem seg_drop {T : List Keyed} {lo n k : Nat} : (seg T lo n).drop k = seg T (lo + k) (n - k) := by unfold seg; rw [List.drop_take, List.drop_drop]
theorem seg_app {T : List Keyed} {lo n m : Nat} : seg T lo (n + m) = seg T lo n ++ seg T (lo + n) m := by
  have := List.take_append_drop n (seg T lo (n + m))
  rw [seg_take (by omega), seg_drop, show n + m - n = m by omega] at this
  exact this.symm
theorem seg_mem {T : List Keyed} {lo n : Nat} {x : Keyed} (h : x ∈ seg T lo n) : x ∈ T := List.mem_of_mem_drop (List.mem_of_mem_take h)
theorem seg_arr {a : Array Keyed} {lo hi : Nat} : (a.extract lo hi).toList = seg a.toList lo (hi - lo) := toExtract
theorem wpS_set {M : Model} {z st : SortSt} {Q : PUnit → SortSt → Prop} (q : Q ⟨⟩ z) : wpS M Ar E s (set z) Q st := wpS_modify (f := fun _ => z) q
theorem mergeAt_ok {st : SortSt} {i sa na pw nb pw2 : Nat} {Q : Bool → SortSt → Prop} (C : Ord (model prog w) Ar E s κ P O key) (hk : kindOf st = κ) (hf : failedOf st = none) (h1 : (pendingOf st)[i]? = some (sa, na, pw)) (h2 : (pendingOf st)[i + 1]? = some (sa + na, nb, pw2))
    (na0 : 0 < na) (nb0 : 0 < nb) (hz : sa + na + nb ≤ (arrOf st).size) (hP : ∀ x ∈ (arrOf st).toList, P x) (ha : AscL key (seg (arrOf st).toList sa na)) (hb : AscL key (seg (arrOf st).toList (sa + na) nb))
    (q : ∀ st' m, kindOf st' = κ → failedOf st' = none → pendingOf st' = ((pendingOf st).setIfInBounds i (sa, na + nb, pw)).eraseIdxIfInBounds (i + 1) → (arrOf st').toList = (arrOf st).toList.take sa ++ m ++ (arrOf st).toList.drop (sa + (na + nb)) → m.Perm (seg (arrOf st).toList sa (na + nb)) → AscL key m → Q true st') : wpS (model prog w) Ar E s (mergeAt' i) Q st := by
  rw [mergeAt'_eq]
  refine wpS_bind (wpS_get ?_)
  rw [h1, h2]
  dsimp only
  refine wpS_bind (wpS_set ?_)
  generalize hT : (arrOf st).toList = T at *
  have lT : T.length = (arrOf st).size := by rw [← hT]; exact Array.length_toList
  have gt : ∀ i, (arrOf st)[i]? = T[i]? := fun i => by rw [← hT, Array.getElem?_toList]
  have lA := seg_len (T := T) (lo := sa) (n := na) (by omega)
  have lB := seg_len (T := T) (lo := sa + na) (n := nb) (by omega)
  have sT : T = T.take sa ++ seg T sa (na + nb) ++ T.drop (sa + (na + nb)) := by
    unfold seg
    rw [List.append_assoc, ← List.drop_drop, List.take_append_drop, List.take_append_drop]
  have eAB : seg T sa (na + nb) = seg T sa na ++ seg T (sa + na) nb := seg_app
  -- the first of the second run
  have gb0 : (arrOf st)[sa + na]? = some ((seg T (sa + na) nb)[0]'(by omega)) := by
    rw [gt, ← List.getElem?_eq_getElem, seg_get nb0]; rfl
  have pb0 : P ((seg T (sa + na) nb)[0]'(by omega)) := hP _ (seg_mem (List.getElem_mem _))
  refine wpS_bind (wpS_elem gb0 (wpS_bind (gal_ok (seg := seg T sa na) C hk lA (fun i hi => by rw [gt, seg_get hi]) ha (fun x hx => hP x (seg_mem hx)) pb0 na0 fun k hk1 hk2 hk3 => ?_)))
  dsimp only
  have hb0 : ∀ y ∈ seg T (sa + na) nb, O.kle (key ((seg T (sa + na) nb)[0]'(by omega))) (key y) := fun y hy => hb.head (i := 0) (by omega) y hy
  generalize ((seg T (sa + na) nb)[0]'(by omega)) = b0 at *
  by_cases c1 : na - k = 0
  · rw [if_pos (by simpa using c1)]
    obtain rfl : k = na := by omega
    refine wpS_pure (q _ (seg T sa (k + nb)) hk hf rfl ?_ (List.Perm.refl _) ?_)
    · show (arrOf st).toList = _
      rw [hT]; exact sT
    · rw [eAB]
      refine List.pairwise_append.mpr ⟨ha, hb, fun x hx y hy => ?_⟩
      exact KeyOrd.kle_trans (hk2 x (by rw [seg_take (Nat.le_refl _)]; exact hx)) (hb0 y hy)
  rw [if_neg (by simpa using c1)]
  -- the last of the first run
  have ga : (arrOf st)[sa + k + (na - k) - 1]? = some ((seg T sa na)[na - 1]'(by omega)) := by
    rw [gt, ← List.getElem?_eq_getElem, seg_get (by omega)]; congr 1; omega
  have pal : P ((seg T sa na)[na - 1]'(by omega)) := hP _ (seg_mem (List.getElem_mem _))
  refine wpS_bind (wpS_elem ga (wpS_bind (gal_ok (seg := seg T (sa + na) nb) C hk lB (fun i hi => by rw [gt, seg_get hi]) hb (fun x hx => hP x (seg_mem hx)) pal (by omega) fun m hm1 hm2 hm3 => ?_)))
  dsimp only
  have hal : ∀ x ∈ seg T sa na, O.kle (key x) (key ((seg T sa na)[na - 1]'(by omega))) := fun x hx => ha.lastle (i := na - 1) (by omega) x (by rw [show na - 1 + 1 = na by omega, seg_take (Nat.le_refl _)]; exact hx)
  have eal : (seg T (sa + k) (na - k)).drop (na - k - 1) = [(seg T sa na)[na - 1]'(by omega)] := by
    have h3 : (seg T sa na).drop (na - 1) = [(seg T sa na)[na - 1]'(by omega)] := by
      rw [List.drop_eq_getElem_cons (by omega), List.drop_eq_nil_of_le (by omega)]
    rw [← h3, seg_drop, seg_drop]
    congr 1 <;> omega
  generalize ((seg T sa na)[na - 1]'(by omega)) = al at *
  by_cases c2 : m = 0
  · rw [if_pos (by simpa using c2)]
    subst c2
    refine wpS_pure (q _ (seg T sa (na + nb)) hk hf rfl ?_ (List.Perm.refl _) ?_)
    · show (arrOf st).toList = _
      rw [hT]; exact sT
    · rw [eAB]
      exact List.pairwise_append.mpr ⟨ha, hb, fun x hx y hy => KeyOrd.kle_trans (hal x hx) (hm3 y hy)⟩
  rw [if_neg (by simpa using c2)]
  -- what is merged
  have ex : ((arrOf st).extract (sa + k) (sa + na)).toList = seg T (sa + k) (na - k) := by rw [seg_arr, hT]; congr 1; omega
  have ey : ((arrOf st).extract (sa + na) (sa + na + m)).toList = seg T (sa + na) m := by rw [seg_arr, hT]; congr 1; omega
  have hx' : AscL key ((arrOf st).extract (sa + k) (sa + na)).toList := by rw [ex, ← seg_drop]; exact ha.sub (List.drop_sublist _ _)
  have hy' : AscL key ((arrOf st).extract (sa + na) (sa + na + m)).toList := by rw [ey, ← seg_take hm1]; exact hb.sub (List.take_sublist _ _)
  have zx : ((arrOf st).extract (sa + k) (sa + na)).size = na - k := by rw [← Array.length_toList, ex, seg_len (by omega)]
  have zy : ((arrOf st).extract (sa + na) (sa + na + m)).size = m := by rw [← Array.length_toList, ey, seg_len (by omega)]
  have px : ∀ x ∈ ((arrOf st).extract (sa + k) (sa + na)).toList, P x := fun x hx => by rw [ex] at hx; exact hP x (seg_mem hx)
  have py : ∀ x ∈ ((arrOf st).extract (sa + na) (sa + na + m)).toList, P x := fun x hx => by rw [ey] at hx; exact hP x (seg_mem hx)
  have first : ∀ x ∈ ((arrOf st).extract (sa + na) (sa + na + m)).toList.take 1, ∀ y ∈ ((arrOf st).extract (sa + k) (sa + na)).toList, O.kle (key x) (key y) := fun x hx y hy => by
    rw [ey, seg_take (by omega)] at hx
    rw [ex, ← seg_drop] at hy
    have hx0 : x = b0 := by
      have h4 : seg T (sa + na) 1 = [b0] := by
        have h5 : T[sa + na]? = some b0 := by rw [← gt]; exact gb0
        unfold seg
        have h6 := (List.getElem?_eq_some_iff.mp h5)
        rw [List.drop_eq_getElem_cons h6.1, h6.2]; rfl
      rw [h4] at hx
      exact List.mem_singleton.mp hx
    rw [hx0]
    exact hk3 y hy
  have last : ∀ x ∈ ((arrOf st).extract (sa + na) (sa + na + m)).toList, ∀ y ∈ ((arrOf st).extract (sa + k) (sa + na)).toList.drop (((arrOf st).extract (sa + k) (sa + na)).size - 1), O.kle (key x) (key y) := fun x hx y hy => by
    rw [ey, ← seg_take hm1] at hx
    rw [ex, zx, eal] at hy
    rw [List.mem_singleton.mp hy]
    exact hm2 x hx
  have fin : ∀ (out : Array Keyed) st', SameSt (SortSt.mk' (kindOf st) (arrOf st) (((pendingOf st).setIfInBounds i (sa, na + nb, pw)).eraseIdxIfInBounds (i + 1)) (gallopOf st) (failedOf st)) st' → Mgd key ((arrOf st).extract (sa + k) (sa + na)).toList ((arrOf st).extract (sa + na) (sa + na + m)).toList out.toList →
      wpS (model prog w) Ar E s (do
        modify fun z => setArr z (out.toList.zipIdx.foldl (fun a (p, j) => a.setIfInBounds (sa + k + j) p) (arrOf z))
        return (failedOf (← get)).isNone) Q st' := by
    rintro out st' ⟨e1, e2, e3, e4⟩ ⟨m1, m2⟩
    rw [ex, ey] at m2
    have lo := m2.length_eq
    rw [List.length_append, seg_len (by omega), seg_len (by omega)] at lo
    refine wpS_bind (wpS_modify (wpS_bind (wpS_get ?_)))
    have hf' : failedOf st' = none := e4.trans hf
    have e0 : (failedOf (setArr st' (out.toList.zipIdx.foldl (fun a (p, j) => a.setIfInBounds (sa + k + j) p) (arrOf st')))).isNone = true := by
      show (failedOf st').isNone = true
      rw [hf']; rfl
    refine wpS_pure ?_
    rw [e0]
    refine q _ (seg T sa k ++ out.toList ++ seg T (sa + na + m) (nb - m)) (e2.trans hk) hf' e3 ?_ ?_ ?_
    · show ((out.toList.zipIdx).foldl _ (arrOf st')).toList = _
      rw [e1]
      have := wb (sa + k) out.toList 0 (arrOf st) (by omega)
      refine this.trans ?_
      rw [hT, Nat.add_zero]
      have t1 : T.take (sa + k) = T.take sa ++ seg T sa k := List.take_add
      have t2 : T.drop (sa + k + out.toList.length) = seg T (sa + na + m) (nb - m) ++ T.drop (sa + (na + nb)) := by
        rw [show sa + k + out.toList.length = sa + na + m by omega]
        unfold seg
        have := List.take_append_drop (nb - m) (T.drop (sa + na + m))
        rw [List.drop_drop, show sa + na + m + (nb - m) = sa + (na + nb) by omega] at this
        exact this.symm
      rw [t1, t2]; simp only [List.append_assoc]
    · have t3 : seg T sa (na + nb) = seg T sa k ++ (seg T (sa + k) (na - k) ++ seg T (sa + na) m) ++ seg T (sa + na + m) (nb - m) := by
        rw [eAB]
        have a1 : seg T sa na = seg T sa k ++ seg T (sa + k) (na - k) := by rw [← seg_app]; congr 1; omega
        have a2 : seg T (sa + na) nb = seg T (sa + na) m ++ seg T (sa + na + m) (nb - m) := by rw [← seg_app]; congr 1; omega
        rw [a1, a2]; simp only [List.append_assoc]
      rw [t3]
      exact List.Perm.append_right _ (List.Perm.append_left _ m2)
    · have mem : ∀ x ∈ out.toList, x ∈ seg T (sa + k) (na - k) ∨ x ∈ seg T (sa + na) m := fun x hx => List.mem_append.mp (m2.mem_iff.mp hx)
      have k1 : ∀ x ∈ seg T sa k, O.kle (key x) (key b0) := fun x hx => hk2 x (by rw [seg_take hk1]; exact hx)
      have inA : ∀ x ∈ seg T (sa + k) (na - k), x ∈ seg T sa na := fun x hx => by rw [← seg_drop] at hx; exact List.mem_of_mem_drop hx
      have inB : ∀ x ∈ seg T (sa + na) m, x ∈ seg T (sa + na) nb := fun x hx => by rw [← seg_take hm1] at hx; exact List.mem_of_mem_take hx
      have inC : ∀ x ∈ seg T (sa + na + m) (nb - m), x ∈ (seg T (sa + na) nb).drop m := fun x hx => by rw [seg_drop]; exact hx
      refine List.pairwise_append.mpr ⟨List.pairwise_append.mpr ⟨?_, m1, fun x hx y hy => ?_⟩, ?_, fun x hx y hy => ?_⟩
      · rw [← seg_take hk1]; exact ha.sub (List.take_sublist _ _)
      · rcases mem y hy with h5 | h5
        · rw [← seg_drop] at h5
          rw [← seg_take hk1] at hx
          exact ha.cut k x hx y h5
        · exact KeyOrd.kle_trans (k1 x hx) (hb0 y (inB y h5))
      · rw [← seg_drop]; exact hb.sub (List.drop_sublist _ _)
      · rcases List.mem_append.mp hx with hx | hx
        · exact KeyOrd.kle_trans (k1 x hx) (hb0 y (List.mem_of_mem_drop (inC y hy)))
        · rcases mem x hx with h5 | h5
          · exact KeyOrd.kle_trans (hal x (inA x h5)) (hm3 y (inC y hy))
          · rw [← seg_take hm1] at h5
            exact hb.cut m x h5 y (inC y hy)
  by_cases c3 : na - k ≤ m
  · rw [if_pos c3]
    exact wpS_bind (mergeLo_ok C hk ⟨px, py, hx', hy', by omega, by omega, first, last⟩ fin)
  · rw [if_neg c3]
    exact wpS_bind (mergeHi_ok C hk ⟨px, py, hx', hy', by omega, by omega, first, last⟩ fin)
end
end Srt

set_option Elab.async false
set_option linter.all false
set_option maxRecDepth 100000
namespace Srt
open PySem PySem.Spec PyProof.Rows
def Chain : Nat → List (Nat × Nat) → Nat → Prop
  | lo, [], hi => lo = hi
  | lo, r :: l, hi => r.1 = lo ∧ 0 < r.2 ∧ Chain (lo + r.2) l hi
theorem chain_app : ∀ {l m : List (Nat × Nat)} {lo hi : Nat}, Chain lo (l ++ m) hi ↔ ∃ mid, Chain lo l mid ∧ Chain mid m hi
  | [], m, lo, hi => ⟨fun h => ⟨lo, rfl, h⟩, fun ⟨mid, h1, h2⟩ => by have h1 : lo = mid := h1; rw [h1]; exact h2⟩
  | r :: l, m, lo, hi => by
    constructor
    · rintro ⟨h1, h2, h3⟩
      obtain ⟨mid, h4, h5⟩ := chain_app.mp h3
      exact ⟨mid, ⟨h1, h2, h4⟩, h5⟩
    · rintro ⟨mid, ⟨h1, h2, h4⟩, h5⟩
      exact ⟨h1, h2, chain_app.mpr ⟨mid, h4, h5⟩⟩
theorem chain_le : ∀ {l : List (Nat × Nat)} {lo hi : Nat}, Chain lo l hi → lo + l.length ≤ hi ∧ ∀ r ∈ l, lo ≤ r.1 ∧ r.1 + r.2 ≤ hi
  | [], lo, hi, h => ⟨by have h : lo = hi := h; simp [h], fun r hr => nomatch hr⟩
  | r :: l, lo, hi, ⟨h1, h2, h3⟩ => by
    obtain ⟨h4, h5⟩ := chain_le h3
    refine ⟨by rw [List.length_cons]; omega, fun x hx => ?_⟩
    rcases List.mem_cons.mp hx with rfl | hx
    · exact ⟨by omega, by omega⟩
    · have := h5 x hx
      exact ⟨by omega, by omega⟩
def two (r : Nat × Nat × Nat) : Nat × Nat := (r.1, r.2.1)
def PL (st : SortSt) : List (Nat × Nat) := (pendingOf st).toList.map two
theorem PL_len (st : SortSt) : (PL st).length = (pendingOf st).size := by unfold PL; rw [List.length_map, Array.length_toList]
section
variable {prog : Program} {w : World} {Ar : Around} {E : Value → Shared → Prop} {s : Shared} {κ : SortKind} {P : Keyed → Prop} {O : KeyOrd} {key : Keyed → O.α} {a₀ : Array Keyed}
theorem up_asc {arr : Array Keyed} {lo n : Nat} (h : lo + n ≤ arr.size) : Up key arr lo n ↔ AscL key (seg arr.toList lo n) := by
  have hl : (seg arr.toList lo n).length = n := seg_len (by rw [Array.length_toList]; exact h)
  have e : ∀ (i : Nat) (hi : i < n), kAt key arr (lo + i) = key ((seg arr.toList lo n)[i]'(by omega)) := fun i hi => by
    unfold kAt
    rw [← Array.getElem?_toList, ← seg_get hi, List.getElem?_eq_getElem (by omega)]; rfl
  constructor
  · intro u
    refine List.pairwise_iff_getElem.mpr fun i j hi hj hij => ?_
    rw [← e i (by omega), ← e j (by omega)]
    exact u i j (by omega) (by omega)
  · intro u i j hij hj
    rw [e i (by omega), e j hj]
    rcases Nat.lt_or_ge i j with c | c
    · exact List.pairwise_iff_getElem.mp u i j (by omega) (by omega) c
    · obtain rfl : i = j := by omega
      exact KeyOrd.kle_refl _
structure RS (κ : SortKind) (key : Keyed → O.α) (a₀ : Array Keyed) (st : SortSt) (hi : Nat) : Prop where
  pm : (arrOf st).Perm a₀
  kd : kindOf st = κ
  fl : failedOf st = none
  ch : Chain 0 (PL st) hi
  up : ∀ r ∈ PL st, AscL key (seg (arrOf st).toList r.1 r.2)
  hz : hi ≤ a₀.size
theorem RS.sz {st : SortSt} {hi : Nat} (h : RS κ key a₀ st hi) : (arrOf st).size = a₀.size := h.pm.size_eq
theorem seg_same {T T' : List Keyed} {lo n hi : Nat} (h : lo + n ≤ hi) (e : ∀ k, k < hi → T'[k]? = T[k]?) : seg T' lo n = seg T lo n := by
  refine List.ext_getElem? fun i => ?_
  by_cases c : i < n
  · rw [seg_get c, seg_get c, e _ (by omega)]
  · unfold seg
    rw [List.getElem?_eq_none (by rw [List.length_take]; omega), List.getElem?_eq_none (by rw [List.length_take]; omega)]
theorem RS.of_SB {st st' : SortSt} {lo : Nat} (h : RS κ key a₀ st lo) (b : SB κ a₀ (pendingOf st) lo (fun k => (arrOf st)[k]?) st') : RS κ key a₀ st' lo := by
  have e : PL st' = PL st := by unfold PL; rw [b.pe]
  refine ⟨b.pm, b.kd, b.fl, by rw [e]; exact h.ch, fun r hr => ?_, h.hz⟩
  rw [e] at hr
  rw [seg_same (T := (arrOf st).toList) ((chain_le h.ch).2 r hr).2 fun k hk => by rw [Array.getElem?_toList, Array.getElem?_toList]; exact b.pr k hk]
  exact h.up r hr
theorem er {α : Type} (l1 l2 : List α) (a b v : α) : ((l1 ++ a :: b :: l2).set l1.length v).eraseIdx (l1.length + 1) = l1 ++ v :: l2 := by
  rw [List.set_append_right _ _ (Nat.le_refl _), Nat.sub_self, List.eraseIdx_append_of_length_le (by omega), show l1.length + 1 - l1.length = 1 by omega]; rfl
theorem mergeStep {st : SortSt} {i hi : Nat} {Q : Bool → SortSt → Prop} (C : Ord (model prog w) Ar E s κ P O key) (hP : ∀ x ∈ a₀.toList, P x) (h : RS κ key a₀ st hi) (hi2 : i + 1 < (pendingOf st).size)
    (q : ∀ st', RS κ key a₀ st' hi → (pendingOf st').size + 1 = (pendingOf st).size → (arrOf st').toList.drop hi = (arrOf st).toList.drop hi → Q true st') : wpS (model prog w) Ar E s (mergeAt' i) Q st := by
  generalize hp : (pendingOf st).toList = L
  have lL : L.length = (pendingOf st).size := by rw [← hp]; exact Array.length_toList
  obtain ⟨l1, ⟨sa, na, pw⟩, ⟨sb, nb, pw2⟩, l2, hl1, e⟩ : ∃ l1 a b l2, l1.length = i ∧ L = l1 ++ a :: b :: l2 := by
    refine ⟨L.take i, L[i]'(by omega), L[i + 1]'(by omega), L.drop (i + 2), by rw [List.length_take]; omega, ?_⟩
    rw [← List.drop_eq_getElem_cons, ← List.drop_eq_getElem_cons, List.take_append_drop]
  have hch := h.ch
  have hPL : PL st = l1.map two ++ (sa, na) :: (sb, nb) :: l2.map two := by unfold PL; rw [hp, e, List.map_append]; rfl
  rw [hPL] at hch
  obtain ⟨mid, c1, c2, c3, c4, c5, c6⟩ := chain_app.mp hch
  simp only at c2 c3 c4 c5 c6
  subst c2 c4
  obtain ⟨c7, c8⟩ := chain_le c6
  obtain ⟨d7, d8⟩ := chain_le c1
  have hz := h.hz
  have sz := h.sz
  have pmem : ∀ x ∈ (arrOf st).toList, P x := fun x hx => hP x ((Array.perm_iff_toList_perm.mp h.pm).mem_iff.mp hx)
  have g1 : (pendingOf st)[i]? = some (sa, na, pw) := by
    rw [← Array.getElem?_toList, hp, e, ← hl1, List.getElem?_append_right (Nat.le_refl _), Nat.sub_self]; rfl
  have g2 : (pendingOf st)[i + 1]? = some (sa + na, nb, pw2) := by
    rw [← Array.getElem?_toList, hp, e, ← hl1, List.getElem?_append_right (by omega), show l1.length + 1 - l1.length = 1 by omega]; rfl
  refine mergeAt_ok C h.kd h.fl g1 g2 c3 c5 (by omega) pmem (h.up (sa, na) (by rw [hPL]; simp)) (h.up (sa + na, nb) (by rw [hPL]; simp)) fun st' m k1 k2 k3 k4 k5 k6 => ?_
  generalize hT : (arrOf st).toList = T at *
  have lT : T.length = a₀.size := by rw [← hT, Array.length_toList]; exact sz
  have lm := k5.length_eq
  rw [seg_len (by omega)] at lm
  have hL' : (pendingOf st').toList = l1 ++ (sa, na + nb, pw) :: l2 := by
    rw [k3, Array.eraseIdxIfInBounds, dif_pos (by rw [Array.size_setIfInBounds]; exact hi2), Array.toList_eraseIdx, Array.toList_setIfInBounds, hp, e, ← hl1]
    exact er l1 l2 _ _ _
  have hPL' : PL st' = l1.map two ++ (sa, na + nb) :: l2.map two := by unfold PL; rw [hL', List.map_append]; rfl
  have tl : (T.take sa).length = sa := by rw [List.length_take]; omega
  have dr : ∀ k, sa + (na + nb) ≤ k → (arrOf st').toList.drop k = T.drop k := fun k hk => by
    rw [k4]
    obtain ⟨z, rfl⟩ := Nat.le.dest hk
    rw [show sa + (na + nb) + z = (T.take sa ++ m).length + z by rw [List.length_append]; omega, List.drop_length_add_append, List.drop_drop]
    congr 1
    rw [List.length_append]; omega
  have lo : ∀ k, k < sa → (arrOf st').toList[k]? = T[k]? := fun k hk => by
    rw [k4, List.append_assoc, List.getElem?_append_left (by omega), List.getElem?_take_of_lt hk]
  refine q st' ⟨?_, k1, k2, ?_, ?_, h.hz⟩ ?_ ?_
  · refine Array.Perm.trans ?_ h.pm
    rw [Array.perm_iff_toList_perm, k4, hT]
    have sT : T = T.take sa ++ seg T sa (na + nb) ++ T.drop (sa + (na + nb)) := by
      unfold seg
      rw [List.append_assoc, ← List.drop_drop, List.take_append_drop, List.take_append_drop]
    have : (T.take sa ++ m ++ T.drop (sa + (na + nb))).Perm (T.take sa ++ seg T sa (na + nb) ++ T.drop (sa + (na + nb))) := List.Perm.append_right _ (List.Perm.append_left _ k5)
    rwa [← sT] at this
  · rw [hPL']
    exact chain_app.mpr ⟨sa, c1, rfl, by show 0 < na + nb; omega, by rw [← Nat.add_assoc]; exact c6⟩
  · intro r hr
    rw [hPL'] at hr
    rcases List.mem_append.mp hr with hr | hr
    · rw [seg_same (d8 r hr).2 lo]
      rw [← hT]
      exact h.up r (by rw [hPL]; exact List.mem_append_left _ hr)
    · rcases List.mem_cons.mp hr with rfl | hr
      · have : seg (arrOf st').toList sa (na + nb) = m := by
          unfold seg
          rw [k4, List.append_assoc]
          have e1 : (T.take sa ++ (m ++ T.drop (sa + (na + nb)))).drop sa = m ++ T.drop (sa + (na + nb)) := by
            have := List.drop_length_add_append (l₁ := T.take sa) (l₂ := m ++ T.drop (sa + (na + nb))) (i := 0)
            rwa [tl] at this
          rw [e1, ← lm, List.take_left]
        show AscL key (seg (arrOf st').toList sa (na + nb))
        rw [this]; exact k6
      · have := c8 r hr
        unfold seg
        rw [dr r.1 (by omega), ← hT]
        exact h.up r (by rw [hPL]; exact List.mem_append_right _ (List.mem_cons_of_mem _ (List.mem_cons_of_mem _ hr)))
  · have a1 := congrArg List.length hL'
    have a2 := congrArg List.length e
    rw [Array.length_toList] at a1
    simp only [List.length_append, List.length_cons] at a1 a2
    omega
  · exact dr hi (by omega)
theorem RS.sb {st : SortSt} {lo : Nat} (h : RS κ key a₀ st lo) : SB κ a₀ (pendingOf st) lo (fun k => (arrOf st)[k]?) st := ⟨h.pm, h.kd, h.fl, rfl, fun _ _ => rfl⟩
theorem RS.modify {st : SortSt} {lo i : Nat} {f : Nat × Nat × Nat → Nat × Nat × Nat} (hf : ∀ r, two (f r) = two r) (h : RS κ key a₀ st lo) : RS κ key a₀ (setPending st ((pendingOf st).modify i f)) lo := by
  have e : PL (setPending st ((pendingOf st).modify i f)) = PL st := by
    show ((pendingOf st).modify i f).toList.map two = (pendingOf st).toList.map two
    refine List.ext_getElem? fun j => ?_
    rw [List.getElem?_map, List.getElem?_map, Array.getElem?_toList, Array.getElem?_toList, Array.getElem?_modify]
    split
    · rw [Option.map_map]
      congr 1
      exact funext hf
    · rfl
  exact ⟨h.pm, h.kd, h.fl, by rw [e]; exact h.ch, fun r hr => by rw [e] at hr; exact h.up r hr, h.hz⟩
theorem RS.push {st : SortSt} {lo n pw : Nat} (h : RS κ key a₀ st lo) (n0 : 0 < n) (hz : lo + n ≤ a₀.size) (hu : AscL key (seg (arrOf st).toList lo n)) : RS κ key a₀ (setPending st ((pendingOf st).push (lo, n, pw))) (lo + n) := by
  have e : PL (setPending st ((pendingOf st).push (lo, n, pw))) = PL st ++ [(lo, n)] := by
    show ((pendingOf st).push (lo, n, pw)).toList.map two = _
    rw [Array.toList_push, List.map_append]; rfl
  refine ⟨h.pm, h.kd, h.fl, ?_, fun r hr => ?_, hz⟩
  · rw [e]
    exact chain_app.mpr ⟨lo, h.ch, rfl, n0, rfl⟩
  · rw [e] at hr
    rcases List.mem_append.mp hr with hr | hr
    · exact h.up r hr
    · rw [List.mem_singleton.mp hr]; exact hu
theorem sortRuns_ok {st : SortSt} {f : Nat → Option Keyed} {Q : Unit → SortSt → Prop} (C : Ord (model prog w) Ar E s κ P O key) (hP : ∀ x ∈ a₀.toList, P x) (hB : SB κ a₀ #[] 0 f st) (h2 : 2 ≤ a₀.size)
    (h : ∀ st', (arrOf st').Perm a₀ → failedOf st' = none → Up key (arrOf st') 0 a₀.size → Q () st') : wpS (model prog w) Ar E s sortRuns' Q st := by
  have h0 : RS κ key a₀ st 0 := by
    have e : PL st = [] := by unfold PL; rw [hB.pe]; rfl
    exact ⟨hB.pm, hB.kd, hB.fl, by rw [e]; rfl, (fun r hr => by rw [e] at hr; exact nomatch hr), Nat.zero_le _⟩
  rw [sortRuns'_eq]
  refine wpS_bind (wpS_get ?_); dsimp only
  simp only [hB.sz]
  generalize minRun' a₀.size a₀.size 0 = mr
  refine wpS_bind (wpS_mono (wpS_forRange (I := fun x c st' => ∃ lo : Nat, c = (none, lo) ∧ RS κ key a₀ st' lo ∧ (x ≤ lo ∨ a₀.size ≤ lo)) (Q := fun c st' => c = (none, a₀.size) ∧ RS κ key a₀ st' a₀.size) ?step ?fin ⟨0, rfl, h0, .inl (Nat.le_refl _)⟩) ?post)
  case fin =>
    rintro _ st' ⟨lo, rfl, r, hx⟩
    have := r.hz
    obtain rfl : lo = a₀.size := by omega
    exact ⟨rfl, r⟩
  case step =>
    rintro x _ st1 _ hx ⟨lo, rfl, r1, hlo⟩
    dsimp only
    have hz := r1.hz
    by_cases cl : lo ≥ a₀.size
    · rw [if_pos cl]
      obtain rfl : lo = a₀.size := by omega
      exact wpS_pure ⟨rfl, r1⟩
    rw [if_neg cl]
    refine wpS_bind (countRun_ok C hP (by omega) (by omega) r1.sb fun m st2 hB2 hm1 hm2 hs2 => ?_)
    dsimp only
    have r2 := r1.of_SB hB2
    have tail : ∀ (n : Nat) (st3 : SortSt), RS κ key a₀ st3 lo → 0 < n → lo + n ≤ a₀.size → AscL key (seg (arrOf st3).toList lo n) → RS κ key a₀ (setPending st3 ((pendingOf st3).push (lo, n, 0))) (lo + n) ∧ (x + 1 ≤ lo + n ∨ a₀.size ≤ lo + n) := fun n st3 r3 n0 hz3 hu => ⟨r3.push n0 hz3 hu, by omega⟩
    by_cases cm : m < mr
    case' pos =>
      rw [if_pos cm]
      refine wpS_bind (wpS_lift (wpAny_rule ⟨rfl, ?_⟩))
      refine wpS_bind (binSort_ok C hP (by omega) (by omega) hB2 hs2 fun st3 hB3 hs3 => ?_)
      simp only [Bool.not_true, Bool.false_eq_true, if_false]
      have r3 := r1.of_SB hB3
      have n0 : 0 < min (a₀.size - lo) mr := by omega
      have hz3 : lo + min (a₀.size - lo) mr ≤ a₀.size := by omega
      generalize min (a₀.size - lo) mr = n at hs3 n0 hz3 ⊢
    case' neg =>
      rw [if_neg cm]
      have hs3 := hs2
      have r3 := r2
      have n0 : 0 < m := by omega
      have hz3 : lo + m ≤ a₀.size := by omega
      generalize hst3 : st2 = st3 at hs3 r3 ⊢
      generalize m = n at hs3 n0 hz3 ⊢
    all_goals
      have u3 := (up_asc (by rw [r3.sz]; exact hz3)).mp hs3
      refine wpS_bind (wpS_get ?_)
      cases hbk : (pendingOf st3).back? with
      | none =>
        dsimp only
        have := tail n st3 r3 n0 hz3 u3
        exact wpS_bind (wpS_modify (wpS_pure ⟨_, rfl, this⟩))
      | some b =>
        obtain ⟨s1, n1, p1⟩ := b
        dsimp only
        generalize power' a₀.size (2 * s1 + n1) (2 * s1 + n1 + n1 + n) a₀.size = pw
        refine wpS_bind (wpS_mono (wpS_forRange (I := fun _ c st' => c = (none, ()) ∧ RS κ key a₀ st' lo ∧ AscL key (seg (arrOf st').toList lo n)) (Q := fun c st' => c = (none, ()) ∧ RS κ key a₀ st' lo ∧ AscL key (seg (arrOf st').toList lo n)) ?_ (fun _ _ hh => hh) ⟨rfl, r3, u3⟩) ?_)
        · rintro y _ st4 _ hy ⟨rfl, r4, u4⟩
          refine wpS_bind (wpS_get ?_)
          by_cases cp : (pendingOf st4).size > 1
          · rw [if_pos cp]
            obtain ⟨⟨s5, n5, p5⟩, h5⟩ : ∃ z, (pendingOf st4)[(pendingOf st4).size - 2]? = some z := ⟨_, Array.getElem?_eq_getElem (by omega)⟩
            rw [h5]
            dsimp only
            by_cases co : p5 ≤ pw
            · rw [if_pos co]
              exact wpS_pure ⟨rfl, r4, u4⟩
            · rw [if_neg co]
              refine wpS_bind (mergeStep C hP r4 (by omega) fun st5 r5 _ d5 => ?_)
              simp only [Bool.not_true, Bool.false_eq_true, if_false]
              refine wpS_pure ⟨rfl, r5, ?_⟩
              unfold seg
              rw [d5]; exact u4
          · rw [if_neg cp]
            exact wpS_pure ⟨rfl, r4, u4⟩
        · rintro _ st4 ⟨rfl, r4, u4⟩
          dsimp only
          refine wpS_bind (wpS_modify ?_)
          have := tail n _ (r4.modify (i := (pendingOf st4).size - 1) (f := fun (st, len, _) => (st, len, pw)) fun _ => rfl) n0 hz3 u4
          exact wpS_bind (wpS_modify (wpS_pure ⟨_, rfl, this⟩))
  case post =>
    rintro _ st1 ⟨rfl, r1⟩
    dsimp only
    have pl := (chain_le r1.ch).1
    rw [PL_len] at pl
    refine wpS_bind (wpS_mono (wpS_forRange (I := fun y c st' => c = (none, ()) ∧ RS κ key a₀ st' a₀.size ∧ ((pendingOf st').size + y ≤ a₀.size ∨ (pendingOf st').size ≤ 1)) (Q := fun c st' => c = (none, ()) ∧ RS κ key a₀ st' a₀.size ∧ (pendingOf st').size ≤ 1) ?_ ?_ ⟨rfl, r1, by omega⟩) ?_)
    · rintro y _ st4 _ hy ⟨rfl, r4, h4⟩
      refine wpS_bind (wpS_get ?_)
      by_cases cp : (pendingOf st4).size ≤ 1
      · rw [if_pos cp]
        exact wpS_pure ⟨rfl, r4, cp⟩
      rw [if_neg cp]
      have go : ∀ i, i + 1 < (pendingOf st4).size → wpS (model prog w) Ar E s (mergeAt' i) (fun b st' => b = true ∧ RS κ key a₀ st' a₀.size ∧ ((pendingOf st').size + (y + 1) ≤ a₀.size ∨ (pendingOf st').size ≤ 1)) st4 := fun i hi => mergeStep C hP r4 hi fun st5 r5 h5 _ => ⟨rfl, r5, by omega⟩
      refine wpS_bind (wpS_mono (go _ ?_) ?_)
      · have ile : ∀ (c : Bool) (n : Nat), (if c = true then n - 1 else n) ≤ n := by intro c n; cases c <;> simp
        exact Nat.lt_of_le_of_lt (Nat.add_le_add_right (ile _ _) 1) (by omega)
      · rintro _ st5 ⟨rfl, r5, h5⟩
        simp only [Bool.not_true, Bool.false_eq_true, if_false]
        exact wpS_pure ⟨rfl, r5, h5⟩
    · rintro _ st4 ⟨rfl, r4, h4⟩
      exact ⟨rfl, r4, by omega⟩
    · rintro _ st4 ⟨rfl, r4, h4⟩
      refine wpS_pure (h st4 r4.pm r4.fl ?_)
      have hch := r4.ch
      have hl := PL_len st4
      rw [up_asc (by rw [r4.sz]; omega)]
      cases hp : PL st4 with
      | nil =>
        rw [hp] at hch
        have hch : 0 = a₀.size := hch
        omega
      | cons r l =>
        rw [hp] at hch hl
        have hl0 : l = [] := by
          rw [List.length_cons] at hl
          exact List.length_eq_zero_iff.mp (by omega)
        subst hl0
        obtain ⟨c1, c2, c3⟩ := hch
        have c3 : 0 + r.2 = a₀.size := c3
        have := r4.up r (by rw [hp]; exact List.mem_cons_self)
        rw [c1, show r.2 = a₀.size by omega] at this
        exact this
end
end Srt

set_option Elab.async false
set_option linter.all false
set_option maxRecDepth 100000
namespace Srt
open PySem PySem.Spec PyProof.Rows L2
section
variable {prog : Program} {w : World} {A : Around} {E : Value → Shared → Prop} {s : Shared} {κ : SortKind} {P : Keyed → Prop} {O : KeyOrd} {key : Keyed → O.α} {a₀ : Array Keyed} {pd : Array (Nat × Nat × Nat)} {lo : Nat} {f : Nat → Option Keyed}
abbrev sHeap (h : Heap) (a : Addr) (vs : List Value) : Heap := ((h.update a (Obj.mapSeq fun _ => #[])).push (seqObj "tuple" vs.toArray 0)).push (seqObj "list" #[] 0)
theorem sort_at {a : Addr} {vs : List Value} {n : Nat} {R : Fin → Shared → Prop} (ho : s.heap.get? a = some (seqObj "list" vs.toArray n)) (hz : vs.length ≤ sizeLine)
    (hk : 2 ≤ vs.length → ∀ (Q : SortKind → Shared → Prop), Q κ { s with heap := sHeap s.heap a vs } → wpAny (model prog w) A (keyKind' vs.toArray) Q E { s with heap := sHeap s.heap a vs })
    (C : Ord (model prog w) A E { s with heap := sHeap s.heap a vs } κ P O key) (hP : ∀ v ∈ vs, P (v, v))
    (h : ∀ out : Array Keyed, out.Perm (pairsOf vs) → Up key out 0 vs.length → R (.done (.ret .none)) { s with heap := sortedHeap s.heap a vs (out.map (·.2)) }) :
    wpAny (model prog w) A (Builtin.«list.sort» ⟨[.ref a], []⟩) R E s := by
  have ha : a < s.heap.objs.size := Heap.lt_size ho
  have sz : vs.toArray.size = vs.length := by simp
  rw [list_sort_plain]
  refine wpAny_bind (listItems_at ho rfl (wpAny_bind (listUpdate_at ho rfl ?_ (by rw [sz]; exact hz))))
  obtain ⟨e1, ho1⟩ : ∃ e1, (s.heap.update a (Obj.mapSeq fun _ => #[])).get? a = some (seqObj "list" #[] e1) := ⟨_, get?_update_seq ho (fun _ => #[])⟩
  refine wpAny_bind (seqEpoch_at ho1 rfl (wpAny_bind (wpAny_newTuple ?_ (by simpa using hz)))); refine wpAny_bind (wpAny_newList ?_); refine wpAny_holding ?_
  have ho6 : (sHeap s.heap a vs).get? a = some (seqObj "list" #[] e1) := by
    rw [Heap.get?_push_ne _ _ _ (by rw [size_push', Heap.size_update]; exact Nat.ne_of_lt (Nat.lt_succ_of_lt ha)), Heap.get?_push_ne _ _ _ (by rw [Heap.size_update]; exact Nat.ne_of_lt ha)]; exact ho1
  show wpAny (model prog w) A _ R E { s with heap := sHeap s.heap a vs }
  dsimp only
  have fits : ∀ out : Array Keyed, out.Perm (pairsOf vs) → (out.map (·.2)).size ≤ sizeLine + 1 := fun out p => by rw [Array.size_map, p.size_eq, pairsOf_size]; omega
  by_cases h2 : vs.toArray.size < 2
  · rw [if_pos h2, if_pos h2]
    refine wpAny_bind (wpAny_pure ?_); rw [StateT.run_pure]; refine wpAny_bind (wpAny_pure ?_); dsimp only
    refine wpAny_bind (seqEpoch_at ho6 rfl (wpAny_bind (listUpdate_at ho6 rfl ?_ (by show 0 ≤ sizeLine; exact Nat.zero_le _) (by exact fits (pairsOf vs) (Array.Perm.refl _)))))
    simp only [bne_self_eq_false, Bool.false_eq_true, if_false]
    refine wpAny_pure (h (pairsOf vs) (Array.Perm.refl _) fun i j hij hj => ?_)
    obtain rfl : i = j := by omega
    exact KeyOrd.kle_refl _
  · rw [if_neg h2, if_neg h2]
    refine wpAny_bind (hk (by omega) _ ?_)
    refine wpAny_bind (wpAny_mono (sortRuns_ok (a₀ := pairsOf vs) (f := fun _ => none) (st := SortSt.mk' κ (vs.toArray.zip vs.toArray) #[] 7 none)
      (Q := fun _ st' => (arrOf st').Perm (pairsOf vs) ∧ failedOf st' = none ∧ Up key (arrOf st') 0 (pairsOf vs).size) C (fun x hx => ?_) ⟨Array.Perm.refl _, rfl, rfl, rfl, fun k hk => absurd hk (by omega)⟩ (by rw [pairsOf_size]; omega) fun st' a1 a2 a3 => ⟨a1, a2, a3⟩) ?_ fun _ _ e => e)
    · rw [pairsOf_toList] at hx
      have := mem_zip_self hx
      have e : x = (x.1, x.1) := Prod.ext rfl this.1.symm
      rw [e]; exact hP _ this.2
    · rintro ⟨⟨⟩, st'⟩ s' ⟨rfl, hp, hf, hs⟩
      dsimp only
      refine wpAny_bind (seqEpoch_at ho6 rfl (wpAny_bind (listUpdate_at ho6 rfl ?_ (by show 0 ≤ sizeLine; exact Nat.zero_le _) (by exact fits _ hp))))
      rw [hf]; simp only [bne_self_eq_false, Bool.false_eq_true, if_false]
      exact wpAny_pure (h _ hp (by rw [← pairsOf_size vs]; exact hs))
end
def lx : List Int → List Int → Bool
  | [], [] => false
  | [], _ :: _ => true
  | _ :: _, [] => false
  | a :: r, b :: q => if a = b then lx r q else decide (a < b)
theorem lx_irr : ∀ a, lx a a = false
  | [] => rfl
  | a :: r => by unfold lx; rw [if_pos rfl]; exact lx_irr r
theorem lx_tr : ∀ a b c, lx a b = true → lx b c = true → lx a c = true
  | [], [], _, h, _ => by cases h
  | [], _ :: _, [], _, h => by cases h
  | [], _ :: _, _ :: _, _, _ => rfl
  | _ :: _, [], _, h, _ => by cases h
  | _ :: _, _ :: _, [], _, h => by cases h
  | a :: r, b :: q, c :: t, h1, h2 => by
    unfold lx at h1 h2 ⊢
    by_cases e1 : a = b
    · subst e1
      rw [if_pos rfl] at h1
      by_cases e2 : a = c
      · subst e2
        rw [if_pos rfl] at h2 ⊢
        exact lx_tr r q t h1 h2
      · rw [if_neg e2] at h2 ⊢; exact h2
    · rw [if_neg e1] at h1
      have h1 := of_decide_eq_true h1
      by_cases e2 : b = c
      · subst e2; rw [if_neg e1]; exact decide_eq_true h1
      · rw [if_neg e2] at h2
        have h2 := of_decide_eq_true h2
        rw [if_neg (by omega)]; exact decide_eq_true (by omega)
theorem lx_neg : ∀ a b c, lx a c = true → lx a b = true ∨ lx b c = true
  | [], _, [], h => by cases h
  | [], [], _ :: _, _ => .inr rfl
  | [], _ :: _, _ :: _, _ => .inl rfl
  | _ :: _, _, [], h => by cases h
  | _ :: _, [], _ :: _, _ => .inr rfl
  | a :: r, b :: q, c :: t, h => by
    unfold lx at h ⊢
    by_cases e : a = c
    · subst e
      rw [if_pos rfl] at h
      by_cases e1 : a = b
      · subst e1; rw [if_pos rfl, if_pos rfl]; exact lx_neg r q t h
      · rw [if_neg e1, if_neg (Ne.symm e1)]
        rcases Int.lt_or_gt_of_ne e1 with z | z
        · exact .inl (decide_eq_true z)
        · exact .inr (decide_eq_true z)
    · rw [if_neg e] at h
      have h := of_decide_eq_true h
      by_cases e1 : a = b
      · subst e1; right; rw [if_neg e]; exact decide_eq_true h
      · by_cases e2 : b = c
        · subst e2; left; rw [if_neg e1]; exact decide_eq_true h
        · rw [if_neg e1, if_neg e2]
          rcases Int.lt_or_gt_of_ne e1 with z | z
          · exact .inl (decide_eq_true z)
          · exact .inr (decide_eq_true (by omega))
theorem lx_tot : ∀ a b, lx a b = false → lx b a = false → a = b
  | [], [], _, _ => rfl
  | [], _ :: _, h, _ => by cases h
  | _ :: _, [], _, h => by cases h
  | a :: r, b :: q, h1, h2 => by
    unfold lx at h1 h2
    by_cases e : a = b
    · subst e
      rw [if_pos rfl] at h1 h2
      rw [lx_tot r q h1 h2]
    · rw [if_neg e] at h1
      rw [if_neg (Ne.symm e)] at h2
      have h1 := of_decide_eq_false h1
      have h2 := of_decide_eq_false h2
      omega
def LX : KeyOrd := ⟨List Int, lx, lx_irr, lx_tr, lx_neg, lx_tot⟩
def rowOf (h : Heap) (v : Value) : List Int := match v with
  | .ref a => match h.get? a with
    | some o => match o.data with
      | .seq xs _ => xs.toList.map numOf
      | _ => []
    | none => []
  | _ => []
def IsRow (T : String) (h : Heap) (v : Value) : Prop := ∃ a o xs n, v = .ref a ∧ h.get? a = some o ∧ o.cls = .type T ∧ o.data = .seq xs n ∧ ∀ u ∈ xs.toList, ∃ i t, u = .int i t
theorem rowOf_at {h : Heap} {a : Addr} {o : Obj} {xs : Array Value} {n : Nat} (g : h.get? a = some o) (d : o.data = .seq xs n) : rowOf h (.ref a) = xs.toList.map numOf := by unfold rowOf; simp only [g, d]
section
variable {prog : Program} {w : World} {A : Around} {E : Value → Shared → Prop} {s : Shared} {fin : Bool} {Q : Bool → Shared → Prop}
theorem kat_ints : ∀ (xs ys : List Value) (i : Nat), (∀ u ∈ xs, ∃ i t, u = .int i t) → (∀ u ∈ ys, ∃ i t, u = .int i t) → fin = decide (xs.length < ys.length) → Q (lx (xs.map numOf) (ys.map numOf)) s → PySem.W.KatLex prog w A true fin Q (xs.zip ys) i s
  | [], ys, i, _, _, hf, q => by
    rw [List.zip_nil_left]
    refine PySem.W.kat_nil ?_
    rw [hf]
    cases ys with
    | nil => exact q
    | cons y r => exact q
  | x :: r, [], i, _, _, hf, q => by
    rw [List.zip_nil_right]
    refine PySem.W.kat_nil ?_
    rw [hf]; exact q
  | x :: r, y :: t, i, hx, hy, hf, q => by
    obtain ⟨a, ta, rfl⟩ := hx x List.mem_cons_self
    obtain ⟨b, tb, rfl⟩ := hy y List.mem_cons_self
    rw [List.zip_cons_cons]
    refine PySem.W.kat_cons (wpAny_eqBool_int ?_)
    have e : lx ((Value.int a ta :: r).map numOf) ((Value.int b tb :: t).map numOf) = if a = b then lx (r.map numOf) (t.map numOf) else decide (a < b) := rfl
    rw [e] at q
    by_cases hab : a = b
    · subst hab
      rw [if_pos rfl] at q
      rw [show (a == a) = true from beq_self_eq_true a]
      exact PySem.W.kat_yes (kat_ints r t (i + 1) (fun u hu => hx u (List.mem_cons_of_mem _ hu)) (fun u hu => hy u (List.mem_cons_of_mem _ hu)) (by rw [hf]; simp) q)
    · rw [if_neg hab] at q
      rw [show (a == b) = false from beq_eq_false_iff_ne.mpr hab]
      refine PySem.W.kat_no ?_
      by_cases hi : i = 0
      · subst hi
        exact oneLt_int q
      · have : (true && i == 0) = false := by simp [hi]
        rw [this]
        exact PySem.W.kat_one _ _ (wpAny_lt_int q)
theorem ord_tups : Ord (model prog w) A E s (tuples' true) (fun x => IsRow "tuple" s.heap x.1) LX (fun x => rowOf s.heap x.1) := by
  rintro ⟨x, x'⟩ ⟨y, y'⟩ ⟨a, o, xs, n, rfl, g, _, d, hx⟩ ⟨b, p, ys, m, rfl, g', _, d', hy⟩ st Q hk q
  rw [lt'_eq]
  refine wpS_bind (wpS_get ?_)
  rw [hk]
  refine wpS_bind (wpS_lift (wpAny_attempt (PySem.W.kat_lt g d g' d' (kat_ints _ _ 0 hx hy (by simp) ⟨rfl, wpS_pure ?_⟩))))
  have e : LX.blt (rowOf s.heap (.ref a)) (rowOf s.heap (.ref b)) = lx (xs.toList.map numOf) (ys.toList.map numOf) := by rw [rowOf_at g d, rowOf_at g' d']; rfl
  rw [← e]; exact q
theorem kind_tups {vs : List Value} {Q : SortKind → Shared → Prop} (h2 : 2 ≤ vs.length) (hr : ∀ v ∈ vs, IsRow "tuple" s.heap v ∧ rowOf s.heap v ≠ []) (q : Q (tuples' true) s) : wpAny (model prog w) A (keyKind' vs.toArray) Q E s := by
  have : ∃ fs, PySem.W.KatTups s.heap vs fs ∧ fs.length = vs.length ∧ ∀ v ∈ fs, ∃ i t, v = Value.int i t := by
    clear h2 q
    induction vs with
    | nil => exact ⟨[], PySem.W.KatTups.nil, rfl, fun v hv => nomatch hv⟩
    | cons v r ih =>
      obtain ⟨fs, h1, h2, h3⟩ := ih fun u hu => hr u (List.mem_cons_of_mem _ hu)
      obtain ⟨⟨a, o, xs, n, rfl, g, c, d, hx⟩, hn⟩ := hr v List.mem_cons_self
      rw [rowOf_at g d] at hn
      obtain ⟨l, rfl⟩ : ∃ l : List Value, xs = ⟨l⟩ := ⟨xs.toList, rfl⟩
      cases l with
      | nil => exact absurd rfl hn
      | cons u l =>
        refine ⟨u :: fs, PySem.W.KatTups.cons g c d rfl h1, by simp [h2], fun z hz => ?_⟩
        rcases List.mem_cons.mp hz with rfl | hz
        · exact hx _ List.mem_cons_self
        · exact h3 z hz
  obtain ⟨fs, h1, h3, h4⟩ := this
  refine PySem.W.kat_kind (T := .type "int") h1 (by omega) (fun v hv => ?_) (by decide) q
  obtain ⟨i, t, rfl⟩ := h4 v hv
  exact PySem.W.Looks.of_pure rfl
end
end Srt

set_option Elab.async false
set_option linter.all false
set_option maxRecDepth 100000
namespace Srt
open PySem PySem.Spec PyProof.Rows L2
theorem sHeap_old {h : Heap} {a b : Addr} {vs : List Value} {o : Obj} (hb : h.get? b = some o) (ne : b ≠ a) : (sHeap h a vs).get? b = some o := by
  have hlt := Heap.lt_size hb
  rw [Heap.get?_push_ne _ _ _ (by rw [size_push', Heap.size_update]; exact Nat.ne_of_lt (Nat.lt_succ_of_lt hlt)), Heap.get?_push_ne _ _ _ (by rw [Heap.size_update]; exact Nat.ne_of_lt hlt), Heap.get?_update_ne _ _ _ _ ne]
  exact hb
theorem IsRow.keep {T : String} {h h' : Heap} {v : Value} (k : ∀ b o, h.get? b = some o → h'.get? b = some o) (r : IsRow T h v) : IsRow T h' v ∧ rowOf h' v = rowOf h v := by
  obtain ⟨a, o, xs, n, rfl, g, c, d, hx⟩ := r
  exact ⟨⟨a, o, xs, n, rfl, k _ _ g, c, d, hx⟩, by rw [rowOf_at g d, rowOf_at (k _ _ g) d]⟩
abbrev Asc (l : List (List Int)) : Prop := l.Pairwise fun a b => lx b a = false
theorem up_ascR {h : Heap} {vs : List Value} {out : Array Keyed} (p : out.Perm (pairsOf vs)) (u : Up (O := LX) (fun x => rowOf h x.1) out 0 vs.length) :
    (out.map (·.2)).toList.Perm vs ∧ Asc (((out.map (·.2)).toList).map (rowOf h)) := by
  have hl : out.toList.Perm (vs.zip vs) := by rw [← pairsOf_toList]; exact Array.perm_iff_toList_perm.mp p
  have sz : out.size = vs.length := by rw [p.size_eq, pairsOf_size]
  have e12 : ∀ x ∈ out.toList, x.1 = x.2 := fun x hx => (mem_zip_self (hl.mem_iff.mp hx)).1
  have e : (out.map (·.2)).toList = out.toList.map (·.1) := by rw [Array.toList_map]; exact List.map_congr_left fun x hx => (e12 x hx).symm
  rw [e]
  refine ⟨?_, ?_⟩
  · have := hl.map Prod.fst
    rwa [List.map_fst_zip (Nat.le_refl _)] at this
  · rw [Asc, List.pairwise_iff_getElem]
    intro i j hi hj hij
    simp only [List.length_map, Array.length_toList] at hi hj
    have := u i j (by omega) (by omega)
    simp only [KeyOrd.kle, kAt, Nat.zero_add, Array.getElem?_eq_getElem hi, Array.getElem?_eq_getElem hj, Option.getD_some] at this
    simpa [LX] using this
section
variable {prog : Program} {w : World} {A : Around} {E : Value → Shared → Prop} {s : Shared} {Q : Value → Shared → Prop}
theorem sorted_rows {r : Addr} {its : List Value} (hcol : ∀ (R : List Value → Shared → Prop), (∀ h' tk, (∀ b o, s.heap.get? b = some o → h'.get? b = some o) → s.heap.objs.size ≤ h'.objs.size → R its { s with heap := h', toks := tk }) → wpAny (model prog w) A.in1 (collect (.ref r)) R E s)
    (hr : ∀ v ∈ its, IsRow "tuple" s.heap v) (hne : 2 ≤ its.length → ∀ v ∈ its, rowOf s.heap v ≠ []) (hz : its.length ≤ sizeLine)
    (hQ : ∀ D h' tk out c, (∀ b o, s.heap.get? b = some o → h'.get? b = some o) → s.heap.objs.size ≤ D → h'.get? D = some (seqObj "list" (out : List Value).toArray c) → out.Perm its → Asc (out.map (rowOf s.heap)) → Q (.ref D) { s with heap := h', toks := tk }) :
    wpAny (model prog w) A (call (.builtin "sorted") [.ref r]) Q E s := by
  refine Calls.call_function_entry kind_sorted plain_sorted entry_sorted (args_sorted1 _) ?_
  unfold Builtin.«sorted»; refine wpAny_bind (m := checkCount "sorted" 1 1 _) (wpAny_pure (wpAny_bind (hcol _ fun h1 tk k1 sz1 => wpAny_bind (wpAny_newList ?_ hz))))
  have hoL : (h1.push (seqObj "list" its.toArray 0)).get? h1.objs.size = some (seqObj "list" its.toArray 0) := Heap.get?_push_size _ rfl
  have ne : ∀ b o, s.heap.get? b = some o → b ≠ h1.objs.size := fun b o e => Nat.ne_of_lt (Heap.lt_size (k1 _ _ e))
  have k6 : ∀ b o, s.heap.get? b = some o → (sHeap (h1.push (seqObj "list" its.toArray 0)) h1.objs.size its).get? b = some o := fun b o e => sHeap_old (Heap.get?_push_of_some _ (k1 _ _ e)) (ne b o e)
  have e6 : ∀ v ∈ its, rowOf (sHeap (h1.push (seqObj "list" its.toArray 0)) h1.objs.size its) v = rowOf s.heap v := fun v hv => ((hr v hv).keep k6).2
  refine wpAny_bind (wpAny_holding (wpAny_call_entry slot_list_sort (s := { s with heap := h1.push (seqObj "list" its.toArray 0), toks := tk }) ⟨_, hoL, rfl⟩ entry_list_sort
    (sort_at (s := { s with heap := h1.push (seqObj "list" its.toArray 0), toks := tk }) hoL hz (κ := tuples' true) (P := fun x => IsRow "tuple" (sHeap (h1.push (seqObj "list" its.toArray 0)) h1.objs.size its) x.1) (fun h2 Q' q => kind_tups h2 (fun v hv => ⟨((hr v hv).keep k6).1, by
      show rowOf (sHeap (h1.push (seqObj "list" its.toArray 0)) h1.objs.size its) v ≠ []
      rw [e6 v hv]; exact hne h2 v hv⟩) q) ord_tups (fun v hv => ((hr v hv).keep k6).1) fun out p u => ⟨_, rfl, ?_⟩) (args_list_sort _)))
  refine wpAny_pure ⟨_, rfl, ?_⟩
  obtain ⟨p1, a1⟩ := up_ascR p u
  obtain ⟨c, gD⟩ := sortedHeap_at (out := out.map (·.2)) hoL
  have ea : ((out.map (·.2)).toList).map (rowOf (sHeap (h1.push (seqObj "list" its.toArray 0)) h1.objs.size its)) = ((out.map (·.2)).toList).map (rowOf s.heap) := List.map_congr_left fun v hv => e6 v (p1.mem_iff.mp hv)
  refine hQ h1.objs.size _ tk (out.map (·.2)).toList c (fun b o e => ?_) sz1 (by rw [Array.toArray_toList]; exact gD) p1 (by rw [← ea]; exact a1)
  have e1 := Heap.get?_push_of_some (seqObj "list" its.toArray 0) (k1 _ _ e)
  exact (sortedHeap_old (ne b o e) (Heap.lt_size e1)).trans e1
theorem coll_src {R : List Value → Shared → Prop} {T : String} {r d : Addr} {n : Nat} {Pw : Nat → Value → Prop} {OK : Heap → Prop} (K : PySem.W.KdlSrc prog w T r d n Pw OK) (hh : A.handled = none) (hok : OK s.heap) (hn : n ≤ sizeLine)
    (h : ∀ (h' : Heap) (tk : Nat) (acc : Array Value), (∀ b o, s.heap.get? b = some o → h'.get? b = some o) → s.heap.objs.size ≤ h'.objs.size → ItemsOf Pw acc n → R acc.toList { s with heap := h', toks := tk }) : wpAny (model prog w) A (collect (.ref r)) R E s := by
  have hlt := K.there _ hok
  have e0 : (s.heap.push { cls := .type "list", data := .seq ([] : List Value).toArray }).get? s.heap.objs.size = some { cls := .type "list", data := .seq #[] } := Heap.get?_push_size _ rfl
  have fin : ∀ (h' : Heap) (tk : Nat) (acc : Array Value) (c : Nat), (∀ b o, s.heap.get? b = some o → h'.get? b = some o) → h'.get? s.heap.objs.size = some { cls := .type "list", dict := none, data := .seq acc c, slots := #[] } → ItemsOf Pw acc n →
      wpAny (model prog w) A (load s.heap.objs.size >>= fun o => match o.data with | .seq xs _ => pure xs.toList | _ => unsupported "internal:collect") R E { s with heap := h', toks := tk } := fun h' tk acc c hk g ha =>
    wpAny_bind (wpAny_load g (wpAny_pure (h h' tk acc hk (Nat.le_of_lt (Heap.lt_size g)) ha)))
  unfold collect; refine wpAny_bind (wpAny_runValue (codeAny_builtin entry_proto_collect' ?_)); rw [Around.under_plainId PySem.F.plain_proto_collect _]
  show wpAny _ A.in1 (newList [] >>= _) _ _ s; refine wpAny_bind (wpAny_newObj_type (wpAny_pure ⟨plainId_quiet PySem.F.plain_list_iadd _, codeAny_builtin entry_list_iadd' ?_⟩)); rw [Around.under_plainId PySem.F.plain_list_iadd _]
  refine wpAny_mono (PySem.W.kdl_extend (A := A) (s := { s with heap := s.heap.push { cls := .type "list", data := .seq ([] : List Value).toArray } }) (R := fun q s' => ∃ h' tk acc c, q = .ok (.ret (.ref s.heap.objs.size)) ∧ s' = { s with heap := h', toks := tk } ∧
      (∀ b o, s.heap.get? b = some o → h'.get? b = some o) ∧ h'.get? s.heap.objs.size = some { cls := .type "list", dict := none, data := .seq acc c, slots := #[] } ∧ ItemsOf Pw acc n) K hh (K.keep _ _ hok fun b _ o e => Heap.get?_push_of_some _ e) s.heap.objs.size (Nat.ne_of_gt hlt.1) (Nat.ne_of_gt hlt.2) (.ref s.heap.objs.size) 0 e0
      (fun h' tk acc c hk g ha => ⟨h', tk, acc, c, rfl, rfl, fun b o e => hk b o (Nat.ne_of_lt (Heap.lt_size e)) (Heap.get?_push_of_some _ e), g, ha⟩) hn) (fun fn s' x => ?_) fun e s' ⟨_, _, _, _, z, _⟩ => by cases z
  cases fn with
  | done f => obtain ⟨h', tk, acc, c, e, rfl, hk, g, ha⟩ := x; cases e; exact fin h' tk acc c hk g ha
  | again c1 => exact ⟨x.1, codeAny_mono x.2 fun q s2 ⟨h', tk, acc, c, e, e2, hk, g, ha⟩ => by subst e e2; exact fin h' tk acc c hk g ha⟩
theorem src_dict {d : Addr} {es : Array DictEntry} {ep : Nat} (hd : (d == sysModules) = false) : PySem.W.KdlSrc prog w "dict" d d es.size (fun i v => (es[i]?).map DictEntry.key = some v) (fun h => RawD h d es ep) where
  type := fun _ hm => hm.ty
  there := fun _ ⟨o, g, _⟩ => ⟨Heap.lt_size g, Heap.lt_size g⟩
  keep := fun _ _ ⟨o, g, c, z⟩ hk => ⟨o, hk d (.inl rfl) o g, c, z⟩
  notList := by decide
  notTuple := by decide
  hint := fun _ _ _ _ hm hq => PySem.W.kdl_hint_dict hm.ty hq
  iter := fun A s hh hm => ⟨{ cls := .type "dict_keyiterator", data := .fields #[.ref d, .int 0 0, .int es.size 0, .int ep 0] }, fun i h => h.IsKeyIter s.heap.objs.size d i es.size ep ∧ RawD h d es ep, (fun _ _ hq => raw_iter hd hm hq),
    { sub := fun b hb => by rw [List.mem_singleton.mp hb]; exact List.mem_cons_self
      frame := fun i h h' st hk => ⟨st.1.at fun o e => hk _ List.mem_cons_self o e, let ⟨o, g, c, z⟩ := st.2; ⟨o, hk d (by simp) o g, c, z⟩⟩
      item := fun i s1 Q1 E1 hi st hq => raw_next st.1 st.2 hi fun h' st' sb => hq _ h' s1.toks (by rw [Array.getElem?_eq_getElem hi]; rfl) ⟨st', let ⟨o, g, c, z⟩ := st.2; ⟨o, (sb.2 d (Nat.ne_of_lt (let ⟨_, g0, _⟩ := hm; Heap.lt_size g0))).trans g, c, z⟩⟩ fun b o hb e => (sb.2 b (fun z => hb (by rw [z]; exact List.mem_singleton.mpr rfl))).trans e
      done := fun s1 Q1 E1 st hq => raw_end hh st.1 st.2 (Nat.le_refl _) fun h' eb => hq h' s1.toks fun b o hb e => eb b o (fun z => hb (by rw [z]; exact List.mem_singleton.mpr rfl)) e
      self := fun i s1 Q1 E1 st hq => wpAny_pyIter_keyiter st.1 hq },
    ⟨⟨_, Heap.get?_push_size _ rfl, rfl, rfl⟩, let ⟨o, g, c, z⟩ := hm; ⟨o, Heap.get?_push_of_some _ g, c, z⟩⟩⟩
end
section
variable {X : Cx} {pins : List (Addr × Obj)} {σ : L2.St} {H : Hp} {s : Shared}
theorem row_of {P : Program} {w : World} {h : Heap} {a : Addr} {xs : List Int} (hok : HOk P w H h) (e : H a = some (.tup (List.map V.int xs))) : IsRow "tuple" h (.ref a) ∧ rowOf h (.ref a) = xs := by
  obtain ⟨_, its, r, o, g, c, n, d⟩ : _ ∧ ∃ its : List Value, Vals _ its ∧ IsTup h a its.toArray := hok a _ e
  have hi := intsAre_of r
  refine ⟨⟨a, o, its.toArray, n, rfl, g, c, d, fun u hu => hi.all u (by simpa using hu)⟩, ?_⟩
  rw [rowOf_at g d]
  exact hi.nums
theorem tups_vals {P : Program} {w : World} {h : Heap} (hok : HOk P w H h) : ∀ {us : List V} {xss : List (List Int)} {its : List Value}, Tups H us xss → Vals us its → (∀ v ∈ its, IsRow "tuple" h v) ∧ its.map (rowOf h) = xss ∧ ∀ v ∈ its, ∃ a, v = .ref a ∧ H a = some (.tup (List.map V.int (rowOf h v)))
  | _, _, _, .nil, .nil => ⟨fun _ hv => (List.not_mem_nil hv).elim, rfl, fun _ hv => (List.not_mem_nil hv).elim⟩
  | _, _, _, .cons ⟨a, e, ha⟩ t, .cons r rs => by
    subst e
    cases r
    obtain ⟨h1, h2, h3⟩ := tups_vals hok t rs
    obtain ⟨r1, r2⟩ := row_of hok ha
    refine ⟨fun v hv => ?_, by rw [List.map_cons, h2, r2], fun v hv => ?_⟩
    · rcases List.mem_cons.mp hv with rfl | hv
      · exact r1
      · exact h1 v hv
    · rcases List.mem_cons.mp hv with rfl | hv
      · exact ⟨a, rfl, by rw [r2]; exact ha⟩
      · exact h3 v hv
def toV : Value → V
  | .ref a => .ref a
  | _ => .non
theorem vals_tups {h : Heap} : ∀ {its : List Value}, (∀ v ∈ its, ∃ a, v = .ref a ∧ H a = some (.tup (List.map V.int (rowOf h v)))) → Vals (its.map toV) its ∧ Tups H (its.map toV) (its.map (rowOf h))
  | [], _ => ⟨.nil, .nil⟩
  | v :: r, hv => by
    obtain ⟨a, rfl, ha⟩ := hv v List.mem_cons_self
    obtain ⟨h1, h2⟩ := vals_tups fun u hu => hv u (List.mem_cons_of_mem _ hu)
    exact ⟨.cons rfl h1, .cons ⟨a, rfl, ha⟩ h2⟩
def SortedOf (H : Hp) (xss : List (List Int)) (Q : VK) : Prop := ∀ D us' xss' H', Same H H' → H D = none → H' D = some (.lst us') → Tups H' us' xss' → xss'.Perm xss → Asc xss' → Q (.ref D) H'
theorem sorted_done {Q : VK} {xss : List (List Int)} {its : List Value} (I : Inv X pins σ H s) (hm : ∀ v ∈ its, ∃ a, v = .ref a ∧ H a = some (.tup (List.map V.int (rowOf s.heap v)))) (he : its.map (rowOf s.heap) = xss) (hz : its.length ≤ sizeLine) (q : SortedOf H xss Q) :
    ∀ D h' tk out c, (∀ b o, s.heap.get? b = some o → h'.get? b = some o) → s.heap.objs.size ≤ D → h'.get? D = some (seqObj "list" (out : List Value).toArray c) → out.Perm its → Asc (out.map (rowOf s.heap)) → EP X pins σ Q (.ref D) { s with heap := h', toks := tk } := by
  intro D h' tk out c hk hD g p asc
  obtain ⟨v1, t1⟩ := vals_tups (h := s.heap) fun v hv => hm v (p.mem_iff.mp hv)
  have hn := I.hok.fresh hD
  refine ⟨.ref D, _, I.laid (t' := tk) hk hD (show ObjOk X.prog X.w (upd H D (.lst (out.map toV))) h' D (.lst (out.map toV)) from ⟨by rw [List.length_map, p.length_eq]; exact hz, out, c, v1, g⟩), rfl, q D _ _ _ (same_upd hn) hn upd_same (t1.keep (same_upd hn)) ?_ asc⟩
  rw [← he]; exact p.map _
theorem call_sortedT : CallR X (.builtin "sorted") (fun xs H Q => ∃ p us xss, xs = [.ref p] ∧ SqL X.K H p us ∧ Tups H us xss ∧ (2 ≤ xss.length → ∀ xs ∈ xss, xs ≠ []) ∧ xss.length ≤ 100000 ∧ SortedOf H xss Q) := by
  intro pins s σ H xs vs Q I r h
  obtain ⟨p, us, xss, rfl, hp, ht, hne, h64, q⟩ := h
  obtain ⟨u, rfl, rx⟩ := vals1 r
  cases rx
  obtain ⟨its, rv, pl, hz⟩ := I.list hp
  obtain ⟨h1, h2, h3⟩ := tups_vals I.hok ht rv
  have hl : its.length = xss.length := by rw [← h2, List.length_map]
  have hz' : its.length ≤ sizeLine := by rw [← rv.length]; exact hz
  refine sorted_rows (fun R hR => collect_list pl.isList (hR _ s.toks (fun b o e => ?_) ?_) hz') h1 (fun z v hv => ?_) hz' (sorted_done I h3 h2 hz' q)
  · rw [Heap.get?_update_ne _ _ _ _ (Nat.ne_of_lt (Heap.lt_size e))]; exact Heap.get?_push_of_some _ e
  · rw [Heap.size_update, size_push']; exact Nat.le_succ _
  · exact hne (by omega) _ (by rw [← h2]; exact List.mem_map_of_mem hv)
theorem dict_keys {d : Addr} {kvs : List (List Key × V)} (I : Inv X pins σ H s) (e : H d = some (.dT kvs)) : ∃ es ep, (d == sysModules) = false ∧ RawD s.heap d es ep ∧ es.size = kvs.length ∧ kvs.length ≤ sizeLine ∧
    ∀ (i : Nat) (k : List Key) (v : V), kvs[i]? = some (k, v) → ∃ b, (es[i]?).map DictEntry.key = some (Value.ref b) ∧ H b = some (.tup (k.map kV)) := by
  obtain ⟨z, hs, _, _, o, es, ep, ho, hex, hd, _⟩ := I.hok d _ e
  obtain ⟨r1, r2, r3⟩ := dt_raw (kvs := kvs) (P := X.prog) (w := X.w) (H := H) (od := o) ⟨ho, I.hok d _ e⟩ hd
  exact ⟨es, ep, hs, r1, r2, z, r3⟩
theorem keys_rows {LL : List (List Int)} {vx : List Int → V} {es : Array DictEntry} {acc : Array Value} (I : Inv X pins σ H s)
    (hk : ∀ (i : Nat) (k : List Key) (v : V), (LL.map fun xs => (kk xs, vx xs))[i]? = some (k, v) → ∃ b, (es[i]?).map DictEntry.key = some (Value.ref b) ∧ H b = some (.tup (k.map kV)))
    (ha : ItemsOf (fun i v => (es[i]?).map DictEntry.key = some v) acc LL.length) : (∀ v ∈ acc.toList, IsRow "tuple" s.heap v) ∧ acc.toList.map (rowOf s.heap) = LL ∧ ∀ v ∈ acc.toList, ∃ a, v = .ref a ∧ H a = some (.tup (List.map V.int (rowOf s.heap v))) := by
  have key : ∀ i v, acc[i]? = some v → ∃ b xs, v = .ref b ∧ LL[i]? = some xs ∧ H b = some (.tup (List.map V.int xs)) ∧ IsRow "tuple" s.heap v ∧ rowOf s.heap v = xs := fun i v hv => by
    have hi : i < LL.length := by
      have := (Array.getElem?_eq_some_iff.mp hv).1
      rw [ha.1] at this; exact this
    obtain ⟨b, e1, e2⟩ := hk i (kk LL[i]) (vx LL[i]) (by rw [List.getElem?_map, List.getElem?_eq_getElem hi]; rfl)
    have e3 : (es[i]?).map DictEntry.key = some v := ha.2 i v hv
    rw [e1] at e3
    rw [kk_kV] at e2
    have e3 := Option.some.inj e3
    subst e3
    obtain ⟨r1, r2⟩ := row_of I.hok e2
    exact ⟨b, LL[i], rfl, List.getElem?_eq_getElem hi, e2, r1, r2⟩
  have mem : ∀ v ∈ acc.toList, ∃ i, acc[i]? = some v := fun v hv => by
    obtain ⟨i, hi, e⟩ := List.getElem_of_mem hv
    exact ⟨i, by rw [← Array.getElem?_toList, List.getElem?_eq_getElem hi, e]⟩
  refine ⟨fun v hv => ?_, ?_, fun v hv => ?_⟩
  · obtain ⟨i, hi⟩ := mem v hv
    obtain ⟨_, _, _, _, _, r, _⟩ := key i v hi
    exact r
  · apply List.ext_getElem?
    intro i
    rw [List.getElem?_map, Array.getElem?_toList]
    cases e : acc[i]? with
    | none =>
      rw [Array.getElem?_eq_none_iff, ha.1] at e
      rw [List.getElem?_eq_none e]; rfl
    | some v =>
      obtain ⟨_, xs, _, e2, _, _, r⟩ := key i v e
      rw [e2, ← r]; rfl
  · obtain ⟨i, hi⟩ := mem v hv
    obtain ⟨b, xs, e1, _, e3, _, r⟩ := key i v hi
    exact ⟨b, e1, by rw [r]; exact e3⟩
theorem call_sortedD (hc : X.calm = true) : CallR X (.builtin "sorted") (fun xs H Q => ∃ (d : Addr) (LL : List (List Int)) (vx : List Int → V), xs = [.ref d] ∧ H d = some (.dT (LL.map fun xs => (kk xs, vx xs))) ∧ (2 ≤ LL.length → ∀ xs ∈ LL, xs ≠ []) ∧ LL.length ≤ 100000 ∧ SortedOf H LL Q) := by
  intro pins s σ H xs vs Q I r h
  obtain ⟨d, LL, vx, rfl, hd, hne, h64, q⟩ := h
  obtain ⟨u, rfl, rx⟩ := vals1 r
  cases rx
  obtain ⟨es, ep, hs, raw, sz, hz, hk⟩ := dict_keys I hd
  rw [List.length_map] at sz hz
  have hfix : ∃ its : List Value, ∀ acc : Array Value, ItemsOf (fun i v => (es[i]?).map DictEntry.key = some v) acc LL.length → acc.toList = its := by
    refine ⟨es.toList.map DictEntry.key, fun acc ha => ?_⟩
    apply List.ext_getElem?
    intro i
    rw [List.getElem?_map, Array.getElem?_toList, Array.getElem?_toList]
    cases e : acc[i]? with
    | none =>
      rw [Array.getElem?_eq_none_iff, ha.1, ← sz] at e
      rw [Array.getElem?_eq_none e]; rfl
    | some v => exact (ha.2 i v e).symm
  obtain ⟨its, hits⟩ := hfix
  have acc0 : ItemsOf (fun i v => (es[i]?).map DictEntry.key = some v) (es.map DictEntry.key) LL.length := ⟨by rw [Array.size_map, sz], fun j v hj => by rw [Array.getElem?_map] at hj; exact hj⟩
  obtain ⟨h1, h2, h3⟩ := keys_rows I hk acc0
  rw [hits _ acc0] at h1 h2 h3
  have hl : its.length = LL.length := by rw [← h2, List.length_map]
  refine sorted_rows (fun R hR => ?_) h1 (fun z v hv => ?_) (by omega) (sorted_done I h3 h2 (by omega) q)
  · refine coll_src (src_dict (es := es) (ep := ep) hs) (I.ok.hd hc) raw (by omega) fun h' tk acc k1 k2 ha => ?_
    rw [sz] at ha
    rw [hits acc ha]; exact hR h' tk k1 k2
  · exact hne (by omega) _ (by rw [← h2]; exact List.mem_map_of_mem hv)
end
end Srt

set_option Elab.async false
set_option linter.all false
set_option maxRecDepth 100000
namespace L2
open PySem PySem.Spec PyProof.Rows
section
variable {X : Cx} {pos : Pos} {k v : Expr} {tk tv : TE}
end
section
variable {prog : Program} {w : World} {A : Around} {E : Value → Shared → Prop} {s : Shared}
theorem raw_len {d : Addr} {es : Array DictEntry} {ep : Nat} {Q : Value → Shared → Prop} (hd : (d == sysModules) = false) (hm : RawD s.heap d es ep) (hfit : ((es.size : Nat) : Int) < 2 ^ 63) (h : ∀ t tk, Q (.int es.size t) { s with toks := tk }) :
    wpAny (model prog w) A (call (.builtin "len") [.ref d]) Q E s := by
  obtain ⟨o, g, c, x⟩ := id hm
  refine Calls.call_function_entry kind_len plain_len entry_len (args_len1 _) ?_; unfold Builtin.«len»; refine wpAny_bind (m := oneArg "len" _) (wpAny_pure ?_)
  refine wpAny_bind (m := callSpecial? (.ref d) (Str.ofString "__len__")) (wpAny_callSpecial?_slot (name := Str.ofString "__len__") hm.ty F.slot_dict_len (wpAny_call_entry F.slot_dict_len hm.ty F.entry_dict_len ?_ (F.args_dict_len_1 _)))
  show wpAny _ _ (dictSize d >>= _) _ _ s; unfold dictSize; refine wpAny_bind (wpAny_bind (wpAny_dictEntries g x (wpAny_pure ?_)))
  show wpAny _ _ (Builtin.Dict.pendingCount d >>= _) _ _ s; refine wpAny_bind (wpAny_pendingCount_other hd ?_)
  refine wpAny_bind (wpAny_mkInt (wpAny_pure ⟨_, rfl, ?_⟩)); rw [Nat.add_zero]
  refine wpAny_bind (wpAny_holding (wpAny_pure (wpAny_bind (wpAny_letGo ?_))))
  show wpAny _ _ (if ((es.size : Nat) : Int) < 0 then _ else _) _ _ _; rw [if_neg (by omega)]
  show wpAny _ _ (if ((es.size : Nat) : Int) ≥ 2 ^ 63 then _ else _) _ _ _; rw [if_neg (by omega)]
  exact wpAny_bind (wpAny_mkInt (wpAny_pure ⟨_, rfl, h _ _⟩))
end
section
variable {X : Cx}
theorem dict_raw {pins : List (Addr × Obj)} {σ : St} {H : Hp} {s : Shared} {d : Addr} {kvs : List (List Key × V)} (I : Inv X pins σ H s) (e : Rd H d (.dT kvs)) : ∃ o es ep, s.heap.get? d = some o ∧ o.ExactDict ∧ o.data = .dict es ep ∧ (d == sysModules) = false ∧ es.size = kvs.length ∧ kvs.length ≤ sizeLine := by
  obtain ⟨z, hd, xs, rel, o, es, ep, h1, h2, h3, h4, _⟩ := dt_rd I.hok e
  refine ⟨o, es, ep, h1, h2, h3, hd, ?_, z⟩
  rw [← Array.length_toList, h4, List.length_map, ← Paired.length rel]
theorem call_lenDT : CallR X (.builtin "len") (fun xs H Q => ∃ a kvs, xs = [V.ref a] ∧ Rd H a (.dT kvs) ∧ Q (.int kvs.length) H) := by
  intro pins s σ H xs us Q I r h
  obtain ⟨a, kvs, rfl, ha, q⟩ := h
  obtain ⟨u, rfl, ru⟩ := vals1 r
  cases ru
  obtain ⟨o, es, ep, g, c, d, z, sz, hz⟩ := dict_raw I ha
  have raw : RawD s.heap a es ep := ⟨o, g, c.1, d⟩
  have hfit : ((es.size : Nat) : Int) < 2 ^ 63 := by rw [sizeLine_eq] at hz; omega
  refine raw_len z raw hfit fun t tk => ?_
  rw [sz]
  exact ⟨.int kvs.length, H, I.tok _, ⟨_, rfl⟩, q⟩
end
end L2

namespace Bfs
open Sev
abbrev P := Int × Int
def pr (p : P) : List Int := [p.1, p.2]
def nears (p : P) : List P := [1, 2, 3, 4, 5, 6].map fun f => (p.1 + fq f, p.2 + fr f)
abbrev FL := List (P × Int)
def look : FL → P → Option Int
  | [], _ => none
  | x :: r, q => if x.1 = q then some x.2 else look r q
section
variable {C : P → Bool} {p : P}
structure Good (C : P → Bool) (p : P) (fl : FL) : Prop where
  h0 : fl[0]? = some (p, 0)
  nd : (fl.map Prod.fst).Nodup
  inC : ∀ x ∈ fl, C x.1 = true
  pos : ∀ (j : Nat) x, fl[j]? = some x → 0 < j → 1 ≤ x.2 ∧ ∃ y ∈ fl, y.2 = x.2 - 1 ∧ x.1 ∈ nears y.1
  mono : (fl.map Prod.snd).Pairwise (· ≤ ·)
structure Run (C : P → Bool) (p : P) (fl : FL) (i : Nat) : Prop extends Good C p fl where
  top : ∀ y, fl[i]? = some y → ∀ x ∈ fl, x.2 ≤ y.2 + 1
  closed : ∀ (j : Nat) x, j < i → fl[j]? = some x → ∀ q ∈ nears x.1, C q = true → ∃ e, (q, e) ∈ fl ∧ e ≤ x.2 + 1
structure Fin (C : P → Bool) (p : P) (fl : FL) : Prop extends Good C p fl where
  closed : ∀ x ∈ fl, ∀ q ∈ nears x.1, C q = true → ∃ e, (q, e) ∈ fl ∧ e ≤ x.2 + 1
def nx (fl : FL) (q : P) : P := (((nears q).filter fun z => decide (look fl z = some ((look fl q).getD 0 - 1))).head?).getD q
end
end Bfs
namespace Bfs
section
variable {C : P → Bool} {p : P}
end
end Bfs

set_option Elab.async false
set_option linter.all false
set_option maxRecDepth 100000
namespace L2
open PySem PySem.Spec PyProof.Rows
def Pt (H : Hp) (v : V) (p : Bfs.P) : Prop := ∃ a, v = .ref a ∧ H a = some (.tup [.int p.1, .int p.2])
theorem Pt.pl {K : PySem.W.Frag} {H : Hp} {v : V} {p : Bfs.P} (h : Pt H v p) : Pl K H v p.1 p.2 := let ⟨a, e, h⟩ := h; ⟨a, e, SqT.of h⟩
theorem Tups.app {H : Hp} : ∀ {us ws : List V} {xss yss : List (List Int)}, Tups H us xss → Tups H ws yss → Tups H (us ++ ws) (xss ++ yss)
  | _, _, _, _, .nil, t => t
  | _, _, _, _, .cons p r, t => .cons p (Tups.app r t)
section
variable {H : Hp} {d : Addr} {v : V} {q : Bfs.P}
end
theorem for_seq {K : PySem.W.Frag} {a : Addr} {xs : List V} {g : TG} {tb : TS} {D : Ends} {σ : St} {H : Hp} (sq : SqL K H a xs ∨ SqT K H a xs) (Pv : Nat → St → Hp → Prop) (h0 : Pv 0 σ H) (hl : ∀ i σ H', Pv i σ H' → Same H H')
    (hs : ∀ i x σ H, xs[i]? = some x → Pv i σ H → g x σ H fun σ2 H2 => tb { D with nx := Pv (i + 1), ct := Pv (i + 1), bk := D.nx } σ2 H2) (hd : ∀ σ H, Pv xs.length σ H → D.nx σ H) :
    ((∃ xs, SqL K H a xs) ∧ ∃ W : Nat → Nat → St → Hp → Prop, (∃ m, W 0 m σ H) ∧ ∀ i m σ H, W i m σ H →
      ((Itl K a).stop i H ∧ D.nx σ H) ∨ ((Itl K a).go i H ∧ ∃ N : St → Hp → Prop, (∀ σ' H', N σ' H' → ∃ m', m' < m ∧ W (i + 1) m' σ' H') ∧ ∀ x H', (Itl K a).yld i H x H' → g x σ H' fun σ2 H2 => tb { D with nx := N, ct := N, bk := D.nx } σ2 H2)) ∨
    ((∃ xs, SqT K H a xs) ∧ ∃ W : Nat → Nat → St → Hp → Prop, (∃ m, W 0 m σ H) ∧ ∀ i m σ H, W i m σ H →
      ((Itt K a).stop i H ∧ D.nx σ H) ∨ ((Itt K a).go i H ∧ ∃ N : St → Hp → Prop, (∀ σ' H', N σ' H' → ∃ m', m' < m ∧ W (i + 1) m' σ' H') ∧ ∀ x H', (Itt K a).yld i H x H' → g x σ H' fun σ2 H2 => tb { D with nx := N, ct := N, bk := D.nx } σ2 H2)) := by
  rcases sq with h | h
  · exact .inl ⟨⟨_, h⟩, for_list (xs := xs) Pv h0 (fun i σ H' _ p => (hl i σ H' p).seq h) hs hd⟩
  · exact .inr ⟨⟨_, h⟩, for_tup (xs := xs) Pv h0 (fun i σ H' _ p => (hl i σ H' p).sqT h) hs hd⟩
end L2
namespace Rg
open Sev
end Rg

set_option Elab.async false
set_option linter.all false
set_option maxRecDepth 100000
namespace L2
open PySem PySem.Spec PyProof.Rows
def HRows (H : Hp) : List V → List (List Int) → Prop := Paired fun v xs => ∃ a, v = .ref a ∧ H a = some (.lst (List.map V.int xs))
theorem HRows.rows {K : PySem.W.Frag} {H : Hp} : ∀ {us : List V} {xss : List (List Int)}, HRows H us xss → RowsV K H us xss
  | _, _, .nil => .nil
  | _, _, .cons ⟨a, e, h⟩ r => .cons ⟨a, e, SqL.of h⟩ (HRows.rows r)
theorem HRows.keep {H H' : Hp} (s : Same H H') : ∀ {us : List V} {xss : List (List Int)}, HRows H us xss → HRows H' us xss
  | _, _, .nil => .nil
  | _, _, .cons ⟨a, e, h⟩ r => .cons ⟨a, e, s _ _ h⟩ (HRows.keep s r)
theorem HRows.snoc {H : Hp} : ∀ {us : List V} {xss : List (List Int)} {a : Addr} {xs : List Int}, HRows H us xss → H a = some (.lst (List.map V.int xs)) → HRows H (us ++ [.ref a]) (xss ++ [xs])
  | _, _, a, xs, .nil, h => .cons ⟨a, rfl, h⟩ .nil
  | _, _, _, _, .cons p r, h => .cons p (HRows.snoc r h)
theorem HRows.upd {H : Hp} {p : Addr} {o : HO} : ∀ {us : List V} {xss : List (List Int)}, (∀ u ∈ us, u ≠ .ref p) → HRows H us xss → HRows (L2.upd H p o) us xss
  | _, _, _, .nil => .nil
  | _, _, n, .cons ⟨a, e, h⟩ r => .cons ⟨a, e, by rw [upd_ne (fun z => n _ List.mem_cons_self (by rw [e, z]))]; exact h⟩ (HRows.upd (fun u hu => n u (List.mem_cons_of_mem _ hu)) r)
theorem HRows.len {H : Hp} {us : List V} {xss : List (List Int)} (h : HRows H us xss) : us.length = xss.length := Paired.length h
theorem HRows.get {H : Hp} : ∀ {us : List V} {xss : List (List Int)} {i : Nat} {xs : List Int}, HRows H us xss → xss[i]? = some xs → ∃ a, us[i]? = some (.ref a) ∧ H a = some (.lst (List.map V.int xs))
  | _, _, 0, _, .cons ⟨a, e, h⟩ _, hu => by cases hu; exact ⟨a, by rw [e]; rfl, h⟩
  | _, _, i + 1, _, .cons _ r, hu => HRows.get (i := i) r hu
theorem HRows.app {H : Hp} : ∀ {us ws : List V} {xss yss : List (List Int)}, HRows H us xss → HRows H ws yss → HRows H (us ++ ws) (xss ++ yss)
  | _, _, _, _, .nil, t => t
  | _, _, _, _, .cons p r, t => .cons p (HRows.app r t)
end L2

set_option Elab.async false
set_option linter.all false
set_option maxRecDepth 100000
namespace L2
open PySem PySem.Spec PyProof.Rows
abbrev dTT (xss : List (List Int)) : List PyData := xss.map fun xs => PyData.tuple (dI xs)
theorem lay_tts : ∀ xss : List (List Int), PyData.canLayAll0 (dTT xss) = true
  | [] => by simp [PyData.canLayAll0]
  | xs :: r => by
    simp only [dTT, List.map_cons, PyData.canLayAll0, PyData.canLay0, lay_ints, Bool.true_and]
    exact lay_tts r
theorem dep_tts : ∀ xss : List (List Int), PyData.depthAll (dTT xss) ≤ 1
  | [] => by simp [PyData.depthAll]
  | xs :: r => by
    simp only [dTT, List.map_cons, PyData.depthAll, PyData.depth, dep_ints]
    have := dep_tts r
    simp only [dTT] at this
    omega
theorem noMix_tts : ∀ xss yss : List (List Int), SeqAt.noMixAll (dTT xss) (dTT yss) = true
  | [], [] => by simp [SeqAt.noMixAll]
  | [], _ :: _ => by simp [SeqAt.noMixAll]
  | _ :: _, [] => by simp [SeqAt.noMixAll]
  | x :: r, y :: q => by simp only [dTT, List.map_cons, SeqAt.noMixAll, SeqAt.noMix, noMix_ints, Bool.true_and]; exact noMix_tts r q
theorem same_tts : ∀ xss yss : List (List Int), sameAll (dTT xss) (dTT yss) = decide (xss = yss)
  | [], [] => by simp [sameAll]
  | [], _ :: _ => by simp [sameAll]
  | _ :: _, [] => by simp [sameAll]
  | x :: r, y :: q => by
    simp only [dTT, List.map_cons, sameAll, same, same_ints]
    rw [show sameAll (dTT r) (dTT q) = decide (r = q) from same_tts r q, Bool.eq_iff_iff]
    simp
theorem shaped_tts (xss : List (List Int)) : SeqAt.shaped (.list (dTT xss)) = true := by
  unfold SeqAt.shaped
  rw [PyData.canLay0, lay_tts, PyData.depth, Bool.true_and]
  exact decide_eq_true (by have := dep_tts xss; omega)
theorem Tups.rep {K : PySem.W.Frag} {H : Hp} : ∀ {us : List V} {xss : List (List Int)}, Tups H us xss → RepAll K H us (dTT xss)
  | _, _, .nil => .nil
  | _, _, .cons ⟨_, e, h⟩ r => by subst e; exact .cons (.tup (SqT.of h) (RepAll.ints _)) (Tups.rep r)
section
variable {X : Cx}
end
theorem nodup_len {α : Type} [BEq α] [LawfulBEq α] : ∀ {l m : List α}, l.Nodup → (∀ x ∈ l, x ∈ m) → l.length ≤ m.length
  | [], _, _, _ => Nat.zero_le _
  | x :: r, m, nd, h => by
    rw [List.nodup_cons] at nd
    have hx := h x List.mem_cons_self
    have := nodup_len (m := m.erase x) nd.2 fun y hy => (List.mem_erase_of_ne (fun z => nd.1 (by rw [← z]; exact hy))).mpr (h y (List.mem_cons_of_mem _ hy))
    rw [List.length_erase_of_mem hx] at this
    have : 0 < m.length := List.length_pos_of_mem hx
    rw [List.length_cons]
    omega
end L2
namespace Rg
open Sev
theorem lines_few {lv : Nat} {LL : List (List Int)} (nd : LL.Nodup) (h : ∀ xs ∈ LL, xs.length = lv ∧ ∀ f ∈ xs, Fig f) : LL.length ≤ 7 ^ lv := by
  have := L2.nodup_len (m := lns lv []) nd fun xs hx => mem_lns.mpr ⟨xs, rfl, (h xs hx).1, (h xs hx).2⟩
  rwa [len_lns] at this
theorem lall_ok {lv : Nat} {xss : List (List Int)} (hf : ∀ xs ∈ xss, ∀ f ∈ xs, Fig f) (hs : ∀ xs ∈ xss, xs.length ≤ lv) : ∀ ys ∈ lall lv xss, ys.length = lv ∧ ∀ f ∈ ys, Fig f := by
  intro ys hy
  obtain ⟨xs, hx, h⟩ := mem_lall.mp hy
  have hl := lns_len h
  obtain ⟨t, rfl, _, ht⟩ := mem_lns.mp h
  have := hs xs hx
  refine ⟨by omega, fun f hf' => ?_⟩
  rcases List.mem_append.mp hf' with z | z
  · exact hf xs hx f z
  · exact ht f z
end Rg

set_option Elab.async false
set_option linter.all false
set_option maxRecDepth 100000
namespace L2
open PySem PySem.Spec PyProof.Rows
theorem Room.units65 {k : Nat} {A : Around} (r : Room k A) : A.units + 65 < cLine := by have := r.un; omega
theorem same_li (x y : List Int) : same (PyData.list (dI x)) (.list (dI y)) = decide (x = y) := by rw [same, same_ints]
section
variable {X : Cx}
end
end L2

namespace Rg
open Sev
theorem nodup_le {α : Type} : ∀ {l m : List α}, l.Nodup → (∀ x ∈ l, x ∈ m) → l.length ≤ m.length
  | [], _, _, _ => Nat.zero_le _
  | x :: r, m, nd, h => by
    rw [List.nodup_cons] at nd
    obtain ⟨a, b, rfl⟩ := List.append_of_mem (h x List.mem_cons_self)
    have := nodup_le (m := a ++ b) nd.2 fun y hy => by
      rcases List.mem_append.mp (h y (List.mem_cons_of_mem _ hy)) with z | z
      · exact List.mem_append_left _ z
      · rcases List.mem_cons.mp z with rfl | z
        · exact absurd hy nd.1
        · exact List.mem_append_right _ z
    rw [List.length_append] at this
    rw [List.length_cons, List.length_append, List.length_cons]
    omega
structure Full (lv : Nat) (LL : List (List Int)) (x : List Int) : Prop where
  le : x.length ≤ lv
  fg : ∀ f ∈ x, Fig f
  all : ∀ t : List Int, x.length + t.length = lv → (∀ f ∈ t, Fig f) → x ++ t ∈ LL
def Top (lv : Nat) (LL : List (List Int)) (x : List Int) : Prop := Full lv LL x ∧ (x = [] ∨ ¬ Full lv LL x.dropLast)
section
variable {lv : Nat} {LL : List (List Int)} {x y r b : List Int}
theorem Full.ext {t : List Int} (h : Full lv LL x) (hl : x.length + t.length ≤ lv) (hf : ∀ f ∈ t, Fig f) : Full lv LL (x ++ t) := by
  refine ⟨by rw [List.length_append]; exact hl, fun f hm => ?_, fun u hu fu => ?_⟩
  · rcases List.mem_append.mp hm with z | z
    · exact h.fg f z
    · exact hf f z
  · rw [List.append_assoc]
    refine h.all (t ++ u) (by rw [List.length_append] at hu ⊢; omega) fun f hm => ?_
    rcases List.mem_append.mp hm with z | z
    · exact hf f z
    · exact fu f z
theorem full_child (hx : ∀ f ∈ x, Fig f) (hl : x.length < lv) : Full lv LL x ↔ ∀ f, Fig f → Full lv LL (x ++ [f]) := by
  constructor
  · intro h f hf
    exact h.ext (by simp; omega) fun g hg => by rw [List.mem_singleton.mp hg]; exact hf
  · intro h
    refine ⟨by omega, hx, fun t ht ft => ?_⟩
    cases t with
    | nil => simp at ht; omega
    | cons f u =>
      have := (h f (ft f List.mem_cons_self)).all u (by simp at ht ⊢; omega) fun g hg => ft g (List.mem_cons_of_mem _ hg)
      rwa [List.append_assoc] at this
theorem full_line (hx : ∀ f ∈ x, Fig f) (hl : x.length = lv) : Full lv LL x ↔ x ∈ LL := by
  constructor
  · intro h
    have := h.all [] (by simp [hl]) (by simp)
    rwa [List.append_nil] at this
  · intro h
    refine ⟨by omega, hx, fun t ht _ => ?_⟩
    have : t = [] := List.length_eq_zero_iff.mp (by omega)
    rw [this, List.append_nil]; exact h
theorem pre_dropLast {a c : List Int} (h : a <+: c) (hne : a ≠ c) : a <+: c.dropLast ∧ c ≠ [] := by
  obtain ⟨t, rfl⟩ := h
  have ht : t ≠ [] := fun z => hne (by rw [z, List.append_nil])
  refine ⟨⟨t.dropLast, ?_⟩, fun z => ht (List.append_eq_nil_iff.mp z).2⟩
  rw [List.dropLast_append_of_ne_nil ht]
theorem Full.pre (h : Full lv LL x) (p : x <+: y) (hl : y.length ≤ lv) (hf : ∀ f ∈ y, Fig f) : Full lv LL y := by
  obtain ⟨t, rfl⟩ := p
  exact h.ext (by rw [List.length_append] at hl; exact hl) fun f hm => hf f (List.mem_append_right _ hm)
theorem Top.pre {l : List Int} (h : Top lv LL r) (hb : Full lv LL b) (h1 : r <+: l) (h2 : b <+: l) : r <+: b := by
  rcases List.prefix_or_prefix_of_prefix h1 h2 with p | p
  · exact p
  · by_cases e : b = r
    · rw [e]; exact List.prefix_rfl
    · obtain ⟨p1, hne⟩ := pre_dropLast p e
      rcases h.2 with z | z
      · exact absurd z hne
      · exact absurd (hb.pre p1 (by rw [List.length_dropLast]; have := h.1.le; omega) fun f hm => h.1.fg f ((List.dropLast_sublist r).subset hm)) z
theorem Top.eq {r' : List Int} (h : Top lv LL r) (h' : Top lv LL r') (p : r <+: b) (p' : r' <+: b) : r = r' := by
  have a := h.pre h'.1 p p'
  have c := h'.pre h.1 p' p
  exact a.eq_of_length_le c.length_le
structure Covers (lv : Nat) (LL bs : List (List Int)) : Prop where
  full : ∀ b ∈ bs, Full lv LL b
  line : ∀ l ∈ LL, ∃ b ∈ bs, b <+: l
theorem top_line (h : Top lv LL r) : ∃ l ∈ LL, r <+: l :=
  ⟨r ++ List.replicate (lv - r.length) 0, h.1.all _ (by have := h.1.le; rw [List.length_replicate]; omega) fun f hf => by rw [(List.mem_replicate.mp hf).2]; decide, List.prefix_append _ _⟩
theorem tops_le {R bs : List (List Int)} (nd : R.Nodup) (ht : ∀ r ∈ R, Top lv LL r) (c : Covers lv LL bs) : R.length ≤ bs.length := by
  have ex : ∀ r, r ∈ R → ∃ b ∈ bs, r <+: b := fun r hr => by
    obtain ⟨l, hl, p⟩ := top_line (ht r hr)
    obtain ⟨b, hb, q⟩ := c.line l hl
    exact ⟨b, hb, (ht r hr).pre (c.full b hb) p q⟩
  have : ∀ R : List (List Int), R.Nodup → (∀ r ∈ R, Top lv LL r) → (∀ r ∈ R, ∃ b ∈ bs, r <+: b) → ∃ B : List (List Int), B.length = R.length ∧ B.Nodup ∧ (∀ b ∈ B, b ∈ bs) ∧ ∀ b ∈ B, ∃ r ∈ R, r <+: b := by
    intro R
    induction R with
    | nil => exact fun _ _ _ => ⟨[], rfl, List.nodup_nil, by simp, by simp⟩
    | cons r R ih =>
      intro nd ht ex
      rw [List.nodup_cons] at nd
      obtain ⟨B, h1, h2, h3, h4⟩ := ih nd.2 (fun z hz => ht z (List.mem_cons_of_mem _ hz)) fun z hz => ex z (List.mem_cons_of_mem _ hz)
      obtain ⟨b, hb, p⟩ := ex r List.mem_cons_self
      refine ⟨b :: B, by rw [List.length_cons, List.length_cons, h1], ?_, fun z hz => ?_, fun z hz => ?_⟩
      · rw [List.nodup_cons]
        refine ⟨fun hm => ?_, h2⟩
        obtain ⟨r', hr', p'⟩ := h4 b hm
        have := (ht r List.mem_cons_self).eq (ht r' (List.mem_cons_of_mem _ hr')) p p'
        exact nd.1 (by rw [this]; exact hr')
      · rcases List.mem_cons.mp hz with rfl | hz
        · exact hb
        · exact h3 z hz
      · rcases List.mem_cons.mp hz with rfl | hz
        · exact ⟨r, List.mem_cons_self, p⟩
        · obtain ⟨r', a1, a2⟩ := h4 z hz
          exact ⟨r', List.mem_cons_of_mem _ a1, a2⟩
  obtain ⟨B, h1, h2, h3, _⟩ := this R nd ht ex
  rw [← h1]
  exact nodup_le h2 h3
def IsW (lv : Nat) (LL : List (List Int)) (k : Nat) (W : List (List Int)) : Prop := W.Nodup ∧ ∀ x, x ∈ W ↔ (Full lv LL x ∧ x.length + k = lv)
def IsF (lv : Nat) (LL : List (List Int)) (k : Nat) (F : List (List Int)) : Prop := F.Nodup ∧ ∀ x, x ∈ F ↔ (Top lv LL x ∧ lv < x.length + k)
def ofHead (bs : List (List Int)) (h : List Int) : List (List Int) := bs.filter fun b => decide (b.dropLast = h)
def headsOf (bs : List (List Int)) : List (List Int) := puts [] (bs.map List.dropLast)
theorem mem_headsOf {bs : List (List Int)} {h : List Int} : h ∈ headsOf bs ↔ ∃ b ∈ bs, b.dropLast = h := by
  unfold headsOf
  rw [mem_puts, List.mem_map]
  simp
theorem mem_ofHead {bs : List (List Int)} {h b : List Int} : b ∈ ofHead bs h ↔ b ∈ bs ∧ b.dropLast = h := by
  unfold ofHead
  rw [List.mem_filter, decide_eq_true_iff]
theorem snoc_of {b h : List Int} (hb : b ≠ []) (e : b.dropLast = h) : ∃ f, b = h ++ [f] := ⟨b.getLast hb, by rw [← e, List.dropLast_concat_getLast hb]⟩
theorem seven {k : Nat} {W : List (List Int)} (w : IsW lv LL k W) (hk : k < lv) {h : List Int} (hm : h ∈ headsOf W) : ((ofHead W h).length ≤ 7 ∧ ((ofHead W h).length = 7 ↔ Full lv LL h)) ∧ h.length + (k + 1) = lv := by
  obtain ⟨b, hb, e⟩ := mem_headsOf.mp hm
  have hbw := (w.2 b).mp hb
  have hbn : b ≠ [] := fun z => by rw [z] at hbw; simp at hbw; omega
  have hl : h.length + (k + 1) = lv := by rw [← e, List.length_dropLast]; have := hbw.2; have : 0 < b.length := List.length_pos_iff.mpr hbn; omega
  have hfg : ∀ f ∈ h, Fig f := fun f hf => hbw.1.fg f ((List.dropLast_sublist b).subset (by rw [e]; exact hf))
  have sub : ∀ c ∈ ofHead W h, c ∈ figs.map fun f => h ++ [f] := fun c hc => by
    obtain ⟨c1, c2⟩ := mem_ofHead.mp hc
    have hcw := (w.2 c).mp c1
    obtain ⟨f, rfl⟩ := snoc_of (b := c) (fun z => by rw [z] at hcw; simp at hcw; omega) c2
    exact List.mem_map.mpr ⟨f, mem_figs.mpr (hcw.1.fg f (by simp)), rfl⟩
  have nd : (ofHead W h).Nodup := w.1.filter _
  have ln : (figs.map fun f => h ++ [f]).length = 7 := rfl
  have le := nodup_le nd sub
  rw [ln] at le
  refine ⟨⟨le, ?_⟩, hl⟩
  constructor
  · intro e7
    -- all seven are there
    rw [full_child hfg (by omega)]
    intro f hf
    have : h ++ [f] ∈ ofHead W h := by
      apply Classical.byContradiction
      intro hn
      have := nodup_le (l := (h ++ [f]) :: ofHead W h) (List.nodup_cons.mpr ⟨hn, nd⟩) (m := figs.map fun f => h ++ [f]) fun c hc => by
        rcases List.mem_cons.mp hc with rfl | hc
        · exact List.mem_map.mpr ⟨f, mem_figs.mpr hf, rfl⟩
        · exact sub c hc
      rw [List.length_cons, ln] at this
      omega
    exact ((w.2 _).mp (mem_ofHead.mp this).1).1
  · intro hF
    have all := (full_child hfg (by omega)).mp hF
    have nd7 : (figs.map fun f => h ++ [f]).Nodup := by
      have : (figs.map fun f => h ++ [f]).Pairwise (· ≠ ·) := by
        rw [List.pairwise_map]
        have hfn : figs.Nodup := by decide
        exact hfn.imp fun z e => z (by simpa using e)
      exact this
    have := nodup_le nd7 (m := ofHead W h) fun c hc => by
      obtain ⟨f, hf, rfl⟩ := List.mem_map.mp hc
      have hff := mem_figs.mp hf
      exact mem_ofHead.mpr ⟨(w.2 _).mpr ⟨all f hff, by simp; omega⟩, by simp⟩
    rw [ln] at this
    omega
def upW (W : List (List Int)) : List (List Int) := (headsOf W).filter fun h => decide ((ofHead W h).length = 7)
def upF (W : List (List Int)) : List (List Int) := ((headsOf W).filter fun h => decide ((ofHead W h).length < 7)).flatMap (ofHead W)
theorem headsOf_nodup (W : List (List Int)) : (headsOf W).Nodup := puts_nodup List.nodup_nil
theorem upW_ok {k : Nat} {W : List (List Int)} (w : IsW lv LL k W) (hk : k < lv) : IsW lv LL (k + 1) (upW W) := by
  refine ⟨(headsOf_nodup W).filter _, fun x => ?_⟩
  unfold upW
  rw [List.mem_filter, decide_eq_true_iff]
  constructor
  · rintro ⟨hm, h7⟩
    obtain ⟨⟨_, h2⟩, h3⟩ := seven w hk hm
    exact ⟨h2.mp h7, h3⟩
  · rintro ⟨hF, hl⟩
    have hc : x ++ [0] ∈ W := (w.2 _).mpr ⟨hF.ext (by simp; omega) fun f hf => by rw [List.mem_singleton.mp hf]; decide, by simp; omega⟩
    have hm : x ∈ headsOf W := mem_headsOf.mpr ⟨_, hc, by simp⟩
    exact ⟨hm, (seven w hk hm).1.2.mpr hF⟩
theorem mem_upF {k : Nat} {W : List (List Int)} (w : IsW lv LL k W) (hk : k < lv) {x : List Int} : x ∈ upF W ↔ (Top lv LL x ∧ x.length + k = lv) := by
  unfold upF
  rw [List.mem_flatMap]
  constructor
  · rintro ⟨h, hm, hx⟩
    rw [List.mem_filter, decide_eq_true_iff] at hm
    obtain ⟨x1, x2⟩ := mem_ofHead.mp hx
    have xw := (w.2 x).mp x1
    obtain ⟨⟨_, h2⟩, _⟩ := seven w hk hm.1
    refine ⟨⟨xw.1, .inr fun z => ?_⟩, xw.2⟩
    rw [x2] at z
    have := h2.mpr z
    omega
  · rintro ⟨⟨hF, ht⟩, hl⟩
    have xw : x ∈ W := (w.2 x).mpr ⟨hF, hl⟩
    have xn : x ≠ [] := fun z => by rw [z] at hl; simp at hl; omega
    have hm : x.dropLast ∈ headsOf W := mem_headsOf.mpr ⟨x, xw, rfl⟩
    obtain ⟨⟨h1, h2⟩, _⟩ := seven w hk hm
    refine ⟨x.dropLast, ?_, mem_ofHead.mpr ⟨xw, rfl⟩⟩
    rw [List.mem_filter, decide_eq_true_iff]
    refine ⟨hm, ?_⟩
    have : ¬ (ofHead W x.dropLast).length = 7 := fun z => (ht.resolve_left xn) (h2.mp z)
    omega
theorem flat_nodup {α β : Type} {f : α → List β} : ∀ {l : List α}, l.Nodup → (∀ a ∈ l, (f a).Nodup) → (∀ a ∈ l, ∀ c ∈ l, a ≠ c → ∀ z ∈ f a, z ∉ f c) → (l.flatMap f).Nodup
  | [], _, _, _ => List.nodup_nil
  | a :: l, nd, h1, h2 => by
    rw [List.nodup_cons] at nd
    rw [List.flatMap_cons, List.nodup_append]
    refine ⟨h1 a List.mem_cons_self, flat_nodup nd.2 (fun c hc => h1 c (List.mem_cons_of_mem _ hc)) fun c hc d hd => h2 c (List.mem_cons_of_mem _ hc) d (List.mem_cons_of_mem _ hd), fun x hx y hy => ?_⟩
    obtain ⟨c, hc, hyc⟩ := List.mem_flatMap.mp hy
    intro z
    subst z
    exact h2 a List.mem_cons_self c (List.mem_cons_of_mem _ hc) (fun z => nd.1 (by rw [z]; exact hc)) x hx hyc
theorem upF_nodup {k : Nat} {W : List (List Int)} (w : IsW lv LL k W) : (upF W).Nodup := by
  refine flat_nodup ((headsOf_nodup W).filter _) (fun h _ => w.1.filter _) fun a _ c _ hne z hz hz' => ?_
  exact hne ((mem_ofHead.mp hz).2.symm.trans (mem_ofHead.mp hz').2)
theorem upF_ok {k : Nat} {W F : List (List Int)} (w : IsW lv LL k W) (f : IsF lv LL k F) (hk : k < lv) : IsF lv LL (k + 1) (F ++ upF W) := by
  refine ⟨?_, fun x => ?_⟩
  · rw [List.nodup_append]
    refine ⟨f.1, upF_nodup w, fun a ha b hb z => ?_⟩
    subst z
    have h1 := ((f.2 a).mp ha).2
    have h2 := ((mem_upF w hk).mp hb).2
    omega
  · rw [List.mem_append, f.2, mem_upF w hk]
    constructor
    · rintro (⟨h1, h2⟩ | ⟨h1, h2⟩)
      · exact ⟨h1, by omega⟩
      · exact ⟨h1, by omega⟩
    · rintro ⟨h1, h2⟩
      by_cases c : lv < x.length + k
      · exact .inl ⟨h1, c⟩
      · exact .inr ⟨h1, by omega⟩
theorem isW0 (nd : LL.Nodup) (hL : ∀ l ∈ LL, l.length = lv ∧ ∀ f ∈ l, Fig f) : IsW lv LL 0 LL := by
  refine ⟨nd, fun x => ?_⟩
  constructor
  · intro h
    exact ⟨(full_line (hL x h).2 (hL x h).1).mpr h, (hL x h).1⟩
  · rintro ⟨h1, h2⟩
    exact (full_line h1.fg h2).mp h1
theorem isF0 : IsF lv LL 0 [] := by
  refine ⟨List.nodup_nil, fun x => ⟨fun h => (List.not_mem_nil h).elim, fun h => ?_⟩⟩
  have := h.1.1.le
  have := h.2
  omega
theorem tops_end {W F : List (List Int)} (w : IsW lv LL lv W) (f : IsF lv LL lv F) : (F ++ W).Nodup ∧ ∀ x, x ∈ F ++ W ↔ Top lv LL x := by
  refine ⟨?_, fun x => ?_⟩
  · rw [List.nodup_append]
    refine ⟨f.1, w.1, fun a ha b hb z => ?_⟩
    subst z
    have h1 := ((f.2 a).mp ha).2
    have h2 := ((w.2 a).mp hb).2
    omega
  · rw [List.mem_append, f.2, w.2]
    constructor
    · rintro (⟨h1, _⟩ | ⟨h1, h2⟩)
      · exact h1
      · exact ⟨h1, .inl (List.length_eq_zero_iff.mp (by omega))⟩
    · intro h
      by_cases c : lv < x.length + lv
      · exact .inl ⟨h, c⟩
      · exact .inr ⟨h.1, by omega⟩
theorem top_nil (h : Top lv LL []) (h' : Top lv LL x) : x = [] := (h.eq h' (List.nil_prefix) List.prefix_rfl).symm
theorem line_top {l : List Int} (hl : l ∈ LL) (h1 : l.length = lv) (h2 : ∀ f ∈ l, Fig f) : ∃ r, Top lv LL r ∧ r <+: l := by
  have step : ∀ n : Nat, n ≤ l.length → Full lv LL (l.take n) → ∃ r, Top lv LL r ∧ r <+: l := by
    intro n
    induction n with
    | zero =>
      intro _ hf
      rw [List.take_zero] at hf
      exact ⟨[], ⟨hf, .inl rfl⟩, List.nil_prefix⟩
    | succ n ih =>
      intro hn hf
      by_cases c : Full lv LL (l.take n)
      · exact ih (by omega) c
      · refine ⟨l.take (n + 1), ⟨hf, .inr ?_⟩, List.take_prefix _ _⟩
        have e : (l.take (n + 1)).dropLast = l.take n := by
          rw [List.dropLast_eq_take, List.length_take, List.take_take]
          congr 1
          omega
        rw [e]; exact c
  exact step l.length (Nat.le_refl _) (by rw [List.take_length]; exact (full_line h2 h1).mpr hl)
end
end Rg

set_option Elab.async false
set_option linter.all false
set_option maxRecDepth 100000
namespace L2
open PySem PySem.Spec PyProof.Rows
section
variable {prog : Program} {w : World} {K : Type} [DecidableEq K] {knd : HeapKind prog w K} {A : Around} {E : Value → Shared → Prop} {s : Shared}
theorem sd_heap {d a : Addr} {xs : List (K × Addr × Value)} {k : K} {v : Value} {Q : Value → Shared → Prop} (hu : knd.room A) (hkey : knd.is s.heap k a) (hm : s.heap.DictOfH knd d xs)
    (h1 : ∀ p, atKey xs k = some p → Q p.2 { s with toks := s.toks + knd.draws k })
    (h2 : atKey xs k = none → ∀ h', h'.DictOfH knd d (storedH xs k a v) → Heap.SameBut d s.heap h' → Q v { s with heap := h', toks := s.toks + knd.draws k })
    (hsz : xs.length ≤ sizeLine) : wpAny (model prog w) A (dictSetDefault d (.ref a) v) Q E s := by
  obtain ⟨o, es, ep, ho, hc, hd, he, his, hn⟩ := hm
  unfold dictSetDefault
  refine wpAny_holding ?_
  refine wpAny_bind (knd.pyHash hu hkey ?_)
  refine wpAny_bind (wpAny_dictFind_heap (s := { s with toks := s.toks + knd.draws k }) hu hkey ho hd he his hn ?_ ?_)
  · intro hno
    have hnot : k ∉ xs.map (·.1) := not_mem_keys_of_get hno
    have hnn := atKey_none_of_get hno
    refine wpAny_bind (wpAny_rule (wpAny_bind (wpAny_updateDictKeys (hz := by have e := size_of_entries he; omega) (s := { s with toks := s.toks + knd.draws k }) ho hd (wpAny_pure (h2 hnn _ ⟨_, _, ep + 1, Heap.get?_update_self _ ho (Obj.isFreed_of_dict (Obj.data_mapDictKeys hd _)), hc.mapDictKeys _, Obj.data_mapDictKeys hd _, ?_, ?_, ?_⟩ (Heap.SameBut.update ..))))))
    · rw [storedH_new hnn]
      simp [he, entryOfKey]
    · rw [storedH_new hnn]
      intro x hx
      rcases List.mem_append.mp hx with hx | hx
      · exact knd.keeps (his x hx) ho hd (Heap.SameBut.update ..)
      · obtain rfl := List.mem_singleton.mp hx
        exact knd.keeps hkey ho hd (Heap.SameBut.update ..)
    · rw [storedH_new hnn, List.map_append, List.nodup_append]
      refine ⟨hn, by simp, ?_⟩
      intro x hx y hy e
      subst e
      have hy : x = k := by simpa using hy
      exact hnot (by rw [← hy]; exact hx)
  · intro j p hj
    refine wpAny_bind (wpAny_dictEntries (s := { s with toks := s.toks + knd.draws k }) ho hd ?_)
    rw [entry_at he j, hj]
    exact wpAny_bind (wpAny_rule (wpAny_pure (h1 p (atKey_of_get hn hj))))
end
section
variable {X : Cx} {pins : List (Addr × Obj)} {σ : St} {H : Hp} {s : Shared} {a b : Addr} {v : V} {r : Value} {A : Around} {E : Value → Shared → Prop} {kvs : List (List Key × V)} {k : List Key}
theorem d_setdef {Q : Value → Shared → Prop} (hu : A.units + 1 < cLine) (I : Inv X pins σ H s) (e : H a = some (.dT kvs)) (eb : H b = some (.tup (k.map kV))) (l : kvs.length < sizeLine) (rv : RelV v r)
    (h1 : ∀ v0, valV kvs k = some v0 → ∀ w' s', Inv X pins σ H s' → RelV v0 w' → Q w' s') (h2 : valV kvs k = none → ∀ s', Inv X pins σ (upd H a (.dT (putK kvs k v))) s' → Q r s') :
    wpAny (model X.prog X.w) A (call (.builtin "dict.setdefault") [.ref a, .ref b, r]) Q E s := by
  obtain ⟨z, hd, xs, rel, dd⟩ := dt_of I.hok e
  have hz : xs.length ≤ sizeLine := by rw [← Paired.length rel]; exact z
  have hl : (putK kvs k v).length ≤ sizeLine := by have := length_putK kvs k v; omega
  have rk := rel.val k
  refine wpAny_call_entry F.slot_dict_setdefault dd.typeIs F.entry_dict_setdefault ?_ (F.args_dict_setdefault_3 _ _ _)
  unfold Builtin.«dict.setdefault»
  refine wpAny_bind ?_
  unfold Builtin.Dict.keyAndDefault
  refine wpAny_bind (wpAny_notOrdered_dict dd.typeIs ?_)
  show wpAny _ _ (pure (a, Value.ref b, some r)) _ _ s
  refine wpAny_pure ?_
  show wpAny _ _ (if (a == sysModules) = true then _ else (dictSetDefault a (.ref b) r >>= _)) _ _ s
  rw [if_neg (by rw [hd]; exact Bool.false_ne_true)]
  refine wpAny_bind (sd_heap (tupleKind_room_in1 hu) (key_of I.hok eb) dd (fun p hp => wpAny_pure ⟨p.2, rfl, ?_⟩) (fun hno h' dd' hs => wpAny_pure ⟨r, rfl, ?_⟩) hz)
  · rw [hp] at rk
    cases hv : valV kvs k with
    | none => rw [hv] at rk; cases rk
    | some v0 =>
      rw [hv] at rk
      exact h1 v0 hv _ _ (I.tok _) rk
  · have hv : valV kvs k = none := by
      rw [hno] at rk
      cases hv : valV kvs k with
      | none => rfl
      | some v0 => rw [hv] at rk; cases rk
    refine h2 hv _ ?_
    obtain ⟨q, es, ep, hq, h2, h3, h4, _, h5⟩ := dd'
    refine d_write I (by rw [e]; exact True.intro) hs ⟨q, hq⟩ ⟨hl, hd, _, (rel.put k eb rv).keeps fun c ys ec => ?_, q, es, ep, hq, h2, h3, h4, h5⟩
    rw [upd_ne (ne_of ec e (fun z => nomatch z))]
    exact ec
end
def tSetDef (td ty tx : TE) : TE := fun σ H Q => td σ H fun x H1 => ∃ a, x = .ref a ∧ IsD H1 a ∧ ty σ H1 fun y H2 => tx σ H2 fun z H3 => ∃ kvs k b, y = .ref b ∧ H3 a = some (.dT kvs) ∧ H3 b = some (.tup (k.map kV)) ∧ kvs.length < sizeLine ∧ (∀ v0, valV kvs k = some v0 → Q v0 H3) ∧ (valV kvs k = none → Q z (upd H3 a (.dT (putK kvs k z))))
section
variable {X : Cx} {o e f : Expr} {apos cpos : Pos} {td ty tx : TE}
theorem pe_setdef (hu : X.A.units + 1 < cLine) (ho : PE X o td) (he : PE X e ty) (hf : PE X f tx) (m : M2 X o "setdefault" apos e f cpos) : PE X (.Call (.Attribute o "setdefault" apos) [e, f] [] cpos) (tSetDef td ty tx) := by
  intro pins s σ H Q I h
  refine wpAny_Call_method m.base m.few m.line PySem.F.plainAttrs_dict PySem.F.slot_dict_setdefault PySem.F.type_dict_setdefault (thn (ho pins s σ H _ I h) fun u s1 ⟨x, H1, I1, rx, a, ex, d, q1⟩ => ?_)
  subst ex
  obtain rfl : u = Value.ref a := rx
  obtain ⟨t1, t2, _⟩ := isD_at I1 d
  refine ⟨t1, t2, ?_⟩
  rw [m.trees]
  refine Calls.callWith_builtin rfl (Calls.evalArgs_plain (Calls.spliced_cons (thn (he pins s1 σ H1 _ I1 q1) fun iv s2 ⟨y, H2, I2, ry, q2⟩ =>
    Calls.spliced_cons (thn (hf pins s2 σ H2 _ I2 q2) fun fv s3 ⟨z, H3, I3, rz, kvs, k, b, ey, ea, eb, l, k1, k2⟩ => Calls.spliced_nil ?_))))
  subst ey
  cases ry
  exact d_setdef hu I3 ea eb l rz (fun v0 hv w' s' I' rv => ⟨v0, H3, I', rv, k1 v0 hv⟩) fun hv s' I' => ⟨z, _, I', rz, k2 hv⟩
end
section
variable {X : Cx}
theorem call_listD (hc : X.calm = true) : CallR X (.type "list") (fun xs H Q => ∃ (d : Addr) (LL : List (List Int)) (vx : List Int → V), xs = [.ref d] ∧ H d = some (.dT (LL.map fun xs => (kk xs, vx xs))) ∧ ∀ D us H', Same H H' → H D = none → H' D = some (.lst us) → Tups H' us LL → Q (.ref D) H') := by
  intro pins s σ H xs vs Q I r h
  obtain ⟨d, LL, vx, rfl, hd, q⟩ := h
  obtain ⟨u, rfl, rx⟩ := vals1 r
  cases rx
  obtain ⟨es, ep, hs, raw, sz, hz, hk⟩ := Srt.dict_keys I hd
  rw [List.length_map] at sz hz
  refine PySem.W.kdl_call (Srt.src_dict (es := es) (ep := ep) hs) (I.ok.hd hc) raw (by omega) fun h' tk acc c k1 g ha => ?_
  rw [sz] at ha
  obtain ⟨h1, h2, h3⟩ := Srt.keys_rows I hk ha
  obtain ⟨v1, t1⟩ := Srt.vals_tups (h := s.heap) h3
  have hn := I.hok.fresh (Nat.le_refl s.heap.objs.size)
  have hl : acc.toList.length = LL.length := by rw [← h2, List.length_map]
  refine ⟨.ref s.heap.objs.size, _, I.laid (t' := tk) k1 (Nat.le_refl _) (show ObjOk X.prog X.w (upd H s.heap.objs.size (.lst (acc.toList.map Srt.toV))) h' s.heap.objs.size (.lst (acc.toList.map Srt.toV)) from ⟨by rw [List.length_map, hl]; exact hz, acc.toList, c, v1, g⟩), rfl, q _ _ _ (same_upd hn) hn upd_same ?_⟩
  rw [h2] at t1
  exact t1.keep (same_upd hn)
end
theorem dmap_val (f : List Int → V) : ∀ (LL : List (List Int)) (x : List Int), valV (LL.map fun h => (kk h, f h)) (kk x) = if x ∈ LL then some (f x) else none
  | [], x => rfl
  | h :: r, x => by
    rw [List.map_cons]
    by_cases e : h = x
    · subst e
      rw [valV_pos rfl, if_pos List.mem_cons_self]
    · rw [valV_neg (fun z => e (kk_inj z)), dmap_val f r x]
      by_cases m : x ∈ r
      · rw [if_pos m, if_pos (List.mem_cons_of_mem _ m)]
      · rw [if_neg m, if_neg (fun z => (List.mem_cons.mp z).elim (fun w => e w.symm) m)]
structure HD (H : Hp) (d : Addr) (g : List Int → Addr) (bs : List (List Int)) : Prop where
  dict : H d = some (.dT ((Rg.headsOf bs).map fun h => (kk h, V.ref (g h))))
  rows : ∀ h ∈ Rg.headsOf bs, ∃ vs, H (g h) = some (.lst vs) ∧ Tups H vs (Rg.ofHead bs h)
  inj : ∀ h ∈ Rg.headsOf bs, ∀ h' ∈ Rg.headsOf bs, g h = g h' → h = h'
theorem HD.keep {H H' : Hp} {d : Addr} {g : List Int → Addr} {bs : List (List Int)} (s : Same H H') (h : HD H d g bs) : HD H' d g bs :=
  ⟨s _ _ h.dict, fun x hx => let ⟨vs, h1, h2⟩ := h.rows x hx; ⟨vs, s _ _ h1, h2.keep s⟩, h.inj⟩
theorem heads_snoc (bs : List (List Int)) (b : List Int) : Rg.headsOf (bs ++ [b]) = Rg.put (Rg.headsOf bs) b.dropLast := by
  unfold Rg.headsOf
  rw [List.map_append]
  exact Rg.puts_snoc _ _ _
theorem ofHead_snoc (bs : List (List Int)) (b h : List Int) : Rg.ofHead (bs ++ [b]) h = if b.dropLast = h then Rg.ofHead bs h ++ [b] else Rg.ofHead bs h := by
  unfold Rg.ofHead
  rw [List.filter_append, List.filter_cons]
  by_cases e : b.dropLast = h
  · rw [if_pos (decide_eq_true e), if_pos e]; rfl
  · rw [if_neg (by rw [decide_eq_false e]; exact Bool.false_ne_true), if_neg e]
    simp
theorem ofHead_none {bs : List (List Int)} {h : List Int} (hn : h ∉ Rg.headsOf bs) : Rg.ofHead bs h = [] := by
  apply List.eq_nil_iff_forall_not_mem.mpr
  intro x hx
  obtain ⟨h1, h2⟩ := Rg.mem_ofHead.mp hx
  exact hn (Rg.mem_headsOf.mpr ⟨x, h1, h2⟩)
theorem HD.more {H : Hp} {d : Addr} {g : List Int → Addr} {bs : List (List Int)} {b : List Int} {c : Addr} {vs : List V} (h : HD H d g bs) (hm : b.dropLast ∈ Rg.headsOf bs) (hc : H c = some (.tup (List.map V.int b))) (hv : H (g b.dropLast) = some (.lst vs)) :
    HD (upd H (g b.dropLast) (.lst (vs ++ [.ref c]))) d g (bs ++ [b]) := by
  have hh : Rg.headsOf (bs ++ [b]) = Rg.headsOf bs := by rw [heads_snoc]; unfold Rg.put; rw [if_pos hm]
  have nt : ∀ ys, H (g b.dropLast) ≠ some (.tup ys) := fun ys z => by rw [hv] at z; cases z
  refine ⟨?_, fun x hx => ?_, by rw [hh]; exact h.inj⟩
  · rw [hh, upd_ne (fun z => by rw [← z, h.dict] at hv; cases hv)]; exact h.dict
  · rw [hh] at hx
    rw [ofHead_snoc]
    by_cases e : b.dropLast = x
    · subst e
      rw [if_pos rfl]
      obtain ⟨ws, h1, h2⟩ := h.rows _ hm
      rw [hv] at h1
      cases h1
      exact ⟨vs ++ [.ref c], upd_same, (h2.snoc hc).upd nt⟩
    · rw [if_neg e]
      obtain ⟨ws, h1, h2⟩ := h.rows x hx
      refine ⟨ws, ?_, h2.upd nt⟩
      rw [upd_ne (fun z => e (h.inj _ hm _ hx z.symm))]; exact h1
theorem HD.new {H : Hp} {d l : Addr} {g : List Int → Addr} {bs : List (List Int)} {b : List Int} {c : Addr} {vs : List V} {kvs : List (List Key × V)} (h : HD H d g bs) (hn : b.dropLast ∉ Rg.headsOf bs) (hc : H c = some (.tup (List.map V.int b)))
    (hl : H l = some (.lst [])) (fr : ∀ x ∈ Rg.headsOf bs, g x ≠ l) :
    HD (upd (upd H d (.dT (putK ((Rg.headsOf bs).map fun h => (kk h, V.ref (g h))) (kk b.dropLast) (.ref l)))) l (.lst [.ref c])) d (fun x => if x = b.dropLast then l else g x) (bs ++ [b]) := by
  have hh : Rg.headsOf (bs ++ [b]) = Rg.headsOf bs ++ [b.dropLast] := by rw [heads_snoc]; unfold Rg.put; rw [if_neg hn]
  have dl : d ≠ l := fun z => by rw [← z, h.dict] at hl; cases hl
  have hv : valV ((Rg.headsOf bs).map fun h => (kk h, V.ref (g h))) (kk b.dropLast) = none := by rw [dmap_val, if_neg hn]
  have gx : ∀ x ∈ Rg.headsOf bs, (if x = b.dropLast then l else g x) = g x := fun x hx => if_neg fun z => hn (by rw [← z]; exact hx)
  have gd : ∀ x ∈ Rg.headsOf bs, g x ≠ d := fun x hx z => by
    obtain ⟨ws, h1, _⟩ := h.rows x hx
    rw [z, h.dict] at h1; cases h1
  have nt1 : ∀ ys, H d ≠ some (.tup ys) := fun ys z => by rw [h.dict] at z; cases z
  have nt2 : ∀ ys, upd H d (.dT (putK ((Rg.headsOf bs).map fun h => (kk h, V.ref (g h))) (kk b.dropLast) (.ref l))) l ≠ some (.tup ys) := fun ys z => by rw [upd_ne dl.symm, hl] at z; cases z
  refine ⟨?_, fun x hx => ?_, ?_⟩
  · rw [upd_ne dl, upd_same, putK_new _ hv, hh, List.map_append]
    congr 2
    congr 1
    · exact List.map_congr_left fun x hx => by rw [gx x hx]
    · show _ = [(kk b.dropLast, V.ref (if b.dropLast = b.dropLast then l else g b.dropLast))]
      rw [if_pos rfl]
  · rw [hh] at hx
    rw [ofHead_snoc]
    rcases List.mem_append.mp hx with hx | hx
    · have hne : ¬ b.dropLast = x := fun z => hn (by rw [z]; exact hx)
      rw [if_neg hne, gx x hx]
      obtain ⟨ws, h1, h2⟩ := h.rows x hx
      refine ⟨ws, ?_, (h2.upd nt1).upd nt2⟩
      rw [upd_ne (fr x hx), upd_ne (gd x hx)]; exact h1
    · have e : x = b.dropLast := List.mem_singleton.mp hx
      subst e
      rw [if_pos rfl, if_pos rfl, ofHead_none hn]
      refine ⟨[.ref c], upd_same, ?_⟩
      have t0 : Tups H [.ref c] ([] ++ [b]) := .cons ⟨c, rfl, hc⟩ .nil
      exact (t0.upd nt1).upd nt2
  · rw [hh]
    intro x hx y hy e
    rcases List.mem_append.mp hx with hx | hx
    · rcases List.mem_append.mp hy with hy | hy
      · rw [gx x hx, gx y hy] at e
        exact h.inj x hx y hy e
      · rw [List.mem_singleton.mp hy, if_pos rfl, gx x hx] at e
        exact absurd e (fr x hx)
    · rcases List.mem_append.mp hy with hy | hy
      · rw [List.mem_singleton.mp hx, if_pos rfl, gx y hy] at e
        exact absurd e.symm (fr y hy)
      · rw [List.mem_singleton.mp hx, List.mem_singleton.mp hy]
end L2

set_option Elab.async false
set_option linter.all false
set_option maxRecDepth 100000
namespace Srt
open PySem PySem.Spec PyProof.Rows L2
section
open PySem.SeqAt PySem.AutoSeq1 PySem.MeetsSeq PySem.MeetsSeq2 PySem.MeetsSeq3
theorem lt_loop (l b : Addr) (items items2 : Array Value) (n n2 : Nat) (dd dd2 : Option Addr) (sl sl2 : Array (Option Value)) (hx : ∀ u ∈ items.toList, ∃ i t, u = Value.int i t) (hy : ∀ u ∈ items2.toList, ∃ i t, u = Value.int i t) (k : Nat) :
    ∀ i : Nat, items.size - i = k → i ≤ items.size → i ≤ items2.size → Meets (Builtin.«list.__eq__.loop» ⟨[.ref l, .ref b, rawInt i, rawInt 0], []⟩)
      (fun A R s => s.heap.get? l = some { cls := .type "list", dict := dd, data := .seq items n, slots := sl } ∧ s.heap.get? b = some { cls := .type "list", dict := dd2, data := .seq items2 n2, slots := sl2 } ∧
        R (.ok (.ret (.bool (lx ((items.toList.map numOf).drop i) ((items2.toList.map numOf).drop i))))) s) := by
  induction k with
  | zero =>
    intro i hk hi hj prog w A R s h
    obtain ⟨hp, g, d, tk, os⟩ := s; obtain ⟨hl, hb, h⟩ := h
    wp_walk using wpAny_loadPart' hl, wpAny_loadPart' hb
    have hi1 : items[((i : Nat) : Int).toNat]? = none := by simp; omega
    have hd : (items.toList.map numOf).drop i = [] := by
      apply List.drop_eq_nil_of_le
      simp; omega
    have e : lx ((items.toList.map numOf).drop i) ((items2.toList.map numOf).drop i) = decide (items.size < items2.size) := by
      rw [hd]
      by_cases c : i < items2.size
      · rw [List.drop_eq_getElem_cons (by simp; exact c)]
        show true = _
        exact (decide_eq_true (by omega)).symm
      · rw [List.drop_eq_nil_of_le (by simp; omega)]
        show false = _
        exact (decide_eq_false (by omega)).symm
    rw [e] at h
    rw [hi1]
    cases hc2 : items2[((i : Nat) : Int).toNat]? <;> (wp_walk using wpAny_loadPart' hl, wpAny_loadPart' hb; exact h)
  | succ k ih =>
    intro i hk hi hj prog w A R s h
    obtain ⟨hp, g, d, tk, os⟩ := s; obtain ⟨hl, hb, h⟩ := h
    wp_walk using wpAny_loadPart' hl, wpAny_loadPart' hb
    have hlt : i < items.size := by omega
    have hi1 : items[((i : Nat) : Int).toNat]? = some items[i] := by simp [hlt]
    have hd1 : (items.toList.map numOf).drop i = numOf items[i] :: (items.toList.map numOf).drop (i + 1) := by
      rw [List.drop_eq_getElem_cons (by simp; exact hlt)]
      simp
    by_cases hlt2 : i < items2.size
    · have hi2 : items2[((i : Nat) : Int).toNat]? = some items2[i] := by simp [hlt2]
      have hd2 : (items2.toList.map numOf).drop i = numOf items2[i] :: (items2.toList.map numOf).drop (i + 1) := by
        rw [List.drop_eq_getElem_cons (by simp; exact hlt2)]
        simp
      have hc : ((i : Int) + 1) = ((i + 1 : Nat) : Int) := by push_cast; rfl
      rw [hd1, hd2] at h
      rw [hi1, hi2]
      obtain ⟨x, tx, ex⟩ := hx items[i] (by simp)
      obtain ⟨y, ty, ey⟩ := hy items2[i] (by simp)
      rw [ex, ey] at h
      have h : R (.ok (.ret (.bool (if x = y then lx ((items.toList.map numOf).drop (i + 1)) ((items2.toList.map numOf).drop (i + 1)) else decide (x < y))))) ⟨hp, g, d, tk, os⟩ := h
      refine wpAny_bind (m := eqBool _ _) ?_
      rw [ex, ey]
      refine SeqAt.EqAt.int_int x tx y ty prog w _ _ ?_
      by_cases hxy : x = y
      · rw [if_pos hxy] at h
        rw [show (x == y) = true by simpa using hxy]
        wp_walk
        rw [hc]
        exact ⟨plainId_quiet plain_eq_loop _, codeAny_builtin entry_eq_loop (by
          rw [Around.under_plainId plain_eq_loop _]
          exact ih (i + 1) (by omega) (by omega) (by omega) prog w A R _ ⟨hl, hb, h⟩)⟩
      · rw [if_neg hxy] at h
        rw [show (x == y) = false by simpa using hxy]
        wp_walk using wpAny_loadPart' hl, wpAny_loadPart' hb
        rw [hi1, hi2]
        have hri := HT.rcLt_int A.in1 ⟨hp, g, d, tk, os⟩ x tx y ty prog w
        rw [ex, ey]
        wp_walk using hri
        exact h
    · have hi2 : items2[((i : Nat) : Int).toNat]? = none := by simp; omega
      have e : lx ((items.toList.map numOf).drop i) ((items2.toList.map numOf).drop i) = decide (items.size < items2.size) := by
        have hd2 : (items2.toList.map numOf).drop i = [] := by
          apply List.drop_eq_nil_of_le
          simp; omega
        rw [hd1, hd2]
        show false = _
        exact (decide_eq_false (by omega)).symm
      rw [e] at h
      rw [hi1, hi2]
      wp_walk using wpAny_loadPart' hl, wpAny_loadPart' hb
      exact h
theorem list_lt (l b : Addr) (items items2 : Array Value) (n n2 : Nat) (dd dd2 : Option Addr) (sl sl2 : Array (Option Value)) (hx : ∀ u ∈ items.toList, ∃ i t, u = Value.int i t) (hy : ∀ u ∈ items2.toList, ∃ i t, u = Value.int i t) :
    Meets (Builtin.«list.__lt__» ⟨[.ref l, .ref b], []⟩)
      (fun A R s => s.heap.get? l = some { cls := .type "list", dict := dd, data := .seq items n, slots := sl } ∧ s.heap.get? b = some { cls := .type "list", dict := dd2, data := .seq items2 n2, slots := sl2 } ∧
        R (.ok (.ret (.bool (lx (items.toList.map numOf) (items2.toList.map numOf))))) s) := by
  intro prog w A R s h
  obtain ⟨hp, g, d, tk, os⟩ := s; obtain ⟨hl, hb, h⟩ := h
  have f3 := AutoSeq1.sub_list_list
  wp_walk using wpAny_loadPart' hl, wpAny_loadPart' hb
  exact ⟨plainId_quiet plain_eq_loop _, codeAny_builtin entry_eq_loop (by
    rw [Around.under_plainId plain_eq_loop _]
    exact lt_loop l b items items2 n n2 dd dd2 sl sl2 hx hy _ 0 rfl (Nat.zero_le _) (Nat.zero_le _) prog w A R _ ⟨hl, hb, by simpa using h⟩)⟩
end
section
variable {prog : Program} {w : World} {A : Around} {E : Value → Shared → Prop} {s : Shared}
theorem oneLt_list {a b : Addr} {o p : Obj} {xs ys : Array Value} {n m : Nat} {Q : Bool → Shared → Prop} (hu : A.units + 1 < cLine) (g : s.heap.get? a = some o) (c : o.cls = .type "list") (d : o.data = .seq xs n) (hx : ∀ u ∈ xs.toList, ∃ i t, u = Value.int i t)
    (g' : s.heap.get? b = some p) (c' : p.cls = .type "list") (d' : p.data = .seq ys m) (hy : ∀ u ∈ ys.toList, ∃ i t, u = Value.int i t) (q : Q (lx (xs.toList.map numOf) (ys.toList.map numOf)) s) :
    wpAny (model prog w) A (oneLt' true (.ref a) (.ref b)) Q E s := by
  obtain ⟨cls, dd, data, sl⟩ := o
  obtain ⟨cls2, dd2, data2, sl2⟩ := p
  simp only at c d c' d'
  subst c d c' d'
  rw [oneLt'_eq]
  simp only [if_true]
  refine wpAny_bind (wpAny_cRoomFor (by omega) ?_)
  refine wpAny_bind (wpAny_callSpecialIfBound?_slot ⟨_, g, rfl⟩ F.slot_list_lt (call_meets F.slot_list_lt ⟨_, g, rfl⟩ F.entry_list_lt (F.args_list_lt_2 _ _) (list_lt a b xs ys n m dd dd2 sl sl2 hx hy) ⟨g, g', ?_⟩))
  exact wpAny_truthy_bool q
theorem ord_lists (hu : A.units + 1 < cLine) : Ord (model prog w) A E s oneType' (fun x => IsRow "list" s.heap x.1) LX (fun x => rowOf s.heap x.1) := by
  rintro ⟨x, x'⟩ ⟨y, y'⟩ ⟨a, o, xs, n, rfl, g, c, d, hx⟩ ⟨b, p, ys, m, rfl, g', c', d', hy⟩ st Q hk q
  rw [lt'_eq]
  refine wpS_bind (wpS_get ?_)
  rw [hk, keyLt'_oneType]
  refine wpS_bind (wpS_lift (wpAny_attempt (oneLt_list hu g c d hx g' c' d' hy ⟨rfl, wpS_pure ?_⟩)))
  have e : LX.blt (rowOf s.heap (.ref a)) (rowOf s.heap (.ref b)) = lx (xs.toList.map numOf) (ys.toList.map numOf) := by rw [rowOf_at g d, rowOf_at g' d']; rfl
  rw [← e]; exact q
theorem kind_lists {vs : List Value} {Q : SortKind → Shared → Prop} (h2 : 2 ≤ vs.length) (hr : ∀ v ∈ vs, IsRow "list" s.heap v) (q : Q oneType' s) : wpAny (model prog w) A (keyKind' vs.toArray) Q E s := by
  obtain ⟨v₁, v₂, rest, rfl⟩ : ∃ v₁ v₂ rest, vs = v₁ :: v₂ :: rest := by
    match vs, h2 with
    | v₁ :: v₂ :: rest, _ => exact ⟨v₁, v₂, rest, rfl⟩
  have ty : ∀ v ∈ v₁ :: v₂ :: rest, PySem.W.Looks (model prog w) s.heap (typeOf v) (.type "list") := fun v hv => by
    obtain ⟨a, o, xs, n, rfl, g, c, d, hx⟩ := hr v hv
    have : PySem.W.Looks (model prog w) s.heap (typeOf (.ref a)) o.cls := (PySem.W.Looks.ld g).andThen .now
    rwa [c] at this
  rw [keyKind'_eq, List.mapM_toArray, map_eq_pure_bind]
  refine wpAny_bind (wpAny_bind (PySem.W.kas_mapM (r := none) _ (fun v hv Q' hq => ?_) (wpAny_pure ?_)))
  · rw [PySem.W.kas_first_eq]
    refine wpAny_bind ((ty v hv).here ?_)
    rw [if_pos (by decide)]
    exact wpAny_pure hq
  · rw [if_neg (by simp), if_neg (by simp), oneTypeOnly'_eq, List.mapM_toArray, map_eq_pure_bind]
    refine wpAny_bind (wpAny_bind (wpAny_bind (PySem.W.kas_mapM (r := Value.type "list") _ (fun v hv Q' hq => (ty v hv).here hq) (wpAny_pure ?_))))
    have hall : ((List.map (fun _ => Value.type "list") (v₁ :: v₂ :: rest)).toArray.all fun x => x == Value.type "list") = true := by
      simp only [List.all_toArray, List.all_map, List.all_eq_true]
      intro _ _
      rfl
    have h0 : (List.map (fun _ => Value.type "list") (v₁ :: v₂ :: rest)).toArray[0]? = some (Value.type "list") := by simp
    rw [h0]
    simp only [hall, if_true]
    exact wpAny_pure (wpAny_pure q)
theorem sorted_rowsL {r : Addr} {its : List Value} (hcol : ∀ (R : List Value → Shared → Prop), (∀ h' tk, (∀ b o, s.heap.get? b = some o → h'.get? b = some o) → s.heap.objs.size ≤ h'.objs.size → R its { s with heap := h', toks := tk }) → wpAny (model prog w) A.in1 (collect (.ref r)) R E s)
    (hr : ∀ v ∈ its, IsRow "list" s.heap v) (hu : A.units + 8 < cLine) (hz : its.length ≤ sizeLine)
    (hQ : ∀ D h' tk out c, (∀ b o, s.heap.get? b = some o → h'.get? b = some o) → s.heap.objs.size ≤ D → h'.get? D = some (seqObj "list" (out : List Value).toArray c) → out.Perm its → Asc (out.map (rowOf s.heap)) → Q (.ref D) { s with heap := h', toks := tk }) :
    wpAny (model prog w) A (call (.builtin "sorted") [.ref r]) Q E s := by
  refine Calls.call_function_entry kind_sorted plain_sorted entry_sorted (args_sorted1 _) ?_
  unfold Builtin.«sorted»; refine wpAny_bind (m := checkCount "sorted" 1 1 _) (wpAny_pure (wpAny_bind (hcol _ fun h1 tk k1 sz1 => wpAny_bind (wpAny_newList ?_ hz))))
  have hoL : (h1.push (seqObj "list" its.toArray 0)).get? h1.objs.size = some (seqObj "list" its.toArray 0) := Heap.get?_push_size _ rfl
  have ne : ∀ b o, s.heap.get? b = some o → b ≠ h1.objs.size := fun b o e => Nat.ne_of_lt (Heap.lt_size (k1 _ _ e))
  have k6 : ∀ b o, s.heap.get? b = some o → (sHeap (h1.push (seqObj "list" its.toArray 0)) h1.objs.size its).get? b = some o := fun b o e => sHeap_old (Heap.get?_push_of_some _ (k1 _ _ e)) (ne b o e)
  have e6 : ∀ v ∈ its, rowOf (sHeap (h1.push (seqObj "list" its.toArray 0)) h1.objs.size its) v = rowOf s.heap v := fun v hv => ((hr v hv).keep k6).2
  refine wpAny_bind (wpAny_holding (wpAny_call_entry slot_list_sort (s := { s with heap := h1.push (seqObj "list" its.toArray 0), toks := tk }) ⟨_, hoL, rfl⟩ entry_list_sort
    (sort_at (s := { s with heap := h1.push (seqObj "list" its.toArray 0), toks := tk }) hoL hz (κ := oneType') (P := fun x => IsRow "list" (sHeap (h1.push (seqObj "list" its.toArray 0)) h1.objs.size its) x.1) (fun h2 Q' q => kind_lists h2 (fun v hv => ((hr v hv).keep k6).1) q) (ord_lists (by show A.units + 1 + 1 + 1 < cLine; omega)) (fun v hv => ((hr v hv).keep k6).1) fun out p u => ⟨_, rfl, ?_⟩) (args_list_sort _)))
  refine wpAny_pure ⟨_, rfl, ?_⟩
  obtain ⟨p1, a1⟩ := up_ascR p u
  obtain ⟨c, gD⟩ := sortedHeap_at (out := out.map (·.2)) hoL
  have ea : ((out.map (·.2)).toList).map (rowOf (sHeap (h1.push (seqObj "list" its.toArray 0)) h1.objs.size its)) = ((out.map (·.2)).toList).map (rowOf s.heap) := List.map_congr_left fun v hv => e6 v (p1.mem_iff.mp hv)
  refine hQ h1.objs.size _ tk (out.map (·.2)).toList c (fun b o e => ?_) sz1 (by rw [Array.toArray_toList]; exact gD) p1 (by rw [← ea]; exact a1)
  have e1 := Heap.get?_push_of_some (seqObj "list" its.toArray 0) (k1 _ _ e)
  exact (sortedHeap_old (ne b o e) (Heap.lt_size e1)).trans e1
end
section
variable {X : Cx} {pins : List (Addr × Obj)} {σ : L2.St} {H : Hp} {s : Shared}
theorem row_ofL {P : Program} {w : World} {h : Heap} {a : Addr} {xs : List Int} (hok : HOk P w H h) (e : H a = some (.lst (List.map V.int xs))) : IsRow "list" h (.ref a) ∧ rowOf h (.ref a) = xs := by
  obtain ⟨_, its, n, r, g⟩ : (List.map V.int xs).length ≤ sizeLine ∧ ∃ (its : List Value) (n : Nat), Vals (List.map V.int xs) its ∧ h.get? a = some { cls := .type "list", data := .seq its.toArray n } := hok a _ e
  have hi := intsAre_of r
  refine ⟨⟨a, _, its.toArray, n, rfl, g, rfl, rfl, fun u hu => hi.all u (by simpa using hu)⟩, ?_⟩
  rw [rowOf_at g rfl]
  exact hi.nums
theorem rows_vals {P : Program} {w : World} {h : Heap} (hok : HOk P w H h) : ∀ {us : List V} {xss : List (List Int)} {its : List Value}, HRows H us xss → Vals us its → (∀ v ∈ its, IsRow "list" h v) ∧ its.map (rowOf h) = xss ∧ ∀ v ∈ its, ∃ a, v = .ref a ∧ H a = some (.lst (List.map V.int (rowOf h v)))
  | _, _, _, .nil, .nil => ⟨fun _ hv => (List.not_mem_nil hv).elim, rfl, fun _ hv => (List.not_mem_nil hv).elim⟩
  | _, _, _, .cons ⟨a, e, ha⟩ t, .cons r rs => by
    subst e
    cases r
    obtain ⟨h1, h2, h3⟩ := rows_vals hok t rs
    obtain ⟨r1, r2⟩ := row_ofL hok ha
    refine ⟨fun v hv => ?_, by rw [List.map_cons, h2, r2], fun v hv => ?_⟩
    · rcases List.mem_cons.mp hv with rfl | hv
      · exact r1
      · exact h1 v hv
    · rcases List.mem_cons.mp hv with rfl | hv
      · exact ⟨a, rfl, by rw [r2]; exact ha⟩
      · exact h3 v hv
theorem vals_rows {h : Heap} : ∀ {its : List Value}, (∀ v ∈ its, ∃ a, v = .ref a ∧ H a = some (.lst (List.map V.int (rowOf h v)))) → Vals (its.map toV) its ∧ HRows H (its.map toV) (its.map (rowOf h))
  | [], _ => ⟨.nil, .nil⟩
  | v :: r, hv => by
    obtain ⟨a, rfl, ha⟩ := hv v List.mem_cons_self
    obtain ⟨h1, h2⟩ := vals_rows fun u hu => hv u (List.mem_cons_of_mem _ hu)
    exact ⟨.cons rfl h1, .cons ⟨a, rfl, ha⟩ h2⟩
theorem call_sortedL (hu : X.A.units + 64 < cLine) : CallR X (.builtin "sorted") (fun xs H Q => ∃ p us xss, xs = [.ref p] ∧ SqL X.K H p us ∧ HRows H us xss ∧ ∀ D us' xss' H', Same H H' → H D = none → H' D = some (.lst us') → HRows H' us' xss' → xss'.Perm xss → Asc xss' → Q (.ref D) H') := by
  intro pins s σ H xs vs Q I r h
  obtain ⟨p, us, xss, rfl, hp, ht, q⟩ := h
  obtain ⟨u, rfl, rx⟩ := vals1 r
  cases rx
  obtain ⟨its, rv, pl, hz⟩ := I.list hp
  obtain ⟨h1, h2, h3⟩ := rows_vals I.hok ht rv
  have hz' : its.length ≤ sizeLine := by rw [← rv.length]; exact hz
  refine sorted_rowsL (fun R hR => collect_list pl.isList (hR _ s.toks (fun b o e => ?_) ?_) hz') h1 (by omega) hz' ?_
  · rw [Heap.get?_update_ne _ _ _ _ (Nat.ne_of_lt (Heap.lt_size e))]; exact Heap.get?_push_of_some _ e
  · rw [Heap.size_update, size_push']; exact Nat.le_succ _
  · intro D h' tk out c hk hD g pm asc
    obtain ⟨v1, t1⟩ := vals_rows (h := s.heap) fun v hv => h3 v (pm.mem_iff.mp hv)
    have hn := I.hok.fresh hD
    refine ⟨.ref D, _, I.laid (t' := tk) hk hD (show ObjOk X.prog X.w (upd H D (.lst (out.map toV))) h' D (.lst (out.map toV)) from ⟨by rw [List.length_map, pm.length_eq]; exact hz', out, c, v1, g⟩), rfl, q D _ _ _ (same_upd hn) hn upd_same (t1.keep (same_upd hn)) ?_ asc⟩
    rw [← h2]; exact pm.map _
end
end Srt

set_option Elab.async false
set_option linter.all false
set_option maxRecDepth 100000
namespace L2
open PySem PySem.Spec PyProof.Rows PySem.SeqAt
section
variable {X : Cx} {K : PySem.W.Frag}
theorem op_neLT (hu : X.A.units + 64 < cLine) : OpR X (compareOp .NotEq) (fun x y H Q => ∃ a b us ws xss yss, x = .ref a ∧ y = .ref b ∧ SqL X.K H a us ∧ SqL X.K H b ws ∧ Tups H us xss ∧ Tups H ws yss ∧ Q (.bl (!decide (xss = yss))) H) :=
  (op_neD hu).imp fun x y H Q ⟨a, b, us, ws, xss, yss, e1, e2, h1, h2, t1, t2, q⟩ => by
    subst e1 e2
    refine ⟨.list (dTT xss), .list (dTT yss), .lst h1 t1.rep, .lst h2 t2.rep, shaped_tts xss, shaped_tts yss, by rw [SeqAt.noMix]; exact noMix_tts xss yss, ?_⟩
    rw [same, same_tts]; exact q
theorem op_neLIK (hK : X.K = K) (hu : X.A.units + 64 < cLine) : OpR X (compareOp .NotEq) (fun x y H Q => ∃ a b ns ms, x = .ref a ∧ y = .ref b ∧ SqL K H a (List.map V.int ns) ∧ SqL K H b (List.map V.int ms) ∧ Q (.bl (!decide (ns = ms))) H) := by subst hK; exact op_neLI hu
theorem call_lenSD : CallR X (.builtin "len") (fun xs H Q => (∃ p ys, xs = [.ref p] ∧ (SqL X.K H p ys ∨ SqT X.K H p ys) ∧ Q (.int ys.length) H) ∨ ∃ a kvs, xs = [V.ref a] ∧ Rd H a (.dT kvs) ∧ Q (.int kvs.length) H) := CallR.or call_len_seq call_lenDT
def rCountL (K : PySem.W.Frag) : V → List V → Hp → VK → Prop := fun x vs H Q => ∃ p a xs us xss, x = .ref p ∧ vs = [.ref a] ∧ SqL K H a (List.map V.int xs) ∧ SqL K H p us ∧ RowsV K H us xss ∧ Q (.int (xss.count xs : Nat)) H
theorem countP_by_data {h : Heap} {vs : Array Value} {xs : List PyData} {as : List Addr} {d : PyData} (rs : ReadsAll h vs.toList xs as) (hxs : PyData.canLayAll0 xs = true) :
    vs.toList.countP (fun y => PyData.eqv (readOf h y) d) = xs.countP (fun y => PyData.eqv y d) := by
  rw [← readsAll_map xs _ _ hxs rs, List.countP_map]
  rfl
theorem mt_countL (hu : X.A.units + 65 < cLine) : MtM X "list.count" (rCountL X.K) := by
  intro pins s σ H x vs v us Q I rx rv h
  obtain ⟨p, a, xs, ws, xss, rfl, rfl, ha, hp, ht, q⟩ := h
  cases rx
  obtain ⟨u, rfl, ru⟩ := rv.one
  obtain ⟨as, ra⟩ := (Rep.lst ha (RepAll.ints xs)).reads I ru
  obtain ⟨bs, rb⟩ := (Rep.lst hp ht.rep).reads I (show RelV (.ref p) (.ref p) from rfl)
  cases rb with
  | @list _ o items n _ _ h1 h2 h3 h4 =>
    obtain ⟨cls, dd, data, sl⟩ := o
    simp only at h2 h3
    subst h2 h3
    refine call_meets F.slot_list_count ⟨_, h1, rfl⟩ F.entry_list_count (F.args_list_count_2 _ _) (list_countAt p items n dd sl u _) ⟨h1, items_eqAt h4 ra (canLay_of_shaped (shaped_lls xss)) (canLay_of_shaped (shaped_li xs)) (room_in_shaped (shaped_li xs) hu), ?_⟩
    rw [countP_by_data h4 (canLay_of_shaped (shaped_lls xss)), show dLL xss = xss.map fun xs => PyData.list (dI xs) from rfl, List.countP_map]
    have e : xss.countP ((fun y => PyData.eqv y (.list (dI xs))) ∘ fun xs => PyData.list (dI xs)) = xss.count xs := by
      rw [List.count]
      refine List.countP_congr fun ys _ => ?_
      show PyData.eqv (.list (dI ys)) (.list (dI xs)) = true ↔ (ys == xs) = true
      rw [← same_eq_eqv _ _ (by rw [SeqAt.noMix]; exact noMix_ints ys xs), same_li]
      simp
    rw [e]
    exact ⟨.int (xss.count xs : Nat), H, I.tok _, ⟨_, rfl⟩, q⟩
variable {o e : Expr} {es : List Expr} {to : TE} {t : TA} {apos cpos : Pos}
theorem pe_countK (hK : X.K = K) (hu : X.A.units + 65 < cLine) (ho : PE X o to) (ha : PA X (e :: es) t)
    (hbase : attributeBase o "count" X.env (eval o X.env) = eval o X.env := by rfl)
    (hfew : ((backTo cpos (starEach (e :: es) X.env)).all (fun x => !x.1) && (backToKw cpos (keywordEach [] X.env)).all (fun x => x.1.isSome)
      && decide ((e :: es).length + ([] : List Keyword).length + (if ([] : List Keyword).isEmpty then 0 else 1) < 30)) = true := by rfl)
    (hline : (apos.endLine == cpos.line) = true := by rfl) (hs : starEach (e :: es) X.env = (false, eval e X.env) :: starEach es X.env := by rfl) (hplain : (backTo cpos (starEach es X.env)).any (·.1) = false := by rfl) :
    PE X (.Call (.Attribute o "count" apos) (e :: es) [] cpos) (tBM K "list" (rCountL K) to t) := by
  subst hK
  exact pe_bm PySem.F.plainAttrs_list PySem.F.slot_list_count PySem.F.type_list_count (mt_countL hu) ho ha hbase hfew hline hs hplain
end
end L2

set_option Elab.async false
set_option linter.all false
namespace Rg
open Sev
theorem longer_nodup {L : List (List Int)} (nd : L.Nodup) : (longer L).Nodup := by
  unfold longer
  refine flat_nodup nd (fun a _ => ?_) fun a _ c _ hne z hz hz' => ?_
  · show ([0, 1, 2, 3, 4, 5, 6].map fun f => a ++ [f]).Nodup
    have h0 : ([0, 1, 2, 3, 4, 5, 6] : List Int).Nodup := by decide
    exact List.pairwise_map.mpr (h0.imp fun h e => h (by injection List.append_cancel_left e))
  · obtain ⟨f, _, rfl⟩ := List.mem_map.mp hz
    obtain ⟨g, _, e⟩ := List.mem_map.mp hz'
    exact hne (List.append_inj_left' e.symm rfl)
theorem lns_nodup : ∀ (n : Nat) (xs : List Int), (lns n xs).Nodup
  | 0, xs => by rw [lns]; exact List.pairwise_singleton _ _
  | n + 1, xs => by rw [lns]; exact longer_nodup (lns_nodup n xs)
section
variable {lv : Nat} {LL R : List (List Int)}
theorem held_nodup (nd : R.Nodup) (ht : ∀ r ∈ R, Top lv LL r) : (R.flatMap fun b => lns (lv - b.length) b).Nodup := by
  refine flat_nodup nd (fun a _ => lns_nodup _ _) fun a ha c hc hne z hz hz' => hne ?_
  obtain ⟨t, e, _, _⟩ := mem_lns.mp hz
  obtain ⟨t', e', _, _⟩ := mem_lns.mp hz'
  exact (ht a ha).eq (ht c hc) ⟨t, e.symm⟩ ⟨t', e'.symm⟩
theorem heads_lt (nd : R.Nodup) (ht : ∀ r ∈ R, Top lv LL r) (h : List Int) : ((R.filter fun b => !decide (b = [])).map List.dropLast).count h < 7 := by
  rw [List.count, List.countP_map, List.countP_eq_length_filter]
  generalize hF : (R.filter fun b => !decide (b = [])).filter ((fun x => x == h) ∘ List.dropLast) = F
  have mF : ∀ b ∈ F, b ∈ R ∧ ∃ f, b = h ++ [f] := fun b hb => by
    rw [← hF] at hb
    obtain ⟨h1, h2⟩ := List.mem_filter.mp hb
    obtain ⟨h3, h4⟩ := List.mem_filter.mp h1
    refine ⟨h3, snoc_of (fun z => ?_) ?_⟩
    · rw [z] at h4; simp at h4
    · simpa using h2
  have ndF : F.Nodup := by rw [← hF]; exact (nd.filter _).filter _
  have sub : ∀ b ∈ F, b ∈ [0, 1, 2, 3, 4, 5, 6].map fun f : Int => h ++ [f] := fun b hb => by
    obtain ⟨hr, f, rfl⟩ := mF b hb
    have hf := (ht _ hr).1.fg f (by simp)
    refine List.mem_map.mpr ⟨f, ?_, rfl⟩
    obtain ⟨f0, f6⟩ := hf
    simp only [List.mem_cons, List.not_mem_nil, or_false]
    omega
  have l7 := nodup_le ndF sub
  rw [List.length_map] at l7
  have l7 : F.length ≤ 7 := l7
  refine Nat.lt_of_le_of_ne l7 fun e => ?_
  have all : ∀ b ∈ [0, 1, 2, 3, 4, 5, 6].map (fun f : Int => h ++ [f]), b ∈ F := by
    intro b hb
    refine Classical.byContradiction fun hn => ?_
    have nd' : (b :: F).Nodup := List.nodup_cons.mpr ⟨hn, ndF⟩
    have := nodup_le nd' fun x hx => (List.mem_cons.mp hx).elim (fun z => z ▸ hb) (sub x)
    rw [List.length_map, List.length_cons] at this
    have this : F.length + 1 ≤ 7 := this
    omega
  have inF : ∀ f, Fig f → h ++ [f] ∈ R := fun f hf => by
    refine (mF _ (all _ (List.mem_map.mpr ⟨f, ?_, rfl⟩))).1
    obtain ⟨f0, f6⟩ := hf
    simp only [List.mem_cons, List.not_mem_nil, or_false]
    omega
  have t0 := ht _ (inF 0 (by decide))
  have hl : h.length < lv := by have := t0.1.le; rw [List.length_append, List.length_singleton] at this; omega
  have hfg : ∀ f ∈ h, Fig f := fun f hf => t0.1.fg f (List.mem_append_left _ hf)
  have fh : Full lv LL h := (full_child hfg hl).mpr fun f hf => (ht _ (inF f hf)).1
  rcases t0.2 with z | z
  · simp at z
  · rw [List.dropLast_concat] at z; exact z fh
theorem perm_of {α : Type} [DecidableEq α] {l m : List α} (h1 : l.Nodup) (h2 : m.Nodup) (h : ∀ x, x ∈ l ↔ x ∈ m) : l.Perm m := (List.perm_ext_iff_of_nodup h1 h2).mpr h
end
end Rg

namespace My
open PySem L2 Spi Sev
local macro_rules | `(tactic| walk_at "sq") => `(tactic| repeat (first | assumption | exact SqT.of upd_same | exact SqL.of upd_same | refine Same.sqT (by first | assumption | exact same_upd (by assumption)) ?_ | refine Same.seq (by first | assumption | exact same_upd (by assumption)) ?_))
local macro_rules | `(tactic| walk_at "rdc") => `(tactic| first | exact Nat.le_of_ble_eq_true rfl | decide | (show (0 : Int) < _; omega) | (exact ⟨by decide, by decide⟩) | (exact ⟨by decide, by decide, by decide⟩) | (exact Or.inl ⟨by decide, by decide⟩) | (exact Or.inr ⟨by decide, by decide⟩) | omega | (simp only [Int.reduceToNat]; omega))
local macro_rules | `(tactic| walk_at "rd") => `(tactic| repeat (first
  | refine ⟨_, rfl, ?_⟩
  | refine ⟨_, _, _, _, rfl, rfl, (by walk_at "sq"), (by rfl), ?_⟩
  | refine ⟨_, _, rfl, rfl, ?_⟩
  | refine ⟨_, _, _, rfl, ?_⟩
  | refine ⟨rfl, ?_⟩
  | refine ⟨(by walk_at "rdc"), ?_⟩))

def top (i : Nat) : Stmt := PySem.Challenge.pw_hexaddress_k14_a_region_told.main.body.getD i (.Pass ⟨0, 0, 0, 0⟩)
abbrev s_added : Stmt := top 9
theorem sc_added : FnScope ["one", "other"] ["one", "other"] (defScope s_added) := ⟨rfl, rfl, rfl, by decide +kernel, rfl, by decide +kernel, by decide +kernel⟩
abbrev s_taken : Stmt := top 10
abbrev s_turned : Stmt := top 11
theorem sc_turned : FnScope ["place", "sixths", "now", "turn"] ["place", "sixths"] (defScope s_turned) := ⟨rfl, rfl, rfl, by decide +kernel, rfl, by decide +kernel, by decide +kernel⟩
abbrev s_step : Stmt := top 12
theorem sc_step : FnScope ["direction"] ["direction"] (defScope s_step) := ⟨rfl, rfl, rfl, by decide +kernel, rfl, by decide +kernel, by decide +kernel⟩
abbrev s_great : Stmt := top 16
theorem sc_great : FnScope ["place"] ["place"] (defScope s_great) := ⟨rfl, rfl, rfl, by decide +kernel, rfl, by decide +kernel, by decide +kernel⟩
abbrev s_rest : Stmt := top 17
abbrev s_place_of_rest : Stmt := top 18
theorem sc_place_of_rest : FnScope ["figure"] ["figure"] (defScope s_place_of_rest) := ⟨rfl, rfl, rfl, by decide +kernel, rfl, by decide +kernel, by decide +kernel⟩
abbrev s_place_of : Stmt := top 21
theorem sc_place_of : FnScope ["figures", "now", "figure"] ["figures"] (defScope s_place_of) := ⟨rfl, rfl, rfl, by decide +kernel, rfl, by decide +kernel, by decide +kernel⟩
abbrev s_refuse_no_level : Stmt := top 25
theorem sc_refuse_no_level : FnScope ["level"] ["level"] (defScope s_refuse_no_level) := ⟨rfl, rfl, rfl, by decide +kernel, rfl, by decide +kernel, by decide +kernel⟩
abbrev s_refuse_no_figures : Stmt := top 26
theorem sc_refuse_no_figures : FnScope ["beginnings", "beginning", "figure"] ["beginnings"] (defScope s_refuse_no_figures) := ⟨rfl, rfl, rfl, by decide +kernel, rfl, by decide +kernel, by decide +kernel⟩
abbrev s_refuse_too_long : Stmt := top 27
theorem sc_refuse_too_long : FnScope ["level", "beginnings", "beginning"] ["level", "beginnings"] (defScope s_refuse_too_long) := ⟨rfl, rfl, rfl, by decide +kernel, rfl, by decide +kernel, by decide +kernel⟩
abbrev s_one_figure_longer : Stmt := top 29
theorem sc_one_figure_longer : FnScope ["beginnings", "longer", "beginning", "figure"] ["beginnings"] (defScope s_one_figure_longer) := ⟨rfl, rfl, rfl, by decide +kernel, rfl, by decide +kernel, by decide +kernel⟩
abbrev s_lines_of : Stmt := top 30
theorem sc_lines_of : FnScope ["level", "beginning", "lines", "missing"] ["level", "beginning"] (defScope s_lines_of) := ⟨rfl, rfl, rfl, by decide +kernel, rfl, by decide +kernel, by decide +kernel⟩
abbrev s_lines_of_all : Stmt := top 31
theorem sc_lines_of_all : FnScope ["level", "beginnings", "unlike", "beginning", "lines", "line"] ["level", "beginnings"] (defScope s_lines_of_all) := ⟨rfl, rfl, rfl, by decide +kernel, rfl, by decide +kernel, by decide +kernel⟩
abbrev s_by_heads : Stmt := top 32
theorem sc_by_heads : FnScope ["beginnings", "heads", "beginning"] ["beginnings"] (defScope s_by_heads) := ⟨rfl, rfl, rfl, by decide +kernel, rfl, by decide +kernel, by decide +kernel⟩
abbrev s_fewest : Stmt := top 33
theorem sc_fewest : FnScope ["level", "lines", "final", "whole", "shortened", "heads", "head"] ["level", "lines"] (defScope s_fewest) := ⟨rfl, rfl, rfl, by decide +kernel, rfl, by decide +kernel, by decide +kernel⟩
abbrev s_Region_init : Stmt := inClass (top 24) 0
theorem sc_Region_init : FnScope ["self", "level", "beginnings"] ["self", "level", "beginnings"] (defScope s_Region_init) := ⟨rfl, rfl, rfl, by decide +kernel, rfl, by decide +kernel, by decide +kernel⟩
abbrev s_Region_told : Stmt := inClass (top 24) 1
theorem sc_Region_told : FnScope ["self"] ["self"] (defScope s_Region_told) := ⟨rfl, rfl, rfl, by decide +kernel, rfl, by decide +kernel, by decide +kernel⟩
abbrev s_Region_many : Stmt := inClass (top 24) 3
theorem sc_Region_many : FnScope ["self"] ["self"] (defScope s_Region_many) := ⟨rfl, rfl, rfl, by decide +kernel, rfl, by decide +kernel, by decide +kernel⟩
abbrev s_Region_cells : Stmt := inClass (top 24) 4
theorem sc_Region_cells : FnScope ["self"] ["self"] (defScope s_Region_cells) := ⟨rfl, rfl, rfl, by decide +kernel, rfl, by decide +kernel, by decide +kernel⟩
abbrev s_law_cell_at : Stmt := top 35
theorem sc_law_cell_at : FnScope ["script", "k"] ["script", "k"] (defScope s_law_cell_at) := ⟨rfl, rfl, rfl, by decide +kernel, rfl, by decide +kernel, by decide +kernel⟩
abbrev s_law_whole : Stmt := top 36
theorem sc_law_whole : FnScope ["found"] ["found"] (defScope s_law_whole) := ⟨rfl, rfl, rfl, by decide +kernel, rfl, by decide +kernel, by decide +kernel⟩
abbrev s_law_place_alike : Stmt := top 37
theorem sc_law_place_alike : FnScope ["found", "due"] ["found", "due"] (defScope s_law_place_alike) := ⟨rfl, rfl, rfl, by decide +kernel, rfl, by decide +kernel, by decide +kernel⟩
abbrev s_law_step : Stmt := top 38
theorem sc_law_step : FnScope ["figure"] ["figure"] (defScope s_law_step) := ⟨rfl, rfl, rfl, by decide +kernel, rfl, by decide +kernel, by decide +kernel⟩
abbrev s_law_place : Stmt := top 39
theorem sc_law_place : FnScope ["figures", "q", "r", "figure", "far", "left"] ["figures"] (defScope s_law_place) := ⟨rfl, rfl, rfl, by decide +kernel, rfl, by decide +kernel, by decide +kernel⟩
abbrev s_law_lines : Stmt := top 40
theorem sc_law_lines : FnScope ["beginning", "level", "rows", "k", "fresh", "row", "figure"] ["beginning", "level"] (defScope s_law_lines) := ⟨rfl, rfl, rfl, by decide +kernel, rfl, by decide +kernel, by decide +kernel⟩
abbrev s_law_level : Stmt := top 41
theorem sc_law_level : FnScope ["cell"] ["cell"] (defScope s_law_level) := ⟨rfl, rfl, rfl, by decide +kernel, rfl, by decide +kernel, by decide +kernel⟩
abbrev s_law_rows : Stmt := top 42
theorem sc_law_rows : FnScope ["script", "first", "level", "rows", "k", "cell", "size", "row", "j"] ["script", "first", "level"] (defScope s_law_rows) := ⟨rfl, rfl, rfl, by decide +kernel, rfl, by decide +kernel, by decide +kernel⟩
abbrev s_law_all : Stmt := top 43
theorem sc_law_all : FnScope ["rows", "level", "lines", "row", "line"] ["rows", "level"] (defScope s_law_all) := ⟨rfl, rfl, rfl, by decide +kernel, rfl, by decide +kernel, by decide +kernel⟩
abbrev s_law_told : Stmt := top 44
theorem sc_law_told : FnScope ["found", "level", "lines", "held", "row", "figure", "heads"] ["found", "level", "lines"] (defScope s_law_told) := ⟨rfl, rfl, rfl, by decide +kernel, rfl, by decide +kernel, by decide +kernel⟩
abbrev s_law_cells : Stmt := top 45
theorem sc_law_cells : FnScope ["found", "lines", "due", "k"] ["found", "lines"] (defScope s_law_cells) := ⟨rfl, rfl, rfl, by decide +kernel, rfl, by decide +kernel, by decide +kernel⟩
abbrev s_law_right : Stmt := top 46
theorem sc_law_right : FnScope ["region", "level", "lines", "many"] ["region", "level", "lines"] (defScope s_law_right) := ⟨rfl, rfl, rfl, by decide +kernel, rfl, by decide +kernel, by decide +kernel⟩
abbrev s_law : Stmt := top 47
theorem sc_law : FnScope ["script", "level", "rows", "cell", "head", "k", "gone", "lines", "handed", "region", "row"] ["script"] (defScope s_law) := ⟨rfl, rfl, rfl, by decide +kernel, rfl, by decide +kernel, by decide +kernel⟩
set_option genInjectivity false in
set_option genSizeOfSpec false in
structure Adr where
  f_added : Addr
  x_added : FuncData
  f_taken : Addr
  x_taken : FuncData
  f_turned : Addr
  x_turned : FuncData
  f_step : Addr
  x_step : FuncData
  f_great : Addr
  x_great : FuncData
  f_rest : Addr
  x_rest : FuncData
  f_place_of_rest : Addr
  x_place_of_rest : FuncData
  f_place_of : Addr
  x_place_of : FuncData
  f_refuse_no_level : Addr
  x_refuse_no_level : FuncData
  f_refuse_no_figures : Addr
  x_refuse_no_figures : FuncData
  f_refuse_too_long : Addr
  x_refuse_too_long : FuncData
  f_one_figure_longer : Addr
  x_one_figure_longer : FuncData
  f_lines_of : Addr
  x_lines_of : FuncData
  f_lines_of_all : Addr
  x_lines_of_all : FuncData
  f_by_heads : Addr
  x_by_heads : FuncData
  f_fewest : Addr
  x_fewest : FuncData
  f_Region_init : Addr
  x_Region_init : FuncData
  f_Region_told : Addr
  x_Region_told : FuncData
  f_Region_many : Addr
  x_Region_many : FuncData
  f_Region_cells : Addr
  x_Region_cells : FuncData
  f_law_cell_at : Addr
  x_law_cell_at : FuncData
  f_law_whole : Addr
  x_law_whole : FuncData
  f_law_place_alike : Addr
  x_law_place_alike : FuncData
  f_law_step : Addr
  x_law_step : FuncData
  f_law_place : Addr
  x_law_place : FuncData
  f_law_lines : Addr
  x_law_lines : FuncData
  f_law_level : Addr
  x_law_level : FuncData
  f_law_rows : Addr
  x_law_rows : FuncData
  f_law_all : Addr
  x_law_all : FuncData
  f_law_told : Addr
  x_law_told : FuncData
  f_law_cells : Addr
  x_law_cells : FuncData
  f_law_right : Addr
  x_law_right : FuncData
  f_law : Addr
  x_law : FuncData
  a_MIDDLE : Addr
  a_FIRST_STEP : Addr
  a_DIRECTIONS : Addr
  a_FIGURES : Addr
  a_FIGURE_BY_REMAINDER : Addr
  a_LEVELS : Addr
  c_NoFigure : Addr
  c_FloorError : Addr
  c_NoCell : Addr
  c_NoLevel : Addr
  c_Region : Addr
structure Txt (K : PySem.W.Frag) (mg : Str → Option Value) (t : Adr) : Prop where
  d_added : Dn K mg "added" "added" s_added t.f_added t.x_added ["one", "other"]
  d_taken : Dn K mg "taken" "taken" s_taken t.f_taken t.x_taken ["one", "other"]
  d_turned : Dn K mg "turned" "turned" s_turned t.f_turned t.x_turned ["place", "sixths"]
  d_step : Dn K mg "step" "step" s_step t.f_step t.x_step ["direction"]
  d_great : Dn K mg "great" "great" s_great t.f_great t.x_great ["place"]
  d_rest : Dn K mg "rest" "rest" s_rest t.f_rest t.x_rest ["place"]
  d_place_of_rest : Dn K mg "place_of_rest" "place_of_rest" s_place_of_rest t.f_place_of_rest t.x_place_of_rest ["figure"]
  d_place_of : Dn K mg "place_of" "place_of" s_place_of t.f_place_of t.x_place_of ["figures"]
  d_refuse_no_level : Dn K mg "refuse_no_level" "refuse_no_level" s_refuse_no_level t.f_refuse_no_level t.x_refuse_no_level ["level"]
  d_refuse_no_figures : Dn K mg "refuse_no_figures" "refuse_no_figures" s_refuse_no_figures t.f_refuse_no_figures t.x_refuse_no_figures ["beginnings"]
  d_refuse_too_long : Dn K mg "refuse_too_long" "refuse_too_long" s_refuse_too_long t.f_refuse_too_long t.x_refuse_too_long ["level", "beginnings"]
  d_one_figure_longer : Dn K mg "one_figure_longer" "one_figure_longer" s_one_figure_longer t.f_one_figure_longer t.x_one_figure_longer ["beginnings"]
  d_lines_of : Dn K mg "lines_of" "lines_of" s_lines_of t.f_lines_of t.x_lines_of ["level", "beginning"]
  d_lines_of_all : Dn K mg "lines_of_all" "lines_of_all" s_lines_of_all t.f_lines_of_all t.x_lines_of_all ["level", "beginnings"]
  d_by_heads : Dn K mg "by_heads" "by_heads" s_by_heads t.f_by_heads t.x_by_heads ["beginnings"]
  d_fewest : Dn K mg "fewest" "fewest" s_fewest t.f_fewest t.x_fewest ["level", "lines"]
  d_Region_init : Dm K t.c_Region "__init__" "Region.__init__" s_Region_init t.f_Region_init t.x_Region_init ["self", "level", "beginnings"]
  d_Region_told : Dm K t.c_Region "told" "Region.told" s_Region_told t.f_Region_told t.x_Region_told ["self"]
  d_Region_many : Dm K t.c_Region "many" "Region.many" s_Region_many t.f_Region_many t.x_Region_many ["self"]
  d_Region_cells : Dm K t.c_Region "cells" "Region.cells" s_Region_cells t.f_Region_cells t.x_Region_cells ["self"]
  d_law_cell_at : Dn K mg "_law_cell_at" "_law_cell_at" s_law_cell_at t.f_law_cell_at t.x_law_cell_at ["script", "k"]
  d_law_whole : Dn K mg "_law_whole" "_law_whole" s_law_whole t.f_law_whole t.x_law_whole ["found"]
  d_law_place_alike : Dn K mg "_law_place_alike" "_law_place_alike" s_law_place_alike t.f_law_place_alike t.x_law_place_alike ["found", "due"]
  d_law_step : Dn K mg "_law_step" "_law_step" s_law_step t.f_law_step t.x_law_step ["figure"]
  d_law_place : Dn K mg "_law_place" "_law_place" s_law_place t.f_law_place t.x_law_place ["figures"]
  d_law_lines : Dn K mg "_law_lines" "_law_lines" s_law_lines t.f_law_lines t.x_law_lines ["beginning", "level"]
  d_law_level : Dn K mg "_law_level" "_law_level" s_law_level t.f_law_level t.x_law_level ["cell"]
  d_law_rows : Dn K mg "_law_rows" "_law_rows" s_law_rows t.f_law_rows t.x_law_rows ["script", "first", "level"]
  d_law_all : Dn K mg "_law_all" "_law_all" s_law_all t.f_law_all t.x_law_all ["rows", "level"]
  d_law_told : Dn K mg "_law_told" "_law_told" s_law_told t.f_law_told t.x_law_told ["found", "level", "lines"]
  d_law_cells : Dn K mg "_law_cells" "_law_cells" s_law_cells t.f_law_cells t.x_law_cells ["found", "lines"]
  d_law_right : Dn K mg "_law_right" "_law_right" s_law_right t.f_law_right t.x_law_right ["region", "level", "lines"]
  d_law : Dn K mg "law" "law" s_law t.f_law t.x_law ["script"]
  g_MIDDLE : mg "MIDDLE" = some (.ref t.a_MIDDLE)
  v_MIDDLE : ∀ H, SqT K H t.a_MIDDLE [.int 0, .int 0]
  g_FIRST_STEP : mg "FIRST_STEP" = some (.ref t.a_FIRST_STEP)
  v_FIRST_STEP : ∀ H, SqT K H t.a_FIRST_STEP [.int 1, .int 0]
  g_DIRECTIONS : mg "DIRECTIONS" = some (.ref t.a_DIRECTIONS)
  v_DIRECTIONS : ∀ H, SqT K H t.a_DIRECTIONS [.int 1, .int 2, .int 3, .int 4, .int 5, .int 6]
  g_FIGURES : mg "FIGURES" = some (.ref t.a_FIGURES)
  v_FIGURES : ∀ H, SqT K H t.a_FIGURES [.int 0, .int 1, .int 2, .int 3, .int 4, .int 5, .int 6]
  g_FIGURE_BY_REMAINDER : mg "FIGURE_BY_REMAINDER" = some (.ref t.a_FIGURE_BY_REMAINDER)
  v_FIGURE_BY_REMAINDER : ∀ H, SqT K H t.a_FIGURE_BY_REMAINDER [.int 0, .int 1, .int 5, .int 6, .int 3, .int 2, .int 4]
  g_LEVELS : mg "LEVELS" = some (.ref t.a_LEVELS)
  v_LEVELS : ∀ H, SqT K H t.a_LEVELS [.int 0, .int 1, .int 2, .int 3, .int 4]
  n_len : mg "len" = none
  n_range : mg "range" = none
  n_tuple : mg "tuple" = none
  n_list : mg "list" = none
  n_max : mg "max" = none
  n_sorted : mg "sorted" = none
  n_isinstance : mg "isinstance" = none
  n_int : mg "int" = none
  n_bool : mg "bool" = none
  n_dict : mg "dict" = none
  m_NoFigure : mg "NoFigure" = some (.ref t.c_NoFigure)
  m_FloorError : mg "FloorError" = some (.ref t.c_FloorError)
  m_NoCell : mg "NoCell" = some (.ref t.c_NoCell)
  m_NoLevel : mg "NoLevel" = some (.ref t.c_NoLevel)
  m_Region : mg "Region" = some (.ref t.c_Region)
  xc_NoLevel : PySem.W.excIn K t.c_NoLevel vmro "ValueError.__new__" = true
  xa_NoLevel : XAt K t.c_NoLevel
  xc_NoFigure : PySem.W.excIn K t.c_NoFigure vmro "ValueError.__new__" = true
  xa_NoFigure : XAt K t.c_NoFigure
  xc_NoCell : PySem.W.excIn K t.c_NoCell vmro "ValueError.__new__" = true
  xa_NoCell : XAt K t.c_NoCell
  k_Region : Mk K t.c_Region t.f_Region_init
  cl_Region : Cls K t.c_Region
  na_Region_level : NoAttr K t.c_Region "level"
  na_Region_lines : NoAttr K t.c_Region "lines"
section
variable {P : Program} {w : World} {K : PySem.W.Frag} {mg : Str → Option Value} {base : Heap} {t : Adr}
theorem txt_ex {P : Adr → Prop} (h : ∃ t, Txt K mg t ∧ P t) : ∃ t, Txt K mg t := let ⟨t, T, _⟩ := h; ⟨t, T⟩
def sp_two (f : Int → Int → Int) (K : PySem.W.Frag) : Sp := fun vs H Q _ => ∃ v u q r q' r', vs = [v, u] ∧ Pl K H v q r ∧ Pl K H u q' r' ∧ ∀ p H', Same H H' → Pl K H' p (f q q') (f r r') → Q p H'

theorem ok_added (T : Txt K mg t) : FnOk P w K mg base CX0 1 t.f_added t.x_added ["one", "other"] (sp_two (· + ·) K) := by
  refine T.d_added.F.ok sc_added (fun vs H Q E h => ?_) (fun cdv A outer s H vs Q E hr h => ?_)
  · obtain ⟨v, u, q, r, q', r', rfl, _⟩ := h; rfl
  · obtain ⟨_, _, q, r, q', r', rfl, ⟨a, rfl, ha⟩, ⟨b, rfl, hb⟩, k⟩ := h
    refine ⟨_, (pss_one (ps_ret (pe_tupN (pa_cons (pe_op op_add (pe_ix ix_tup (pv 0) pe_int (fun _ _ => rfl)) (pe_ix ix_tup (pv 1) pe_int (fun _ _ => rfl))) (pa_cons (pe_op op_add (pe_ix ix_tup (pv 0) pe_int (fun _ _ => rfl)) (pe_ix ix_tup (pv 1) pe_int (fun _ _ => rfl))) pa_nil))))), ?_⟩
    walk_at "rd"
    intro p H' s' _ hp
    exact k _ _ s' ⟨p, rfl, SqT.of hp⟩

def sp_turned (K : PySem.W.Frag) : Sp := fun vs H Q _ => ∃ v n q r, vs = [v, .int n] ∧ Pl K H v q r ∧ ∀ p H', Same H H' → Pl K H' p (tq (n % 6) q r) (tr (n % 6) q r) → Q p H'
theorem ok_turned (T : Txt K mg t) : FnOk P w K mg base CX0 1 t.f_turned t.x_turned ["place", "sixths"] (sp_turned K) := by
  refine T.d_turned.F.ok sc_turned (fun vs H Q E h => ?_) (fun cdv A outer s H vs Q E hr h => ?_)
  · obtain ⟨v, n, q, r, rfl, _⟩ := h; rfl
  · obtain ⟨_, n, q, r, rfl, ⟨a, rfl, ha⟩, k⟩ := h
    refine ⟨_, (pss_cons (ps_set (i := 2) sc_turned.nd rfl (by first | exact Or.inl rfl | exact Or.inr rfl) (pe_tupN (pa_cons (pe_ix ix_tup (pv 0) pe_int (fun _ _ => rfl)) (pa_cons (pe_ix ix_tup (pv 0) pe_int (fun _ _ => rfl)) pa_nil))))
      (pss_cons (ps_for PassesOwn.never rfl (pi_range1 rfl T.n_range (pa_cons (pe_op op_mod (pv 1) pe_int) pa_nil)) (pg_name (i := 3) sc_turned.nd rfl (by first | exact Or.inl rfl | exact Or.inr rfl))
        (pss_one (ps_set (i := 2) sc_turned.nd rfl (by first | exact Or.inl rfl | exact Or.inr rfl) (pe_tupN (pa_cons (pe_un un_neg (pe_ix ix_tup (pv 2) pe_int (fun _ _ => rfl))) (pa_cons (pe_op op_add (pe_ix ix_tup (pv 2) pe_int (fun _ _ => rfl)) (pe_ix ix_tup (pv 2) pe_int (fun _ _ => rfl))) pa_nil))))))
      (pss_one (ps_ret (pv 2))))), ?_⟩
    walk_at "rd"
    intro p H0 s0 _ hp
    walk_at "rd"
    refine for_range (lo := 0) (n := (n % 6).toNat) (fun i σ H' => ∃ p x, σ = [some (.ref a), some (.int n), some (.ref p), x] ∧ Same H H' ∧ SqT K H' p [.int (tq i q r), .int (tr i q r)])
      ⟨p, none, rfl, s0, SqT.of hp⟩ ?_ ?_
    · rintro i σ H' hi ⟨p', x, rfl, s', hp'⟩
      walk_at "rd"
      intro p2 H2 s2 _ hp2
      refine ⟨p2, _, rfl, s'.trans s2, ?_⟩
      have e := tq_step (i := (i : Int)) (by omega) (by omega) q r
      rw [show (((i + 1 : Nat)) : Int) = (i : Int) + 1 by omega, e.1, e.2]
      exact SqT.of hp2
    · rintro σ H' ⟨p', x, rfl, s', hp'⟩
      walk_at "rd"
      refine k _ _ s' ⟨p', rfl, ?_⟩
      rw [show (((n % 6).toNat : Nat) : Int) = n % 6 by omega] at hp'
      exact hp'

def sp_step (K : PySem.W.Frag) : Sp := fun vs H Q _ => ∃ d, vs = [.int d] ∧ 1 ≤ d ∧ d ≤ 6 ∧ ∀ p H', Same H H' → Pl K H' p (tq (d - 1) 1 0) (tr (d - 1) 1 0) → Q p H'
theorem ok_step (T : Txt K mg t) : FnOk P w K mg base CX0 2 t.f_step t.x_step ["direction"] (sp_step K) := by
  have G_turned := ok_turned (P := P) (w := w) (base := base) T
  refine T.d_step.F.ok sc_step (fun vs H Q E h => ?_) (fun cdv A outer s H vs Q E hr h => ?_)
  · obtain ⟨d, rfl, _⟩ := h; rfl
  · obtain ⟨d, rfl, d1, d6, k⟩ := h
    refine ⟨_, (pss_cons (ps_if (pt_cmpR op_notIn_seq (pv 0) (pe_glob (v := .ref t.a_DIRECTIONS) rfl T.g_DIRECTIONS rfl) rfl)
        (pss_one ps_never)
        pss_nil)
      (pss_one (ps_ret (pcall T.d_turned G_turned (hr.mono (by decide)) (pa_cons (pe_glob (v := .ref t.a_FIRST_STEP) rfl T.g_FIRST_STEP rfl) (pa_cons (pe_op op_sub (pv 0) pe_int) pa_nil)))))), ?_⟩
    refine ⟨_, rfl, _, _, rfl, .inr (T.v_DIRECTIONS H), rfl, rfl, _, rfl, ?_⟩
    have hin : inV (V.int d) [.int 1, .int 2, .int 3, .int 4, .int 5, .int 6] = true := by
      have : d = 1 ∨ d = 2 ∨ d = 3 ∨ d = 4 ∨ d = 5 ∨ d = 6 := by omega
      rcases this with rfl | rfl | rfl | rfl | rfl | rfl <;> rfl
    rw [hin]
    refine iteF ?_
    refine ⟨_, rfl, _, _, rfl, rfl, _, d - 1, 1, 0, rfl, ⟨_, rfl, T.v_FIRST_STEP H⟩, fun p H' s' hp => ?_⟩
    rw [show (d - 1) % 6 = d - 1 by omega] at hp
    exact k p H' s' hp

def sp_great (K : PySem.W.Frag) : Sp := fun vs H Q _ => ∃ v q r, vs = [v] ∧ Pl K H v q r ∧ ∀ p H', Same H H' → Pl K H' p (2 * q - r) (q + 3 * r) → Q p H'
theorem ok_great (T : Txt K mg t) : FnOk P w K mg base CX0 1 t.f_great t.x_great ["place"] (sp_great K) := by
  refine T.d_great.F.ok sc_great (fun vs H Q E h => ?_) (fun cdv A outer s H vs Q E hr h => ?_)
  · obtain ⟨v, q, r, rfl, _⟩ := h; rfl
  · obtain ⟨_, q, r, rfl, ⟨a, rfl, ha⟩, k⟩ := h
    refine ⟨_, (pss_one (ps_ret (pe_tupN (pa_cons (pe_op op_sub (pe_op op_mul pe_int (pe_ix ix_tup (pv 0) pe_int (fun _ _ => rfl))) (pe_ix ix_tup (pv 0) pe_int (fun _ _ => rfl))) (pa_cons (pe_op op_add (pe_ix ix_tup (pv 0) pe_int (fun _ _ => rfl)) (pe_op op_mul pe_int (pe_ix ix_tup (pv 0) pe_int (fun _ _ => rfl)))) pa_nil))))), ?_⟩
    walk_at "rd"
    intro p H' s' _ hp
    exact k _ _ s' ⟨p, rfl, SqT.of hp⟩
theorem f_dir {f : Int} (h1 : 1 ≤ f) (h6 : f ≤ 6) : tq (f - 1) 1 0 = fq f ∧ tr (f - 1) 1 0 = fr f := by
  have : f = 1 ∨ f = 2 ∨ f = 3 ∨ f = 4 ∨ f = 5 ∨ f = 6 := by omega
  rcases this with rfl | rfl | rfl | rfl | rfl | rfl <;> exact ⟨by decide, by decide⟩
def sp_porE (K : PySem.W.Frag) (c : Addr) : Sp := fun vs H Q E => ∃ f, vs = [.int f] ∧ (Fig f → ∀ p H', Same H H' → Pl K H' p (fq f) (fr f) → Q p H') ∧ (¬ Fig f → E (.ref c) none H)
theorem okE_place_of_rest (T : Txt K mg t) : FnOk P w K mg base (CXE P w) 3 t.f_place_of_rest t.x_place_of_rest ["figure"] (sp_porE K t.c_NoFigure) := by
  have G_step := ok_step (P := P) (w := w) (base := base) T
  refine T.d_place_of_rest.F.okE sc_place_of_rest (fun vs H Q E h => ?_) (fun cdv A outer s H vs Q E hr h => ?_)
  · obtain ⟨d, rfl, _⟩ := h; rfl
  · obtain ⟨f, rfl, k1, k2⟩ := h
    refine ⟨_, (pss_cons (ps_if (pt_cmpR op_notIn_seq (pv 0) (pe_glob (v := .ref t.a_FIGURES) rfl T.g_FIGURES rfl) rfl)
        (pss_one (ps_raise rfl T.m_NoFigure T.xc_NoFigure raiseE (pa_cons pe_str pa_nil)))
        pss_nil)
      (pss_cons (ps_if (pt_cmpR op_eq (pv 0) pe_int (nomark _))
        (pss_one (ps_ret (pe_glob (v := .ref t.a_MIDDLE) rfl T.g_MIDDLE rfl)))
        pss_nil)
      (pss_one (ps_ret (pcall T.d_step G_step (hr.mono (by decide)) (pa_cons (pv 0) pa_nil)))))), ?_⟩
    refine ⟨_, rfl, _, _, rfl, .inr (T.v_FIGURES H), rfl, rfl, _, rfl, ?_⟩
    by_cases hd : Fig f
    · have hin : inV (V.int f) [.int 0, .int 1, .int 2, .int 3, .int 4, .int 5, .int 6] = true := by
        rcases fig_cases hd with rfl | rfl | rfl | rfl | rfl | rfl | rfl <;> rfl
      rw [hin]
      refine iteF ?_
      refine ⟨_, rfl, rfl, _, rfl, ite2 (fun hz => ?_) (fun hz => ?_)⟩
      · have hz : f = 0 := by simpa using of_decide_eq_true hz
        subst hz
        exact k1 hd _ _ (Same.refl _) ⟨_, rfl, T.v_MIDDLE H⟩
      · have hz : f ≠ 0 := fun e => hz (decide_eq_true (by rw [e]))
        obtain ⟨h0, h6⟩ := hd
        refine ⟨_, rfl, f, rfl, by omega, h6, fun p H' s' hp => ?_⟩
        have e := f_dir (f := f) (by omega) h6
        rw [e.1, e.2] at hp
        exact k1 ⟨h0, h6⟩ p H' s' hp
    · have hin : inV (V.int f) [.int 0, .int 1, .int 2, .int 3, .int 4, .int 5, .int 6] = false := by
        simp only [inV, eqV, List.any_cons, List.any_nil, Bool.or_false, Bool.or_eq_false_iff, beq_eq_false_iff_ne]
        simp only [Fig] at hd
        omega
      rw [hin]
      refine iteT ?_
      exact ⟨(by walk_at "rdc"), k2 hd⟩
theorem ok_place_of_rest (T : Txt K mg t) : FnOk P w K mg base CX0 3 t.f_place_of_rest t.x_place_of_rest ["figure"] (fun vs H Q _ => sp_porE K t.c_NoFigure vs H Q E0) := (okE_place_of_rest (P := P) (w := w) (base := base) T).down

def sp_rlvE (c : Addr) : Sp := fun vs H Q E => ∃ n : Int, vs = [.int n] ∧ (0 ≤ n ∧ n ≤ 4 → Q .non H) ∧ (¬ (0 ≤ n ∧ n ≤ 4) → E (.ref c) none H)
theorem okE_refuse_no_level (T : Txt K mg t) : FnOk P w K mg base (CXE P w) 1 t.f_refuse_no_level t.x_refuse_no_level ["level"] (sp_rlvE t.c_NoLevel) := by
  refine T.d_refuse_no_level.F.okE sc_refuse_no_level (fun vs H Q E h => ?_) (fun cdv A outer s H vs Q E hr h => ?_)
  · obtain ⟨n, rfl, _⟩ := h; rfl
  · obtain ⟨n, rfl, k1, k2⟩ := h
    refine ⟨_, (pss_one (ps_if (pt_cmpR op_notIn_seq (pv 0) (pe_glob (v := .ref t.a_LEVELS) rfl T.g_LEVELS rfl) rfl)
        (pss_one (ps_raise rfl T.m_NoLevel T.xc_NoLevel raiseE (pa_cons pe_str pa_nil)))
        pss_nil)), ?_⟩
    refine ⟨_, rfl, _, _, rfl, .inr (T.v_LEVELS H), rfl, rfl, _, rfl, ?_⟩
    by_cases hd : 0 ≤ n ∧ n ≤ 4
    · have hin : inV (V.int n) [.int 0, .int 1, .int 2, .int 3, .int 4] = true := by
        have : n = 0 ∨ n = 1 ∨ n = 2 ∨ n = 3 ∨ n = 4 := by omega
        rcases this with rfl | rfl | rfl | rfl | rfl <;> rfl
      rw [hin]
      exact iteF (k1 hd)
    · have hin : inV (V.int n) [.int 0, .int 1, .int 2, .int 3, .int 4] = false := by
        simp only [inV, eqV, List.any_cons, List.any_nil, Bool.or_false, Bool.or_eq_false_iff, beq_eq_false_iff_ne]
        omega
      rw [hin]
      exact iteT ⟨(by walk_at "rdc"), k2 hd⟩
def sp_rfgE (K : PySem.W.Frag) (c : Addr) : Sp := fun vs H Q E => ∃ a us xss, vs = [.ref a] ∧ SqL K H a us ∧ RowsV K H us xss ∧ ((∀ xs ∈ xss, ∀ f ∈ xs, Fig f) → Q .non H) ∧ (¬ (∀ xs ∈ xss, ∀ f ∈ xs, Fig f) → E (.ref c) none H)
theorem okE_refuse_no_figures (T : Txt K mg t) : FnOk P w K mg base (CXE P w) 1 t.f_refuse_no_figures t.x_refuse_no_figures ["beginnings"] (sp_rfgE K t.c_NoFigure) := by
  refine T.d_refuse_no_figures.F.okE sc_refuse_no_figures (fun vs H Q E h => ?_) (fun cdv A outer s H vs Q E hr h => ?_)
  · obtain ⟨a, us, xss, rfl, _⟩ := h; rfl
  · obtain ⟨a, us, xss, rfl, ha, hR, k1, k2⟩ := h
    refine ⟨_, (pss_one (ps_for PassesOwn.leaving rfl (pi_list (pv 0)) (pg_name (i := 1) sc_refuse_no_figures.nd rfl (by first | exact Or.inl rfl | exact Or.inr rfl))
        (pss_one (ps_for PassesOwn.leaving rfl (pi_list (pv 1)) (pg_name (i := 2) sc_refuse_no_figures.nd rfl (by first | exact Or.inl rfl | exact Or.inr rfl))
          (pss_one (ps_if (pt_cmpR op_notIn_seq (pv 2) (pe_glob (v := .ref t.a_FIGURES) rfl T.g_FIGURES rfl) rfl)
            (pss_one (ps_raise rfl T.m_NoFigure T.xc_NoFigure raiseE (pa_cons pe_str pa_nil)))
            pss_nil)))))), ?_⟩
    refine ⟨_, rfl, a, rfl, ⟨_, ha⟩, for_list (xs := us) (fun i σ H' => ∃ x y, σ = [some (.ref a), x, y] ∧ H' = H ∧ ∀ xs ∈ xss.take i, ∀ f ∈ xs, Fig f) ⟨_, _, rfl, rfl, fun xs hx => by simp at hx⟩ (fun i σ H' _ ⟨_, _, _, e, _⟩ => by rw [e]; exact ha) ?_ ?_⟩
    · rintro i u σ H1 hu ⟨x, y, rfl, rfl, hs⟩
      obtain ⟨b, xs, rfl, hxs, hb⟩ := hR.get hu
      refine ⟨_, rfl, b, rfl, ⟨_, hb⟩, for_list (xs := List.map V.int xs) (fun j σ H' => ∃ y, σ = [some (.ref a), some (.ref b), y] ∧ H' = H1 ∧ ∀ f ∈ xs.take j, Fig f) ⟨_, rfl, rfl, fun f hf => by simp at hf⟩ (fun j σ H' _ ⟨_, _, e, _⟩ => by rw [e]; exact hb) ?_ ?_⟩
      · rintro j x σ H2 hx ⟨y, rfl, rfl, hf⟩
        rw [List.getElem?_map] at hx
        obtain ⟨f, ef, rfl⟩ := Option.map_eq_some_iff.mp hx
        refine ⟨_, rfl, _, _, rfl, .inr (T.v_FIGURES H2), rfl, rfl, _, rfl, ?_⟩
        by_cases hd : Fig f
        · have hin : inV (V.int f) [.int 0, .int 1, .int 2, .int 3, .int 4, .int 5, .int 6] = true := by
            rcases fig_cases hd with rfl | rfl | rfl | rfl | rfl | rfl | rfl <;> rfl
          rw [hin]
          refine iteF ⟨_, rfl, rfl, ?_⟩
          rw [Rg.take_snoc ef]
          intro g hg
          rcases List.mem_append.mp hg with hg | hg
          · exact hf g hg
          · rw [List.mem_singleton.mp hg]; exact hd
        · have hin : inV (V.int f) [.int 0, .int 1, .int 2, .int 3, .int 4, .int 5, .int 6] = false := by
            simp only [inV, eqV, List.any_cons, List.any_nil, Bool.or_false, Bool.or_eq_false_iff, beq_eq_false_iff_ne]
            simp only [Fig] at hd
            omega
          rw [hin]
          exact iteT ⟨(by walk_at "rdc"), k2 fun z => hd (z xs (List.mem_of_getElem? hxs) f (List.mem_of_getElem? ef))⟩
      · rintro σ H2 ⟨y, rfl, rfl, hf⟩
        rw [List.length_map, List.take_length] at hf
        refine ⟨_, _, rfl, rfl, ?_⟩
        rw [Rg.take_snoc hxs]
        intro zs hz
        rcases List.mem_append.mp hz with hz | hz
        · exact hs zs hz
        · rw [List.mem_singleton.mp hz]; exact hf
    · rintro σ H1 ⟨x, y, rfl, rfl, hs⟩
      rw [hR.len, List.take_length] at hs
      exact k1 hs
def sp_rtlE (K : PySem.W.Frag) (c : Addr) : Sp := fun vs H Q E => ∃ lv a us xss, vs = [.int lv, .ref a] ∧ SqL K H a us ∧ RowsV K H us xss ∧ ((∀ xs ∈ xss, (xs.length : Int) ≤ lv) → Q .non H) ∧ (¬ (∀ xs ∈ xss, (xs.length : Int) ≤ lv) → E (.ref c) none H)
theorem okE_refuse_too_long (T : Txt K mg t) : FnOk P w K mg base (CXE P w) 1 t.f_refuse_too_long t.x_refuse_too_long ["level", "beginnings"] (sp_rtlE K t.c_NoCell) := by
  refine T.d_refuse_too_long.F.okE sc_refuse_too_long (fun vs H Q E h => ?_) (fun cdv A outer s H vs Q E hr h => ?_)
  · obtain ⟨lv, a, us, xss, rfl, _⟩ := h; rfl
  · obtain ⟨lv, a, us, xss, rfl, ha, hR, k1, k2⟩ := h
    refine ⟨_, (pss_one (ps_for PassesOwn.leaving rfl (pi_list (pv 1)) (pg_name (i := 2) sc_refuse_too_long.nd rfl (by first | exact Or.inl rfl | exact Or.inr rfl))
        (pss_one (ps_if (pt_cmpR op_gt (pe_callB call_len_seq (by rfl) T.n_len bb_len (pa_cons (pv 2) pa_nil)) (pv 0) (nomark _))
          (pss_one (ps_raise rfl T.m_NoCell T.xc_NoCell raiseE (pa_cons pe_str pa_nil)))
          pss_nil)))), ?_⟩
    refine ⟨_, rfl, a, rfl, ⟨_, ha⟩, for_list (xs := us) (fun i σ H' => ∃ x, σ = [some (.int lv), some (.ref a), x] ∧ H' = H ∧ ∀ xs ∈ xss.take i, (xs.length : Int) ≤ lv) ⟨_, rfl, rfl, fun xs hx => by simp at hx⟩ (fun i σ H' _ ⟨_, _, e, _⟩ => by rw [e]; exact ha) ?_ ?_⟩
    · rintro i u σ H1 hu ⟨x, rfl, rfl, hs⟩
      obtain ⟨b, xs, rfl, hxs, hb⟩ := hR.get hu
      refine ⟨_, rfl, b, _, rfl, .inl hb, _, rfl, _, _, rfl, rfl, _, rfl, ite2 (fun z => ?_) (fun z => ?_)⟩
      · have z : lv < ((List.map V.int xs).length : Nat) := of_decide_eq_true z
        rw [List.length_map] at z
        exact ⟨(by walk_at "rdc"), k2 fun w => by have := w xs (List.mem_of_getElem? hxs); omega⟩
      · have z : ¬ lv < ((List.map V.int xs).length : Nat) := fun w => z (decide_eq_true w)
        rw [List.length_map] at z
        refine ⟨_, rfl, rfl, ?_⟩
        rw [Rg.take_snoc hxs]
        intro zs hz
        rcases List.mem_append.mp hz with hz | hz
        · exact hs zs hz
        · rw [List.mem_singleton.mp hz]; omega
    · rintro σ H1 ⟨x, rfl, rfl, hs⟩
      rw [hR.len, List.take_length] at hs
      exact k1 hs

theorem longer_snoc (xss : List (List Int)) (x : List Int) : Rg.longer (xss ++ [x]) = Rg.longer xss ++ Rg.figs.map fun f => x ++ [f] := by
  unfold Rg.longer; rw [List.flatMap_append]; simp
def sp_longer : Sp := fun vs H Q _ => ∃ a us xss, vs = [.ref a] ∧ H a = some (.lst us) ∧ Tups H us xss ∧ xss.length ≤ 2401 ∧ (∀ xs ∈ xss, xs.length ≤ 100) ∧ ∀ l ws H', Same H H' → H l = none → H' l = some (.lst ws) → Tups H' ws (Rg.longer xss) → Q (.ref l) H'
theorem ok_one_figure_longer (T : Txt K mg t) : FnOk P w K mg base CX0 1 t.f_one_figure_longer t.x_one_figure_longer ["beginnings"] sp_longer := by
  refine T.d_one_figure_longer.F.ok sc_one_figure_longer (fun vs H Q E h => ?_) (fun cdv A outer s H vs Q E hr h => ?_)
  · obtain ⟨a, us, xss, rfl, _⟩ := h; rfl
  · obtain ⟨a, us, xss, rfl, ha, hT, hle, hlen, k⟩ := h
    refine ⟨_, (pss_cons (ps_set (i := 1) sc_one_figure_longer.nd rfl (by first | exact Or.inl rfl | exact Or.inr rfl) (pe_lstN pa_nil))
      (pss_cons (ps_for PassesOwn.never rfl (pi_list (pv 0)) (pg_name (i := 2) sc_one_figure_longer.nd rfl (by first | exact Or.inl rfl | exact Or.inr rfl))
        (pss_one (ps_for PassesOwn.never rfl (pi_tup (pe_glob (v := .ref t.a_FIGURES) rfl T.g_FIGURES rfl)) (pg_name (i := 3) sc_one_figure_longer.nd rfl (by first | exact Or.inl rfl | exact Or.inr rfl))
          (pss_one (ps_expr (pe_bm PySem.F.plainAttrs_list PySem.F.slot_list_append PySem.F.type_list_append mt_append (pv 1) (pa_cons (pe_op op_catTT (pv 2) (pe_tupN (pa_cons (pv 3) pa_nil))) pa_nil)))))))
      (pss_one (ps_ret (pv 1))))), ?_⟩
    refine ⟨(by walk_at "rdc"), fun l Hl sl nl hl => ?_⟩
    refine ⟨_, rfl, a, rfl, ⟨_, SqL.of (sl _ _ ha)⟩, for_list' (xs := us) (fun i σ H' => ∃ x y ws, σ = [some (.ref a), some (.ref l), x, y] ∧ Same H H' ∧ H' l = some (.lst ws) ∧ Tups H' ws (Rg.longer (xss.take i))) ⟨_, _, [], rfl, sl, hl, .nil⟩ (fun i σ H' _ ⟨_, _, _, _, s', _⟩ => SqL.of (s' _ _ ha)) ?_ ?_⟩
    · rintro i u σ H1 hu ⟨x, y, ws, rfl, s1, h1, t1⟩ D1 hN1 _
      obtain ⟨b, xs, rfl, hxs, hb⟩ := hT.get hu
      have hi : i < xss.length := (List.getElem?_eq_some_iff.mp hxs).1
      have hxl : xs.length ≤ 100 := hlen xs (List.mem_of_getElem? hxs)
      refine ⟨_, rfl, ⟨_, T.v_FIGURES H1⟩, for_tup (xs := [.int 0, .int 1, .int 2, .int 3, .int 4, .int 5, .int 6]) (fun j σ H' => ∃ y ws, σ = [some (.ref a), some (.ref l), some (.ref b), y] ∧ Same H H' ∧ H' l = some (.lst ws) ∧ Tups H' ws (Rg.longer (xss.take i) ++ (Rg.figs.take j).map fun f => xs ++ [f]))
        ⟨_, ws, rfl, s1, h1, by simpa using t1⟩ (fun _ _ H' _ _ => T.v_FIGURES H') ?_ ?_⟩
      · rintro j x σ H2 hx ⟨y, ws, rfl, s2, h2, t2⟩
        obtain ⟨f, rfl, hf⟩ : ∃ f, x = .int f ∧ Rg.figs[j]? = some f := by
          have e : ([.int 0, .int 1, .int 2, .int 3, .int 4, .int 5, .int 6] : List V) = List.map V.int Rg.figs := rfl
          rw [e, List.getElem?_map] at hx
          obtain ⟨f, ef, ex⟩ := Option.map_eq_some_iff.mp hx
          exact ⟨f, ex.symm, ef⟩
        have wl := t2.len
        rw [List.length_append, Rg.len_longer, List.length_map, List.length_take, List.length_take] at wl
        have fl : Rg.figs.length = 7 := rfl
        refine ⟨_, rfl, .inl ⟨rfl, _, SqL.of h2⟩, _, rfl, _, rfl, (by walk_at "rdc"), fun p3 H3 s3 _ h3 => ?_⟩
        refine ⟨b, p3, _, _, rfl, rfl, SqT.of (s3 _ _ (s2 _ _ hb)), h3, by simp, Nat.le_of_lt (small1000 (by simp; omega)), fun p4 H4 s4 h4 => ?_⟩
        have h24 := s4 _ _ (s3 _ _ h2)
        have big : ws.length < sizeLine := Nat.lt_of_le_of_lt (m := 20000) (by omega) (by decide)
        refine ⟨l, ws, _, rfl, rfl, h24, big, ?_⟩
        have h4' : H4 p4 = some (.tup (List.map V.int (xs ++ [f]))) := by rw [List.map_append]; exact h4
        refine ⟨_, ws ++ [.ref p4], rfl, (((s2.trans s3).trans s4).upd nl), upd_same, ?_⟩
        rw [Rg.take_snoc hf, List.map_append, ← List.append_assoc]
        have t4 := (((t2.keep s3).keep s4).snoc h4')
        exact t4.upd (fun ys z => by rw [h24] at z; cases z)
      · rintro σ H2 ⟨y, ws, rfl, s2, h2, t2⟩
        refine hN1 _ _ ⟨_, _, ws, rfl, s2, h2, ?_⟩
        rw [Rg.take_snoc hxs, longer_snoc]
        exact t2
    · rintro σ H1 ⟨x, y, ws, rfl, s1, h1, t1⟩
      rw [hT.len, List.take_length] at t1
      exact ⟨_, rfl, k l ws H1 s1 nl h1 t1⟩
def sp_lines : Sp := fun vs H Q _ => ∃ (lv : Nat) (b : Addr) (xs : List Int), vs = [.int lv, .ref b] ∧ H b = some (.tup (List.map V.int xs)) ∧ lv ≤ 4 ∧ xs.length ≤ lv ∧ ∀ l ws H', Same H H' → H l = none → H' l = some (.lst ws) → Tups H' ws (Rg.lns (lv - xs.length) xs) → Q (.ref l) H'
theorem ok_lines_of (T : Txt K mg t) : FnOk P w K mg base CX0 2 t.f_lines_of t.x_lines_of ["level", "beginning"] sp_lines := by
  have G_one_figure_longer := ok_one_figure_longer (P := P) (w := w) (base := base) T
  refine T.d_lines_of.F.ok sc_lines_of (fun vs H Q E h => ?_) (fun cdv A outer s H vs Q E hr h => ?_)
  · obtain ⟨lv, b, xs, rfl, _⟩ := h; rfl
  · obtain ⟨lv, b, xs, rfl, hb, lv4, hxl, k⟩ := h
    refine ⟨_, (pss_cons (ps_set (i := 2) sc_lines_of.nd rfl (by first | exact Or.inl rfl | exact Or.inr rfl) (pe_lstN (pa_cons (pv 1) pa_nil)))
      (pss_cons (ps_for PassesOwn.never rfl (pi_range1 rfl T.n_range (pa_cons (pe_op op_sub (pv 0) (pe_callB call_len_seq (by rfl) T.n_len bb_len (pa_cons (pv 1) pa_nil))) pa_nil)) (pg_name (i := 3) sc_lines_of.nd rfl (by first | exact Or.inl rfl | exact Or.inr rfl))
        (pss_one (ps_set (i := 2) sc_lines_of.nd rfl (by first | exact Or.inl rfl | exact Or.inr rfl) (pcall T.d_one_figure_longer G_one_figure_longer (hr.mono (by decide)) (pa_cons (pv 2) pa_nil)))))
      (pss_one (ps_ret (pv 2))))), ?_⟩
    refine ⟨_, rfl, (by walk_at "rdc"), fun l Hl sl nl hl => ?_⟩
    refine ⟨_, rfl, _, rfl, b, _, rfl, .inr (SqT.of (sl _ _ hb)), _, _, rfl, rfl, _, rfl, ?_, ?_, ?_⟩
    · rw [List.length_map]; omega
    · rw [List.length_map]; omega
    have en : ((lv : Int) - ((List.map V.int xs).length : Nat)).toNat = lv - xs.length := by rw [List.length_map]; omega
    rw [en]
    refine for_range (lo := 0) (fun i σ H' => ∃ l x ws, σ = [some (.int lv), some (.ref b), some (.ref l), x] ∧ Same H H' ∧ H l = none ∧ H' l = some (.lst ws) ∧ Tups H' ws (Rg.lns i xs)) ⟨l, _, _, rfl, sl, nl, hl, .cons ⟨b, rfl, sl _ _ hb⟩ .nil⟩ ?_ ?_
    · rintro i σ H1 hi ⟨l1, x, ws, rfl, s1, n1, h1, t1⟩
      have hc : (Rg.lns i xs).length ≤ 2401 := by
        rw [Rg.len_lns]
        have : 7 ^ i ≤ 7 ^ 4 := Nat.pow_le_pow_right (by decide) (by omega)
        have e : (7 : Nat) ^ 4 = 2401 := by decide
        omega
      refine ⟨_, rfl, l1, ws, Rg.lns i xs, rfl, h1, t1, hc, fun ys hy => ?_, fun l2 ws2 H2 s2 n2 h2 t2 => ?_⟩
      · have := Rg.lns_len hy; omega
      · exact ⟨l2, _, ws2, rfl, s1.trans s2, s1.free n2, h2, t2⟩
    · rintro σ H1 ⟨l1, x, ws, rfl, s1, n1, h1, t1⟩
      exact ⟨_, rfl, k l1 ws H1 s1 n1 h1 t1⟩
def sp_lall (K : PySem.W.Frag) : Sp := fun vs H Q _ => ∃ (lv : Nat) (a : Addr) (us : List V) (xss : List (List Int)), vs = [.int lv, .ref a] ∧ SqL K H a us ∧ RowsV K H us xss ∧ lv ≤ 4 ∧ (∀ xs ∈ xss, xs.length ≤ lv) ∧ xss.length ≤ 6000 ∧
  ∀ d H', Same H H' → H d = none → H' d = some (.dT (dset (Rg.lall lv xss))) → Q (.ref d) H'
theorem ok_lines_of_all (T : Txt K mg t) : FnOk P w K mg base CX0 3 t.f_lines_of_all t.x_lines_of_all ["level", "beginnings"] (sp_lall K) := by
  have G_lines_of := ok_lines_of (P := P) (w := w) (base := base) T
  refine T.d_lines_of_all.F.ok sc_lines_of_all (fun vs H Q E h => ?_) (fun cdv A outer s H vs Q E hr h => ?_)
  · obtain ⟨lv, a, us, xss, rfl, _⟩ := h; rfl
  · obtain ⟨lv, a, us, xss, rfl, ha, hR, lv4, hle, h6, k⟩ := h
    have hu := hu_of hr
    refine ⟨_, (pss_cons (ps_set (i := 2) sc_lines_of_all.nd rfl (by first | exact Or.inl rfl | exact Or.inr rfl) pe_dnewTN)
      (pss_cons (ps_for PassesOwn.never rfl (pi_list (pv 1)) (pg_name (i := 3) sc_lines_of_all.nd rfl (by first | exact Or.inl rfl | exact Or.inr rfl))
        (pss_one (ps_dput hu (pv 2) (pe_callTy call_tupN (by rfl) T.n_tuple bb_tuple (pa_cons (pv 3) pa_nil)) pe_bl rfl)))
      (pss_cons (ps_set (i := 4) sc_lines_of_all.nd rfl (by first | exact Or.inl rfl | exact Or.inr rfl) pe_dnewTN)
      (pss_cons (PS.thaw (ps_for PassesOwn.never rfl (pi_dict (pv 2)) (pg_name (i := 3) sc_lines_of_all.nd rfl (by first | exact Or.inl rfl | exact Or.inr rfl))
        (pss_one (ps_for PassesOwn.never rfl (pi_list (pcall T.d_lines_of G_lines_of (hr.mono (by decide)) (pa_cons (pv 0) (pa_cons (pv 3) pa_nil)))) (pg_name (i := 5) sc_lines_of_all.nd rfl (by first | exact Or.inl rfl | exact Or.inr rfl))
          (pss_one (ps_dput hu (pv 4) (pv 5) pe_bl rfl))))))
      (pss_one (ps_ret (pv 4))))))), ?_⟩
    intro d0 H0 s0 n0 h0
    refine ⟨_, rfl, a, rfl, ⟨_, s0.seq ha⟩, for_list' (xs := us) (fun i σ H' => ∃ x, σ = [some (.int lv), some (.ref a), some (.ref d0), x, none, none] ∧ Same H H' ∧ H' d0 = some (.dT (dset (Rg.puts [] (xss.take i))))) ⟨_, rfl, s0, h0⟩ (fun i σ H' _ ⟨_, _, s', _⟩ => s'.seq ha) ?_ ?_⟩
    · rintro i u σ H1 hu' ⟨x, rfl, s1, h1⟩ D1 hN1 _
      obtain ⟨b, xs, rfl, hxs, hb⟩ := hR.get hu'
      have hi : i < xss.length := (List.getElem?_eq_some_iff.mp hxs).1
      have pl := Rg.puts_len (xss.take i) []
      rw [List.length_take] at pl
      have big : (dset (Rg.puts [] (xss.take i))).length < sizeLine := by
        rw [dset_len]; exact Nat.lt_of_le_of_lt (m := 6000) (by simp at pl; omega) (by decide)
      refine ⟨_, rfl, _, rfl, b, _, rfl, s1.seq hb, fun p2 H2 s2 _ h2 => ?_⟩
      refine ⟨d0, _, rfl, DPut.t (k := kk xs) (s2 _ _ h1) (by rw [kk_kV]; exact h2) big, ?_⟩
      refine hN1 _ _ ⟨_, rfl, (s1.trans s2).upd n0, ?_⟩
      rw [upd_same, dset_put, Rg.take_snoc hxs, Rg.puts_snoc]
    · rintro σ H1 ⟨x, rfl, s1, h1⟩
      rw [hR.len, List.take_length] at h1
      intro d1 H2 s2 n2 h2
      have h12 := s2 _ _ h1
      have ne01 : d0 ≠ d1 := ne_of_none h1 n2
      have nd1 : H d1 = none := s1.free n2
      generalize hU : Rg.puts [] xss = U at h1 h12
      have hUm : ∀ ys ∈ U, ys ∈ xss := fun ys hy => by
        rw [← hU, Rg.mem_puts] at hy
        simpa using hy
      have hUl : U.length ≤ 6000 := by
        have := Rg.puts_len xss []
        rw [hU] at this
        simp at this
        omega
      refine ⟨_, rfl, d0, _, rfl, h12, fun od nf => ?_⟩
      refine for_dict' (fun i σ H' => ∃ x y, σ = [some (.int lv), some (.ref a), some (.ref d0), x, some (.ref d1), y] ∧ Same H H' ∧ H' d0 = some (.frz od (.dT (dset U))) ∧ H' d1 = some (.dT (dset (Rg.puts [] ((U.take i).flatMap fun xs => Rg.lns (lv - xs.length) xs)))))
        ⟨_, _, rfl, (s1.trans s2).upd n0, upd_same, by rw [upd_ne ne01.symm]; exact h2⟩ (fun i σ H' ⟨_, _, _, _, h, _⟩ => h) ?_ ?_
      · rintro i kx v b σ H3 hk hb ⟨x, y, rfl, s3, h3, h3'⟩ D2 hN2
        obtain ⟨xs, hxs, rfl, rfl⟩ := dset_get hk
        rw [kk_kV] at hb
        have hi : i < U.length := (List.getElem?_eq_some_iff.mp hxs).1
        have hxl : xs.length ≤ lv := hle xs (hUm xs (List.mem_of_getElem? hxs))
        refine ⟨_, rfl, _, rfl, lv, b, xs, rfl, hb, lv4, hxl, fun l ws H4 s4 n4 h4 t4 => ?_⟩
        have al := Rg.puts_len ((U.take i).flatMap fun xs => Rg.lns (lv - xs.length) xs) []
        have fl := Rg.flat_len lv4 (U.take i)
        rw [List.length_take] at fl
        have ll : (Rg.lns (lv - xs.length) xs).length ≤ 2401 := by
          rw [Rg.len_lns]
          have : 7 ^ (lv - xs.length) ≤ 7 ^ 4 := Nat.pow_le_pow_right (by decide) (by omega)
          have e : (7 : Nat) ^ 4 = 2401 := by decide
          omega
        generalize hacc : (U.take i).flatMap (fun xs => Rg.lns (lv - xs.length) xs) = acc at *
        refine ⟨l, rfl, ⟨_, SqL.of h4⟩, for_list' (xs := ws) (fun j σ H' => ∃ y, σ = [some (.int lv), some (.ref a), some (.ref d0), some (.ref b), some (.ref d1), y] ∧ Same H H' ∧ H' d0 = some (.frz od (.dT (dset U))) ∧ H' l = some (.lst ws) ∧ Tups H' ws (Rg.lns (lv - xs.length) xs) ∧
            H' d1 = some (.dT (dset (Rg.puts [] (acc ++ (Rg.lns (lv - xs.length) xs).take j))))) ⟨_, rfl, s3.trans s4, s4 _ _ h3, h4, t4, by simpa using s4 _ _ h3'⟩ (fun j σ H' _ ⟨_, _, _, _, h, _⟩ => SqL.of h) ?_ ?_⟩
        · rintro j u σ H5 hu5 ⟨y, rfl, s5, f5, l5, t5, h5⟩ D3 hN3 _
          obtain ⟨c, ys, rfl, hys, hc⟩ := t5.get hu5
          have hj : j < (Rg.lns (lv - xs.length) xs).length := (List.getElem?_eq_some_iff.mp hys).1
          have al5 := Rg.puts_len (acc ++ (Rg.lns (lv - xs.length) xs).take j) []
          have big : (dset (Rg.puts [] (acc ++ (Rg.lns (lv - xs.length) xs).take j))).length < sizeLine := by
            rw [dset_len]
            rw [List.length_append, List.length_take] at al5
            refine Nat.lt_of_le_of_lt (m := 2401 * 6000) ?_ (by decide)
            simp at al5
            omega
          refine ⟨_, rfl, _, rfl, d1, _, rfl, DPut.t (k := kk ys) h5 (by rw [kk_kV]; exact hc) big, ?_⟩
          have n1 : ∀ b o, H5 b = some o → o ≠ .dT (dset (Rg.puts [] (acc ++ (Rg.lns (lv - xs.length) xs).take j))) → b ≠ d1 := fun b o e z => ne_of e h5 z
          refine hN3 _ _ ⟨_, rfl, s5.upd nd1, ?_, ?_, ?_, ?_⟩
          · rw [upd_ne (n1 _ _ f5 (by intro z; cases z))]; exact f5
          · rw [upd_ne (n1 _ _ l5 (by intro z; cases z))]; exact l5
          · exact t5.upd (fun zs z => by rw [h5] at z; cases z)
          · rw [upd_same, dset_put, Rg.take_snoc hys, ← List.append_assoc, Rg.puts_snoc]
        · rintro σ H5 ⟨y, rfl, s5, f5, l5, t5, h5⟩
          rw [t5.len, List.take_length] at h5
          refine hN2 _ _ ⟨_, _, rfl, s5, f5, ?_⟩
          rw [Rg.take_snoc hxs, List.flatMap_append, hacc]
          simpa using h5
      · rintro σ H3 ⟨x, y, rfl, s3, h3, h3'⟩
        refine ⟨d0, od, _, h3, nf, ?_⟩
        rw [dset_len, List.take_length] at h3'
        refine ⟨_, rfl, k d1 _ (s3.upd n0) nd1 ?_⟩
        rw [upd_ne ne01.symm, h3']
        unfold Rg.lall
        rw [hU]

def RegAt (C : Addr) (H : Hp) (v : V) (lv : Nat) (LL : List (List Int)) : Prop := ∃ x dx d, v = .ref x ∧ H x = some (.ins C dx [("level", .int lv), ("lines", .ref d)]) ∧ H d = some (.dT (dset LL))
theorem RegAt.keep {C : Addr} {H H' : Hp} {v : V} {lv : Nat} {LL : List (List Int)} (s : Same H H') (h : RegAt C H v lv LL) : RegAt C H' v lv LL := let ⟨x, dx, d, e, h1, h2⟩ := h; ⟨x, dx, d, e, s _ _ h1, s _ _ h2⟩
abbrev FigsIn (xss : List (List Int)) : Prop := ∀ xs ∈ xss, ∀ f ∈ xs, Fig f
abbrev ShortIn (lv : Int) (xss : List (List Int)) : Prop := ∀ xs ∈ xss, (xs.length : Int) ≤ lv
def sp_initE (K : PySem.W.Frag) (C cl cf cc : Addr) : Sp := fun vs H Q E => ∃ x dx lv a us xss, vs = [.ref x, .int lv, .ref a] ∧ H x = some (.ins C dx []) ∧ SqL K H a us ∧ RowsV K H us xss ∧ xss.length ≤ 6000 ∧
  ((0 ≤ lv ∧ lv ≤ 4) → FigsIn xss → ShortIn lv xss → ∀ d H', (∀ b o, b ≠ x → H b = some o → H' b = some o) → H d = none → H' x = some (.ins C dx [("level", .int lv), ("lines", .ref d)]) → H' d = some (.dT (dset (Rg.lall lv.toNat xss))) → Q .non H') ∧
  (¬ (0 ≤ lv ∧ lv ≤ 4) → E (.ref cl) none H) ∧ ((0 ≤ lv ∧ lv ≤ 4) → ¬ FigsIn xss → E (.ref cf) none H) ∧ ((0 ≤ lv ∧ lv ≤ 4) → FigsIn xss → ¬ ShortIn lv xss → E (.ref cc) none H)
theorem okE_Region_init (T : Txt K mg t) : FnOk P w K mg base (CXE P w) 4 t.f_Region_init t.x_Region_init ["self", "level", "beginnings"] (sp_initE K t.c_Region t.c_NoLevel t.c_NoFigure t.c_NoCell) := by
  have GE_refuse_no_level := okE_refuse_no_level (P := P) (w := w) (base := base) T
  have GE_refuse_no_figures := okE_refuse_no_figures (P := P) (w := w) (base := base) T
  have GE_refuse_too_long := okE_refuse_too_long (P := P) (w := w) (base := base) T
  have G_lines_of_all := ok_lines_of_all (P := P) (w := w) (base := base) T
  refine T.d_Region_init.F.okE sc_Region_init (fun vs H Q E h => ?_) (fun cdv A outer s H vs Q E hr h => ?_)
  · obtain ⟨x, dx, lv, a, us, xss, rfl, _⟩ := h; rfl
  · obtain ⟨x, dx, lv, a, us, xss, rfl, hx, ha, hR, h6, k1, k2, k3, k4⟩ := h
    refine ⟨_, (pss_cons (ps_expr (pcallE T.d_refuse_no_level GE_refuse_no_level (hr.mono (by decide)) (pa_cons (pv 1) pa_nil)))
      (pss_cons (ps_expr (pcallE T.d_refuse_no_figures GE_refuse_no_figures (hr.mono (by decide)) (pa_cons (pv 2) pa_nil)))
      (pss_cons (ps_expr (pcallE T.d_refuse_too_long GE_refuse_too_long (hr.mono (by decide)) (pa_cons (pv 1) (pa_cons (pv 2) pa_nil))))
      (pss_cons (ps_fld (pv 0) (pv 1) rfl)
      (pss_one (ps_fld (pv 0) (pcall T.d_lines_of_all G_lines_of_all (hr.mono (by decide)) (pa_cons (pv 1) (pa_cons (pv 2) pa_nil))) rfl)))))), ?_⟩
    refine ⟨_, rfl, lv, rfl, fun hl => ?_, fun hl => k2 hl⟩
    refine ⟨_, rfl, a, us, xss, rfl, ha, hR, fun hf => ?_, fun hf => k3 hl hf⟩
    refine ⟨_, rfl, _, rfl, lv, a, us, xss, rfl, ha, hR, fun hs => ?_, fun hs => k4 hl hf hs⟩
    refine ⟨_, rfl, _, rfl, x, t.c_Region, dx, _, rfl, hx, T.cl_Region, T.na_Region_level, (by show 0 < 1000; decide), ?_⟩
    have nl : ∀ ys, ¬ Rd H x (.lst ys) := fun ys z => by
      rcases z with z | ⟨o, z⟩
      · rw [hx] at z; cases z
      · rw [hx] at z; cases z
    have ha1 := ha.upd_ins (o := .ins t.c_Region dx [("level", .int lv)]) nl
    have hR1 := hR.upd_ins (o := .ins t.c_Region dx [("level", .int lv)]) nl
    have elv : V.int lv = V.int ((lv.toNat : Nat) : Int) := by congr 1; omega
    refine ⟨_, rfl, _, rfl, lv.toNat, a, us, xss, by rw [← elv]; rfl, ha1, hR1, by omega, fun xs hx' => by have := hs xs hx'; omega, h6, fun d H2 s2 n2 h2 => ?_⟩
    have hx1 : upd H x (.ins t.c_Region dx [("level", .int lv)]) x = some (.ins t.c_Region dx [("level", .int lv)]) := upd_same
    have hx2 := s2 _ _ hx1
    have n2 : upd H x (.ins t.c_Region dx [("level", .int lv)]) d = none := n2
    have nx : d ≠ x := fun z => by rw [z, hx1] at n2; cases n2
    refine ⟨_, rfl, x, t.c_Region, dx, _, rfl, hx2, T.cl_Region, T.na_Region_lines, (by show 1 < 1000; decide), ?_⟩
    refine k1 hl hf hs d _ (fun b o nb e => ?_) (by rw [upd_ne nx] at n2; exact n2) upd_same (by rw [upd_ne nx]; exact h2)
    rw [upd_ne nb]
    exact s2 b o (by rw [upd_ne nb]; exact e)
theorem ok_Region_init (T : Txt K mg t) : FnOk P w K mg base CX0 4 t.f_Region_init t.x_Region_init ["self", "level", "beginnings"] (fun vs H Q _ => sp_initE K t.c_Region t.c_NoLevel t.c_NoFigure t.c_NoCell vs H Q E0) := (okE_Region_init (P := P) (w := w) (base := base) T).down

def sp_cell (K : PySem.W.Frag) : Sp := fun vs H Q _ => ∃ a ns k, vs = [.ref a, .int k] ∧ SqL K H a (List.map V.int ns) ∧ 0 ≤ k ∧ Q (.int (cl ns k)) H
theorem ok_law_cell_at (T : Txt K mg t) : FnOk P w K mg base CX0 1 t.f_law_cell_at t.x_law_cell_at ["script", "k"] (sp_cell K) := by
  refine T.d_law_cell_at.F.ok sc_law_cell_at (fun vs H Q E h => ?_) (fun cdv A outer s H vs Q E hr h => ?_)
  · obtain ⟨a, ns, k, rfl, _⟩ := h; rfl
  · obtain ⟨a, ns, k, rfl, hS, hk, q⟩ := h
    refine ⟨_, (pss_cons (ps_if (pt_cmpR op_lt (pv 1) (pe_callB call_len_seq (by rfl) T.n_len bb_len (pa_cons (pv 0) pa_nil)) (nomark _))
        (pss_one (ps_ret (pe_ix ix_list (pv 0) (pv 1) (fun _ _ => rfl))))
        pss_nil)
      (pss_one (ps_ret pe_int))), ?_⟩
    refine ⟨_, rfl, _, rfl, a, _, rfl, .inl hS, _, _, rfl, rfl, _, rfl, ?_⟩
    refine ite2 (fun hlt => ?_) (fun hlt => ?_)
    · have hlt : k < ((List.map V.int ns).length : Int) := of_decide_eq_true hlt
      rw [List.length_map] at hlt
      refine ⟨_, rfl, _, rfl, a, _, _, V.int (cl ns k), rfl, rfl, hS, ?_, q⟩
      have e : ns[k.toNat]? = some (cl ns k) := by
        unfold cl
        rw [List.getElem?_eq_getElem (by omega)]; rfl
      have := atI_nat (xs := List.map V.int ns) (j := k.toNat) (v := V.int (cl ns k)) (by rw [List.getElem?_map, e]; rfl)
      rwa [show ((k.toNat : Nat) : Int) = k by omega] at this
    · have hlt : ¬ k < ((List.map V.int ns).length : Int) := fun z => hlt (decide_eq_true z)
      rw [List.length_map] at hlt
      have e : cl ns k = 0 := by
        unfold cl
        rw [List.getElem?_eq_none (by omega)]; rfl
      rw [e] at q
      exact q

def sp_level : Sp := fun vs H Q _ => ∃ c, vs = [.int c] ∧ ∀ (lv : Nat) H', lv ≤ 4 → Same H H' → Q (.int lv) H'
theorem ok_law_level (T : Txt K mg t) : FnOk P w K mg base CX0 1 t.f_law_level t.x_law_level ["cell"] sp_level := by
  refine T.d_law_level.F.ok sc_law_level (fun vs H Q E h => ?_) (fun cdv A outer s H vs Q E hr h => ?_)
  · obtain ⟨c, rfl, _⟩ := h; rfl
  · obtain ⟨c, rfl, k⟩ := h
    refine ⟨_, (pss_cons (ps_if (pt_cmpR op_eq (pe_op op_mod (pv 0) pe_int) pe_int (nomark _))
        (pss_one (ps_ret pe_int))
        pss_nil)
      (pss_cons (ps_if (pt_cmpR op_eq (pe_op op_mod (pv 0) pe_int) pe_int (nomark _))
        (pss_one (ps_ret pe_int))
        pss_nil)
      (pss_one (ps_ret (pe_ix ix_list (pe_lstN (pa_cons pe_int (pa_cons pe_int (pa_cons pe_int (pa_cons pe_int pa_nil))))) (pe_op op_mod (pe_op op_fdiv (pv 0) pe_int) pe_int) (fun _ _ => rfl)))))), ?_⟩
    refine ⟨_, rfl, _, _, rfl, rfl, (by show (0 : Int) < 9; decide), rfl, _, rfl, ite2 (fun _ => k 3 H (by decide) (Same.refl _)) (fun _ => ?_)⟩
    refine ⟨_, rfl, _, _, rfl, rfl, (by show (0 : Int) < 9; decide), rfl, _, rfl, ite2 (fun _ => k 4 H (by decide) (Same.refl _)) (fun _ => ?_)⟩
    refine ⟨(by walk_at "rdc"), fun l H1 s1 n1 h1 => ?_⟩
    have m0 := Int.emod_nonneg (c / 9) (show (4 : Int) ≠ 0 by decide)
    have m4 := Int.emod_lt_of_pos (c / 9) (show (0 : Int) < 4 by decide)
    obtain ⟨lv, hl, hat⟩ : ∃ lv : Nat, lv ≤ 4 ∧ atI [V.int 0, .int 1, .int 2, .int 2] (c / 9 % 4) = some (.int lv) := by
      have : c / 9 % 4 = 0 ∨ c / 9 % 4 = 1 ∨ c / 9 % 4 = 2 ∨ c / 9 % 4 = 3 := by omega
      rcases this with e | e | e | e <;> rw [e]
      · exact ⟨0, by decide, rfl⟩
      · exact ⟨1, by decide, rfl⟩
      · exact ⟨2, by decide, rfl⟩
      · exact ⟨2, by decide, rfl⟩
    refine ⟨_, rfl, _, _, rfl, rfl, ⟨by decide, by decide⟩, _, _, rfl, rfl, (by show (0 : Int) < 4; decide), l, _, _, .int lv, rfl, rfl, SqL.of h1, hat, k lv H1 hl s1⟩

theorem fig_mod (x : Int) : Fig (x % 7) := by
  have h1 := Int.emod_nonneg x (show (7 : Int) ≠ 0 by decide)
  have h2 := Int.emod_lt_of_pos x (show (0 : Int) < 7 by decide)
  exact ⟨h1, by omega⟩
def sp_rows (K : PySem.W.Frag) : Sp := fun vs H Q _ => ∃ a ns first lv, vs = [.ref a, .int first, .int lv] ∧ Ls K H a ns ∧ 0 ≤ first ∧ 0 ≤ lv ∧ lv ≤ 4 ∧ ∀ l us xss H', Same H H' → H l = none → H' l = some (.lst us) → HRows H' us xss → (∀ u ∈ us, u ≠ .ref l) → FigsIn xss → ShortIn lv xss → xss.length ≤ 8 → Q (.ref l) H'
theorem ok_law_rows (T : Txt K mg t) : FnOk P w K mg base CX0 2 t.f_law_rows t.x_law_rows ["script", "first", "level"] (sp_rows K) := by
  have G_law_cell_at := ok_law_cell_at (P := P) (w := w) (base := base) T
  refine T.d_law_rows.F.ok sc_law_rows (fun vs H Q E h => ?_) (fun cdv A outer s H vs Q E hr h => ?_)
  · obtain ⟨a, ns, first, lv, rfl, _⟩ := h; rfl
  · obtain ⟨a, ns, first, lv, rfl, ha, f0, l0, l4, k⟩ := h
    refine ⟨_, (pss_cons (ps_set (i := 3) sc_law_rows.nd rfl (by first | exact Or.inl rfl | exact Or.inr rfl) (pe_lstN pa_nil))
      (pss_cons (ps_for PassesOwn.never rfl (pi_range1 rfl T.n_range (pa_cons (pe_op op_mod (pcall T.d_law_cell_at G_law_cell_at (hr.mono (by decide)) (pa_cons (pv 0) (pa_cons (pv 1) pa_nil))) pe_int) pa_nil)) (pg_name (i := 4) sc_law_rows.nd rfl (by first | exact Or.inl rfl | exact Or.inr rfl))
        (pss_cons (ps_set (i := 5) sc_law_rows.nd rfl (by first | exact Or.inl rfl | exact Or.inr rfl) (pcall T.d_law_cell_at G_law_cell_at (hr.mono (by decide)) (pa_cons (pv 0) (pa_cons (pe_op op_add (pe_op op_add (pv 1) pe_int) (pv 4)) pa_nil))))
        (pss_cons (ps_set (i := 6) sc_law_rows.nd rfl (by first | exact Or.inl rfl | exact Or.inr rfl) (pe_callB (call_max2 rfl) (by rfl) T.n_max bb_max (pa_cons pe_int (pa_cons (pe_op op_sub (pv 2) (pe_op op_mul (pe_op op_mod (pv 5) pe_int) (pe_op op_mod (pe_op op_fdiv (pv 5) pe_int) pe_int))) pa_nil))))
        (pss_cons (ps_set (i := 7) sc_law_rows.nd rfl (by first | exact Or.inl rfl | exact Or.inr rfl) (pe_lstN pa_nil))
        (pss_cons (ps_set (i := 5) sc_law_rows.nd rfl (by first | exact Or.inl rfl | exact Or.inr rfl) (pe_op op_fdiv (pv 5) pe_int))
        (pss_cons (ps_for PassesOwn.never rfl (pi_range1 rfl T.n_range (pa_cons (pv 6) pa_nil)) (pg_name (i := 8) sc_law_rows.nd rfl (by first | exact Or.inl rfl | exact Or.inr rfl))
          (pss_cons (ps_expr (pe_bm PySem.F.plainAttrs_list PySem.F.slot_list_append PySem.F.type_list_append mt_append (pv 7) (pa_cons (pe_op op_mod (pv 5) pe_int) pa_nil)))
          (pss_one (ps_set (i := 5) sc_law_rows.nd rfl (by first | exact Or.inl rfl | exact Or.inr rfl) (pe_op op_fdiv (pv 5) pe_int)))))
        (pss_one (ps_expr (pe_bm PySem.F.plainAttrs_list PySem.F.slot_list_append PySem.F.type_list_append mt_append (pv 3) (pa_cons (pv 7) pa_nil))))))))))
      (pss_one (ps_ret (pv 3))))), ?_⟩
    have c9 := Int.emod_lt_of_pos (cl ns first) (show (0 : Int) < 9 by decide)
    have c9' := Int.emod_nonneg (cl ns first) (show (9 : Int) ≠ 0 by decide)
    refine ⟨(by walk_at "rdc"), fun l Hl sl nl hl => ?_⟩
    refine ⟨_, rfl, _, rfl, a, ns, first, rfl, sl.seq ha, f0, _, _, rfl, rfl, (by show (0 : Int) < 9; decide), _, rfl, by omega, by omega, ?_⟩
    refine for_range' (lo := 0) (fun i σ H' => ∃ x1 x2 x3 x4 x5 us xss, σ = [some (.ref a), some (.int first), some (.int lv), some (.ref l), x1, x2, x3, x4, x5] ∧ Same H H' ∧ H' l = some (.lst us) ∧ HRows H' us xss ∧ (∀ u ∈ us, u ≠ .ref l) ∧ FigsIn xss ∧ ShortIn lv xss ∧ xss.length = i)
      ⟨_, _, _, _, _, [], [], rfl, sl, hl, .nil, by simp, fun xs hx => by simp at hx, fun xs hx => by simp at hx, rfl⟩ ?_ ?_
    · rintro i σ H1 hi ⟨x1, x2, x3, x4, x5, us, xss, rfl, s1, h1, r1, nl1, fg, sh, le⟩ D1 hN1
      refine ⟨_, rfl, _, rfl, _, _, rfl, rfl, _, rfl, _, _, rfl, rfl, a, ns, _, rfl, s1.seq ha, by omega, ?_⟩
      generalize hc : cl ns (first + 1 + (0 + (i : Int))) = c
      have m3 := Int.emod_lt_of_pos c (show (0 : Int) < 3 by decide)
      have m3' := Int.emod_nonneg c (show (3 : Int) ≠ 0 by decide)
      have m2 := Int.emod_lt_of_pos (c / 3) (show (0 : Int) < 2 by decide)
      have m2' := Int.emod_nonneg (c / 3) (show (2 : Int) ≠ 0 by decide)
      have pr0 : 0 ≤ c % 3 * (c / 3 % 2) := Int.mul_nonneg m3' m2'
      refine ⟨_, rfl, _, rfl, _, _, rfl, rfl, (by show (0 : Int) < 3; decide), _, rfl, _, _, rfl, rfl, ⟨by decide, by decide⟩, _, _, rfl, rfl, (by show (0 : Int) < 2; decide), _, _, rfl, rfl, .inl ⟨by omega, by omega⟩, _, _, rfl, rfl, _, _, rfl, ?_⟩
      generalize hsz : (if lv - c % 3 * (c / 3 % 2) > 0 then lv - c % 3 * (c / 3 % 2) else 0) = sz
      have sz0 : 0 ≤ sz ∧ sz ≤ lv := by
        rw [← hsz]
        split <;> omega
      refine ⟨(by walk_at "rdc"), fun p H2 s2 np hp => ?_⟩
      refine ⟨_, rfl, _, _, rfl, rfl, ⟨by decide, by decide⟩, ?_⟩
      refine ⟨_, rfl, _, rfl, by omega, by omega, ?_⟩
      refine for_range' (lo := 0) (fun j σ H' => ∃ x5 c zs, σ = [some (.ref a), some (.int first), some (.int lv), some (.ref l), some (.int (0 + (i : Int))), some (.int c), some (.int sz), some (.ref p), x5] ∧ Same H1 H' ∧ H' p = some (.lst (List.map V.int zs)) ∧ (∀ f ∈ zs, Fig f) ∧ zs.length = j)
        ⟨_, _, [], rfl, s2, hp, fun f hf => by simp at hf, rfl⟩ ?_ ?_
      · rintro j σ H3 hj ⟨x5, c, zs, rfl, s3, h3, fz, lz⟩ D2 hN2
        refine ⟨_, rfl, .inl ⟨rfl, _, SqL.of h3⟩, _, rfl, _, _, rfl, rfl, (by show (0 : Int) < 7; decide), p, _, _, rfl, rfl, h3, small1000 (by simp; omega), ?_⟩
        refine ⟨_, rfl, _, _, rfl, rfl, ⟨by decide, by decide⟩, ?_⟩
        refine hN2 _ _ ⟨_, _, zs ++ [_], rfl, s3.upd np, by rw [upd_same, List.map_append]; rfl, fun f hf => ?_, by simp [lz]⟩
        rcases List.mem_append.mp hf with hf | hf
        · exact fz f hf
        · rw [List.mem_singleton.mp hf]; exact fig_mod _
      · rintro σ H3 ⟨x5, c, zs, rfl, s3, h3, fz, lz⟩
        have h13 := s3 _ _ h1
        have pl : p ≠ l := (ne_of_none h1 np).symm
        have ul := r1.len
        refine ⟨_, rfl, .inl ⟨rfl, _, SqL.of h13⟩, _, rfl, l, us, _, rfl, rfl, h13, small1000 (by omega), ?_⟩
        have nl' : ∀ u ∈ us ++ [V.ref p], u ≠ .ref l := fun u hu => by
          rcases List.mem_append.mp hu with hu | hu
          · exact nl1 u hu
          · rw [List.mem_singleton.mp hu]
            exact fun z => pl (by injection z)
        refine hN1 _ _ ⟨_, _, _, _, _, us ++ [.ref p], xss ++ [zs], rfl, (s1.trans s3).upd nl, upd_same, HRows.upd nl' ((r1.keep s3).snoc h3), nl', ?_, ?_, by simp [le]⟩
        · intro xs hx
          rcases List.mem_append.mp hx with hx | hx
          · exact fg xs hx
          · rw [List.mem_singleton.mp hx]; exact fz
        · intro xs hx
          rcases List.mem_append.mp hx with hx | hx
          · exact sh xs hx
          · rw [List.mem_singleton.mp hx]; omega
    · rintro σ H1 ⟨x1, x2, x3, x4, x5, us, xss, rfl, s1, h1, r1, nl1, fg, sh, le⟩
      exact ⟨_, rfl, k l us xss H1 s1 nl h1 r1 nl1 fg sh (by omega)⟩

def sp_llines (K : PySem.W.Frag) : Sp := fun vs H Q _ => ∃ (lv : Nat) (b : Addr) (xs : List Int), vs = [.ref b, .int lv] ∧ Ls K H b xs ∧ lv ≤ 4 ∧ xs.length ≤ lv ∧ ∀ l ws H', Same H H' → H l = none → H' l = some (.lst ws) → Tups H' ws (Rg.lns (lv - xs.length) xs) → Q (.ref l) H'
theorem ok_law_lines (T : Txt K mg t) : FnOk P w K mg base CX0 1 t.f_law_lines t.x_law_lines ["beginning", "level"] (sp_llines K) := by
  refine T.d_law_lines.F.ok sc_law_lines (fun vs H Q E h => ?_) (fun cdv A outer s H vs Q E hr h => ?_)
  · obtain ⟨lv, b, xs, rfl, _⟩ := h; rfl
  · obtain ⟨lv, b, xs, rfl, hb, lv4, hxl, k⟩ := h
    refine ⟨_, (pss_cons (ps_set (i := 2) sc_law_lines.nd rfl (by first | exact Or.inl rfl | exact Or.inr rfl) (pe_lstN (pa_cons (pe_callTy call_tupN (by rfl) T.n_tuple bb_tuple (pa_cons (pv 0) pa_nil)) pa_nil)))
      (pss_cons (ps_for PassesOwn.never rfl (pi_range1 rfl T.n_range (pa_cons (pe_op op_sub (pv 1) (pe_callB call_len_seq (by rfl) T.n_len bb_len (pa_cons (pv 0) pa_nil))) pa_nil)) (pg_name (i := 3) sc_law_lines.nd rfl (by first | exact Or.inl rfl | exact Or.inr rfl))
        (pss_cons (ps_set (i := 4) sc_law_lines.nd rfl (by first | exact Or.inl rfl | exact Or.inr rfl) (pe_lstN pa_nil))
        (pss_cons (ps_for PassesOwn.never rfl (pi_list (pv 2)) (pg_name (i := 5) sc_law_lines.nd rfl (by first | exact Or.inl rfl | exact Or.inr rfl))
          (pss_one (ps_for PassesOwn.never rfl (pi_range1 rfl T.n_range (pa_cons pe_int pa_nil)) (pg_name (i := 6) sc_law_lines.nd rfl (by first | exact Or.inl rfl | exact Or.inr rfl))
            (pss_one (ps_expr (pe_bm PySem.F.plainAttrs_list PySem.F.slot_list_append PySem.F.type_list_append mt_append (pv 4) (pa_cons (pe_op op_catTT (pv 5) (pe_tupN (pa_cons (pv 6) pa_nil))) pa_nil)))))))
        (pss_one (ps_set (i := 2) sc_law_lines.nd rfl (by first | exact Or.inl rfl | exact Or.inr rfl) (pv 4))))))
      (pss_one (ps_ret (pv 2))))), ?_⟩
    refine ⟨_, rfl, b, _, rfl, hb, fun p H0 s0 n0 h0 => ⟨(by walk_at "rdc"), fun l Hl sl nl hl => ?_⟩⟩
    have sl0 := s0.trans sl
    refine ⟨_, rfl, _, rfl, b, _, rfl, .inl (sl0.seq hb), _, _, rfl, rfl, _, rfl, ?_, ?_, ?_⟩
    · rw [List.length_map]; omega
    · rw [List.length_map]; omega
    have en : ((lv : Int) - ((List.map V.int xs).length : Nat)).toNat = lv - xs.length := by rw [List.length_map]; omega
    rw [en]
    refine for_range' (lo := 0) (fun i σ H' => ∃ l x y z u ws, σ = [some (.ref b), some (.int lv), some (.ref l), x, y, z, u] ∧ Same H H' ∧ H l = none ∧ H' l = some (.lst ws) ∧ Tups H' ws (Rg.lns i xs)) ⟨l, _, _, _, _, _, rfl, sl0, s0.free nl, hl, .cons ⟨p, rfl, sl _ _ h0⟩ .nil⟩ ?_ ?_
    · rintro i σ H1 hi ⟨l1, x, y, z, u, ws, rfl, s1, n1, h1, t1⟩ D1 hN1
      have hc : (Rg.lns i xs).length ≤ 2401 := by
        rw [Rg.len_lns]
        have : 7 ^ i ≤ 7 ^ 4 := Nat.pow_le_pow_right (by decide) (by omega)
        have e : (7 : Nat) ^ 4 = 2401 := by decide
        omega
      have hlen : ∀ ys ∈ Rg.lns i xs, ys.length ≤ 100 := fun ys hy => by have := Rg.lns_len hy; omega
      generalize hX : Rg.lns i xs = X at *
      refine ⟨(by walk_at "rdc"), fun lf H2 s2 n2 h2 => ?_⟩
      refine ⟨_, rfl, l1, rfl, ⟨_, SqL.of (s2 _ _ h1)⟩, for_list' (xs := ws) (fun j σ H' => ∃ z u fs, σ = [some (.ref b), some (.int lv), some (.ref l1), some (.int (0 + (i : Int))), some (.ref lf), z, u] ∧ Same H1 H' ∧ H' lf = some (.lst fs) ∧ Tups H' fs (Rg.longer (X.take j)))
        ⟨_, _, [], rfl, s2, h2, .nil⟩ (fun j σ H' _ ⟨_, _, _, _, s', _⟩ => SqL.of (s' _ _ h1)) ?_ ?_⟩
      · rintro j uu σ H3 hu ⟨z, u, fs, rfl, s3, h3, t3⟩ D2 hN2 _
        obtain ⟨c, ys, rfl, hys, hcy⟩ := t1.get hu
        have hj : j < X.length := (List.getElem?_eq_some_iff.mp hys).1
        have hyl := hlen ys (List.mem_of_getElem? hys)
        refine ⟨_, rfl, (by show (-(2 ^ 62) : Int) ≤ 7; decide), (by show (7 : Int) < 2 ^ 62; decide), ?_⟩
        refine for_range' (lo := 0) (n := 7) (fun f σ H' => ∃ u fs, σ = [some (.ref b), some (.int lv), some (.ref l1), some (.int (0 + (i : Int))), some (.ref lf), some (.ref c), u] ∧ Same H1 H' ∧ H' lf = some (.lst fs) ∧ Tups H' fs (Rg.longer (X.take j) ++ (Rg.figs.take f).map fun g => ys ++ [g]))
          ⟨_, fs, rfl, s3, h3, by simpa using t3⟩ ?_ ?_
        · rintro f σ H4 hf ⟨u, fs, rfl, s4, h4, t4⟩ D3 hN3
          have hff : Rg.figs[f]? = some (0 + (f : Int)) := by
            have : f = 0 ∨ f = 1 ∨ f = 2 ∨ f = 3 ∨ f = 4 ∨ f = 5 ∨ f = 6 := by omega
            rcases this with rfl | rfl | rfl | rfl | rfl | rfl | rfl <;> rfl
          have wl := t4.len
          rw [List.length_append, Rg.len_longer, List.length_map, List.length_take, List.length_take] at wl
          have fl : Rg.figs.length = 7 := rfl
          refine ⟨_, rfl, .inl ⟨rfl, _, SqL.of h4⟩, _, rfl, _, rfl, (by walk_at "rdc"), fun p3 H5 s5 _ h5 => ?_⟩
          refine ⟨c, p3, _, _, rfl, rfl, SqT.of (s5 _ _ (s4 _ _ hcy)), h5, by simp, Nat.le_of_lt (small1000 (by simp; omega)), fun p4 H6 s6 h6 => ?_⟩
          have h46 := s6 _ _ (s5 _ _ h4)
          have big : fs.length < sizeLine := Nat.lt_of_le_of_lt (m := 20000) (by omega) (by decide)
          refine ⟨lf, fs, _, rfl, rfl, h46, big, ?_⟩
          have h6' : H6 p4 = some (.tup (List.map V.int (ys ++ [0 + (f : Int)]))) := by rw [List.map_append]; exact h6
          refine hN3 _ _ ⟨_, fs ++ [.ref p4], rfl, ((s4.trans s5).trans s6).upd n2, upd_same, ?_⟩
          rw [Rg.take_snoc hff, List.map_append, ← List.append_assoc]
          exact ((((t4.keep s5).keep s6).snoc h6')).upd (fun ys z => by rw [h46] at z; cases z)
        · rintro σ H4 ⟨u, fs, rfl, s4, h4, t4⟩
          refine hN2 _ _ ⟨_, _, fs, rfl, s4, h4, ?_⟩
          rw [Rg.take_snoc hys, longer_snoc]
          exact t4
      · rintro σ H3 ⟨z, u, fs, rfl, s3, h3, t3⟩
        rw [t1.len, List.take_length] at t3
        refine ⟨_, rfl, hN1 _ _ ⟨lf, _, _, _, _, fs, rfl, s1.trans s3, s1.free n2, h3, ?_⟩⟩
        show Tups H3 fs (Rg.longer (Rg.lns i xs))
        rw [hX]; exact t3
    · rintro σ H1 ⟨l1, x, y, z, u, ws, rfl, s1, n1, h1, t1⟩
      exact ⟨_, rfl, k l1 ws H1 s1 n1 h1 t1⟩
def lawLines (lv : Nat) (xss : List (List Int)) : List (List Int) := Rg.puts [] (xss.flatMap fun xs => Rg.lns (lv - xs.length) xs)
theorem mem_lawLines {lv : Nat} {xss : List (List Int)} {ys : List Int} : ys ∈ lawLines lv xss ↔ ys ∈ Rg.lall lv xss := by
  unfold lawLines
  rw [Rg.mem_puts, Rg.mem_lall, List.mem_flatMap]
  simp
def sp_lawall (K : PySem.W.Frag) : Sp := fun vs H Q _ => ∃ (lv : Nat) (a : Addr) (us : List V) (xss : List (List Int)), vs = [.ref a, .int lv] ∧ SqL K H a us ∧ RowsV K H us xss ∧ lv ≤ 4 ∧ (∀ xs ∈ xss, xs.length ≤ lv) ∧ xss.length ≤ 1000 ∧
  ∀ d H', Same H H' → H d = none → H' d = some (.dT (dset (lawLines lv xss))) → Q (.ref d) H'
theorem ok_law_all (T : Txt K mg t) : FnOk P w K mg base CX0 2 t.f_law_all t.x_law_all ["rows", "level"] (sp_lawall K) := by
  have G_law_lines := ok_law_lines (P := P) (w := w) (base := base) T
  refine T.d_law_all.F.ok sc_law_all (fun vs H Q E h => ?_) (fun cdv A outer s H vs Q E hr h => ?_)
  · obtain ⟨lv, a, us, xss, rfl, _⟩ := h; rfl
  · obtain ⟨lv, a, us, xss, rfl, ha, hR, lv4, hle, h6, k⟩ := h
    have hu := hu_of hr
    refine ⟨_, (pss_cons (ps_set (i := 2) sc_law_all.nd rfl (by first | exact Or.inl rfl | exact Or.inr rfl) pe_dnewTN)
      (pss_cons (ps_for PassesOwn.never rfl (pi_list (pv 0)) (pg_name (i := 3) sc_law_all.nd rfl (by first | exact Or.inl rfl | exact Or.inr rfl))
        (pss_one (ps_for PassesOwn.never rfl (pi_list (pcall T.d_law_lines G_law_lines (hr.mono (by decide)) (pa_cons (pv 3) (pa_cons (pv 1) pa_nil)))) (pg_name (i := 4) sc_law_all.nd rfl (by first | exact Or.inl rfl | exact Or.inr rfl))
          (pss_one (ps_dput hu (pv 2) (pv 4) pe_bl rfl)))))
      (pss_one (ps_ret (pv 2))))), ?_⟩
    intro d1 H2 s2 n2 h2
    refine ⟨_, rfl, a, rfl, ⟨_, s2.seq ha⟩, for_list' (xs := us) (fun i σ H' => ∃ x y, σ = [some (.ref a), some (.int lv), some (.ref d1), x, y] ∧ Same H H' ∧ H' d1 = some (.dT (dset (Rg.puts [] ((xss.take i).flatMap fun xs => Rg.lns (lv - xs.length) xs)))))
      ⟨_, _, rfl, s2, h2⟩ (fun i σ H' _ ⟨_, _, _, s', _⟩ => s'.seq ha) ?_ ?_⟩
    · rintro i u σ H3 hu' ⟨x, y, rfl, s3, h3'⟩ D1 hN1 _
      obtain ⟨b, xs, rfl, hxs, hb⟩ := hR.get hu'
      have hi : i < xss.length := (List.getElem?_eq_some_iff.mp hxs).1
      have hxl : xs.length ≤ lv := hle xs (List.mem_of_getElem? hxs)
      refine ⟨_, rfl, _, rfl, lv, b, xs, rfl, s3.seq hb, lv4, hxl, fun l ws H4 s4 n4 h4 t4 => ?_⟩
      have al := Rg.puts_len ((xss.take i).flatMap fun xs => Rg.lns (lv - xs.length) xs) []
      have fl := Rg.flat_len lv4 (xss.take i)
      rw [List.length_take] at fl
      have ll : (Rg.lns (lv - xs.length) xs).length ≤ 2401 := by
        rw [Rg.len_lns]
        have : 7 ^ (lv - xs.length) ≤ 7 ^ 4 := Nat.pow_le_pow_right (by decide) (by omega)
        have e : (7 : Nat) ^ 4 = 2401 := by decide
        omega
      generalize hacc : (xss.take i).flatMap (fun xs => Rg.lns (lv - xs.length) xs) = acc at *
      refine ⟨l, rfl, ⟨_, SqL.of h4⟩, for_list' (xs := ws) (fun j σ H' => ∃ y, σ = [some (.ref a), some (.int lv), some (.ref d1), some (.ref b), y] ∧ Same H H' ∧ H' l = some (.lst ws) ∧ Tups H' ws (Rg.lns (lv - xs.length) xs) ∧
          H' d1 = some (.dT (dset (Rg.puts [] (acc ++ (Rg.lns (lv - xs.length) xs).take j))))) ⟨_, rfl, s3.trans s4, h4, t4, by simpa using s4 _ _ h3'⟩ (fun j σ H' _ ⟨_, _, _, h, _⟩ => SqL.of h) ?_ ?_⟩
      · rintro j u σ H5 hu5 ⟨y, rfl, s5, l5, t5, h5⟩ D2 hN2 _
        obtain ⟨c, ys, rfl, hys, hc⟩ := t5.get hu5
        have hj : j < (Rg.lns (lv - xs.length) xs).length := (List.getElem?_eq_some_iff.mp hys).1
        have al5 := Rg.puts_len (acc ++ (Rg.lns (lv - xs.length) xs).take j) []
        have big : (dset (Rg.puts [] (acc ++ (Rg.lns (lv - xs.length) xs).take j))).length < sizeLine := by
          rw [dset_len]
          rw [List.length_append, List.length_take, List.length_nil] at al5
          refine Nat.lt_of_le_of_lt (m := 2401 * 1000) ?_ (by decide)
          omega
        refine ⟨_, rfl, _, rfl, d1, _, rfl, DPut.t (k := kk ys) h5 (by rw [kk_kV]; exact hc) big, ?_⟩
        have n1 : ∀ b o, H5 b = some o → o ≠ .dT (dset (Rg.puts [] (acc ++ (Rg.lns (lv - xs.length) xs).take j))) → b ≠ d1 := fun b o e z => ne_of e h5 z
        refine hN2 _ _ ⟨_, rfl, s5.upd n2, ?_, ?_, ?_⟩
        · rw [upd_ne (n1 _ _ l5 (by intro z; cases z))]; exact l5
        · exact t5.upd (fun zs z => by rw [h5] at z; cases z)
        · rw [upd_same, dset_put, Rg.take_snoc hys, ← List.append_assoc, Rg.puts_snoc]
      · rintro σ H5 ⟨y, rfl, s5, l5, t5, h5⟩
        rw [t5.len, List.take_length] at h5
        refine hN1 _ _ ⟨_, _, rfl, s5, ?_⟩
        rw [Rg.take_snoc hxs, List.flatMap_append, hacc]
        simpa using h5
    · rintro σ H3 ⟨x, y, rfl, s3, h3'⟩
      rw [hR.len, List.take_length] at h3'
      exact ⟨_, rfl, k d1 _ s3 n2 h3'⟩

--CUT
theorem last_ix {n : Nat} (hl : 0 < n) : HT.sIx n n (some (-1)) = n - 1 := by
  show (if (-1 : Int) < 0 then ((-1 : Int) + (n : Int)).toNat else min (-1 : Int).toNat n) = n - 1
  rw [if_pos (by decide)]
  omega
theorem cut_last (xs : List Int) (hn : xs ≠ []) : cutV (List.map V.int xs) none (some (-1)) = List.map V.int xs.dropLast := by
  have hl : 0 < xs.length := List.length_pos_iff.mpr hn
  unfold cutV
  rw [HT.sIx_none, List.length_map, last_ix hl, List.drop_zero, Nat.sub_zero, ← List.map_take, List.dropLast_eq_take]
def sp_heads : Sp := fun vs H Q _ => ∃ a us bs, vs = [.ref a] ∧ H a = some (.lst us) ∧ Tups H us bs ∧ bs.length ≤ 2401 ∧ (∀ b ∈ bs, b ≠ []) ∧ ∀ d g H', Same H H' → H d = none → HD H' d g bs → (∀ h ∈ Rg.headsOf bs, H (g h) = none) → Q (.ref d) H'
theorem ok_by_heads (T : Txt K mg t) : FnOk P w K mg base CX0 1 t.f_by_heads t.x_by_heads ["beginnings"] sp_heads := by
  refine T.d_by_heads.F.ok sc_by_heads (fun vs H Q E h => ?_) (fun cdv A outer s H vs Q E hr h => ?_)
  · obtain ⟨a, us, bs, rfl, _⟩ := h; rfl
  · obtain ⟨a, us, bs, rfl, ha, tb, bl, bn, k⟩ := h
    have hu := hu_of hr
    refine ⟨_, (pss_cons (ps_set (i := 1) sc_by_heads.nd rfl (by first | exact Or.inl rfl | exact Or.inr rfl) pe_dnewTN)
      (pss_cons (ps_for PassesOwn.never rfl (pi_list (pv 0)) (pg_name (i := 2) sc_by_heads.nd rfl (by first | exact Or.inl rfl | exact Or.inr rfl))
        (pss_one (ps_expr (pe_bm PySem.F.plainAttrs_list PySem.F.slot_list_append PySem.F.type_list_append mt_append (pe_setdef hu (pv 1) (pe_slice sl_tupN (pv 2) po_none (po_some (pe_un un_neg pe_int))) (pe_lstN pa_nil) ⟨rfl, rfl, rfl, rfl⟩) (pa_cons (pv 2) pa_nil)))))
      (pss_one (ps_ret (pv 1))))), ?_⟩
    intro d H0 s0 n0 h0
    have nil0 : ∀ h, h ∉ Rg.headsOf (bs.take 0) := fun h hh => by simp [Rg.headsOf, Rg.puts] at hh
    refine ⟨_, rfl, a, rfl, ⟨_, SqL.of (s0 _ _ ha)⟩, for_list' (xs := us) (fun i σ H' => ∃ g x, σ = [some (.ref a), some (.ref d), x] ∧ Same H H' ∧ HD H' d g (bs.take i) ∧ ∀ h ∈ Rg.headsOf (bs.take i), H (g h) = none)
      ⟨fun _ => 0, _, rfl, s0, ⟨h0, fun h hh => absurd hh (nil0 h), fun h hh => absurd hh (nil0 h)⟩, fun h hh => absurd hh (nil0 h)⟩ (fun i σ H' _ ⟨_, _, _, s', _⟩ => SqL.of (s' _ _ ha)) ?_ ?_⟩
    · rintro i u σ H1 hu1 ⟨g, x, rfl, s1, hd1, fr1⟩ D1 hN1 _
      obtain ⟨c, b, rfl, hb, hc⟩ := tb.get hu1
      have hc1 := s1 _ _ hc
      have hbn := bn b (List.mem_of_getElem? hb)
      have hbl : 0 < b.length := List.length_pos_iff.mpr hbn
      have hi : i < bs.length := (List.getElem?_eq_some_iff.mp hb).1
      refine ⟨_, rfl, d, rfl, .inr ⟨_, .inl hd1.dict⟩, _, rfl, _, rfl, _, rfl, c, _, rfl, SqT.of hc1, ?_, ?_⟩
      · rw [List.length_map]
        show ¬ (_ ∧ HT.sIx b.length b.length (some (-1)) = b.length)
        rw [last_ix hbl]
        omega
      show New H1 (.tup (cutV (List.map V.int b) none (some (-1)))) _
      rw [cut_last b hbn]
      intro q2 H2 s2 n2 h2
      refine ⟨(by walk_at "rdc"), fun l0 H3 s3 n3 h3 => ?_⟩
      have s13 := s2.trans s3
      have s03 := s1.trans s13
      have hd3 := hd1.keep s13
      have hc3 := s13 _ _ hc1
      have tk : bs.take (i + 1) = bs.take i ++ [b] := Rg.take_snoc hb
      have hl := Rg.puts_len ((bs.take i).map List.dropLast) []
      rw [List.length_map, List.length_take, List.length_nil] at hl
      have hlh : (Rg.headsOf (bs.take i)).length ≤ 2401 := by unfold Rg.headsOf; omega
      refine ⟨_, kk b.dropLast, q2, rfl, hd3.dict, by rw [kk_kV]; exact s3 _ _ h2, by rw [List.length_map]; exact Nat.lt_of_le_of_lt hlh (by decide), fun v0 hv => ?_, fun hv => ?_⟩
      · rw [dmap_val] at hv
        by_cases hm : b.dropLast ∈ Rg.headsOf (bs.take i)
        · rw [if_pos hm] at hv
          cases hv
          obtain ⟨vs, hv1, hv2⟩ := hd3.rows _ hm
          have vl := hv2.len
          have ol := List.length_filter_le (fun x => decide (x.dropLast = b.dropLast)) (bs.take i)
          rw [List.length_take] at ol
          have vl2 : vs.length ≤ 2401 := by unfold Rg.ofHead at vl; omega
          refine ⟨.inl ⟨rfl, _, SqL.of hv1⟩, _, rfl, g b.dropLast, vs, _, rfl, rfl, hv1, Nat.lt_of_le_of_lt vl2 (by decide), ?_⟩
          refine hN1 _ _ ⟨g, _, rfl, s03.upd (fr1 _ hm), ?_, fun h hh => ?_⟩
          · rw [tk]; exact hd3.more hm hc3 hv1
          · rw [tk, heads_snoc] at hh
            rcases Rg.mem_put.mp hh with z | z
            · exact fr1 h z
            · rw [z]; exact fr1 _ hm
        · rw [if_neg hm] at hv; cases hv
      · have hm : b.dropLast ∉ Rg.headsOf (bs.take i) := fun z => by rw [dmap_val, if_pos z] at hv; cases hv
        have dl : l0 ≠ d := (ne_of_none (s2 _ _ hd1.dict) n3).symm
        have h3' : upd H3 d (.dT (putK ((Rg.headsOf (bs.take i)).map fun h => (kk h, V.ref (g h))) (kk b.dropLast) (.ref l0))) l0 = some (.lst []) := by rw [upd_ne dl]; exact h3
        have fr : ∀ x ∈ Rg.headsOf (bs.take i), g x ≠ l0 := fun x hx z => by
          obtain ⟨ws, h1, _⟩ := hd1.rows x hx
          exact ne_of_none (s2 _ _ h1) n3 z
        refine ⟨.inl ⟨rfl, _, SqL.of h3'⟩, _, rfl, l0, [], _, rfl, rfl, h3', by decide, ?_⟩
        refine hN1 _ _ ⟨fun x => if x = b.dropLast then l0 else g x, _, rfl, (s03.upd n0).upd (s1.free (s2.free n3)), ?_, fun h hh => ?_⟩
        · rw [tk]
          exact HD.new (vs := []) (kvs := []) hd3 hm hc3 h3 fr
        · rw [tk, heads_snoc] at hh
          show H (if h = b.dropLast then l0 else g h) = none
          rcases Rg.mem_put.mp hh with z | z
          · rw [if_neg (fun e => hm (by rw [← e]; exact z))]; exact fr1 h z
          · rw [if_pos z]; exact s1.free (s2.free n3)
    · rintro σ H1 ⟨g, x, rfl, s1, hd1, fr1⟩
      rw [tb.len, List.take_length] at hd1 fr1
      exact ⟨_, rfl, k d g H1 s1 n0 hd1 fr1⟩

--CUT
abbrev capB : Nat := 2401
theorem cap_eq : capB = 2401 := rfl
theorem cap_le : capB ≤ 2401 := by decide
def LinesOk (lv : Nat) (LL : List (List Int)) : Prop := ∀ xs ∈ LL, xs.length = lv ∧ ∀ f ∈ xs, Fig f
theorem w_few {lv k : Nat} {LL W : List (List Int)} (w : Rg.IsW lv LL k W) (l4 : lv ≤ 4) : W.length ≤ 2401 := by
  have h1 := Rg.lines_few (lv := lv - k) w.1 fun x hx => by
    obtain ⟨a, b⟩ := (w.2 x).mp hx
    exact ⟨by omega, a.fg⟩
  have h7 : 7 ^ (lv - k) ≤ 7 ^ 4 := Nat.pow_le_pow_right (by decide) (by omega)
  have e : (7 : Nat) ^ 4 = 2401 := by decide
  omega
theorem heads_get {W : List (List Int)} {g : List Int → Addr} {i : Nat} {kx : List Key} {v : V} (hk : ((Rg.headsOf W).map fun h => (kk h, V.ref (g h)))[i]? = some (kx, v)) : ∃ h, (Rg.headsOf W)[i]? = some h ∧ kx = kk h ∧ v = .ref (g h) := by
  rw [List.getElem?_map] at hk
  obtain ⟨h, hh, e⟩ := Option.map_eq_some_iff.mp hk
  cases e
  exact ⟨h, hh, rfl, rfl⟩
theorem getH {H : Hp} {d b : Addr} {W : List (List Int)} {g : List Int → Addr} {h : List Int} (e : Rd H d (.dT ((Rg.headsOf W).map fun h => (kk h, V.ref (g h))))) (hb : H b = some (.tup (List.map V.int h))) (hm : h ∈ Rg.headsOf W) : DGet H d (.ref b) (some (.ref (g h))) :=
  .inr ⟨_, kk h, b, e, rfl, by rw [kk_kV]; exact hb, by rw [dmap_val, if_pos hm]⟩
def PvW (Hf : Hp) (D : Addr) (W : List (List Int)) : Nat → List V → Hp → Prop := fun i ys H' => Same Hf H' ∧ H' D = some (.lst ys) ∧ Tups H' ys (((Rg.headsOf W).take i).filter fun h => decide ((Rg.ofHead W h).length = 7))
def upFj (W : List (List Int)) (j : Nat) : List (List Int) := (((Rg.headsOf W).take j).filter fun h => decide ((Rg.ofHead W h).length < 7)).flatMap (Rg.ofHead W)
theorem upFj_le (W : List (List Int)) (j : Nat) : (upFj W j).length ≤ (Rg.upF W).length := by
  have e : Rg.upF W = upFj W j ++ (((Rg.headsOf W).drop j).filter fun h => decide ((Rg.ofHead W h).length < 7)).flatMap (Rg.ofHead W) := by
    unfold Rg.upF upFj
    rw [← List.flatMap_append, ← List.filter_append, List.take_append_drop]
  rw [e, List.length_append]
  omega
theorem upFj_snoc {W : List (List Int)} {j : Nat} {h : List Int} (hh : (Rg.headsOf W)[j]? = some h) : upFj W (j + 1) = if (Rg.ofHead W h).length < 7 then upFj W j ++ Rg.ofHead W h else upFj W j := by
  unfold upFj
  rw [Rg.take_snoc hh, List.filter_append, List.filter_cons]
  by_cases c : (Rg.ofHead W h).length < 7
  · rw [if_pos (decide_eq_true c), if_pos c, List.flatMap_append]; simp
  · rw [if_neg (by rw [decide_eq_false c]; exact Bool.false_ne_true), if_neg c]; simp
theorem upFj_end (W : List (List Int)) : upFj W (Rg.headsOf W).length = Rg.upF W := by unfold upFj Rg.upF; rw [List.take_length]
theorem thawed {H H' : Hp} {d : Addr} {od : Obj} {o : HO} (hd : H d = some o) (s : Same (upd H d (.frz od o)) H') : Same H (upd H' d o) := fun b x e => by
  by_cases z : b = d
  · subst z; rw [upd_same, ← e, hd]
  · rw [upd_ne z]; exact s _ _ (by rw [upd_ne z]; exact e)
def sp_fewest : Sp := fun vs H Q _ => ∃ (lv : Nat) (dl : Addr) (LL bs : List (List Int)), vs = [.int lv, .ref dl] ∧ H dl = some (.dT (dset LL)) ∧ lv ≤ 4 ∧ LL.Nodup ∧ LinesOk lv LL ∧ Rg.Covers lv LL bs ∧ bs.length ≤ capB ∧ ∀ D us R H', Same H H' → H D = none → H' D = some (.lst us) → Tups H' us R → R.Nodup → (∀ x, x ∈ R ↔ Rg.Top lv LL x) → Srt.Asc R → Q (.ref D) H'
theorem ok_fewest (T : Txt K mg t) : FnOk P w K mg base CX0 2 t.f_fewest t.x_fewest ["level", "lines"] sp_fewest := by
  have G_by_heads := ok_by_heads (P := P) (w := w) (base := base) T
  refine T.d_fewest.F.ok sc_fewest (fun vs H Q E h => ?_) (fun cdv A outer s H vs Q E hr h => ?_)
  · obtain ⟨lv, dl, LL, bs, rfl, _⟩ := h; rfl
  · obtain ⟨lv, dl, LL, bs, rfl, hdl, lv4, nd, hL, cov, bl, k⟩ := h
    have hu := hu_of hr
    have cb := cap_eq
    have c0 := cap_le
    refine ⟨_, (pss_cons (ps_set (i := 2) sc_fewest.nd rfl (by first | exact Or.inl rfl | exact Or.inr rfl) (pe_lstN pa_nil))
      (pss_cons (ps_set (i := 3) sc_fewest.nd rfl (by first | exact Or.inl rfl | exact Or.inr rfl) (pe_callTy (call_listD rfl) (by rfl) T.n_list bb_list (pa_cons (pv 1) pa_nil)))
      (pss_cons (ps_for PassesOwn.never rfl (pi_range1 rfl T.n_range (pa_cons (pv 0) pa_nil)) (pg_name (i := 4) sc_fewest.nd rfl (by first | exact Or.inl rfl | exact Or.inr rfl))
        (pss_cons (ps_set (i := 5) sc_fewest.nd rfl (by first | exact Or.inl rfl | exact Or.inr rfl) (pcall T.d_by_heads G_by_heads (hr.mono (by decide)) (pa_cons (pv 3) pa_nil)))
        (pss_cons (PS.thaw (ps_setLcI (x := "head") (fr := ["heads"]) (js := [5]) (i := 3) sc_fewest.nd rfl rfl ⟨rfl, by decide +kernel, by decide +kernel, rfl, rfl, by decide +kernel, by decide +kernel, by decide +kernel, by decide +kernel⟩ rfl rfl rfl (pi_dict (pv 5)) (fun cl fp s H => (pt_cmpR op_eq (pe_callB (call_lenK (K := K) rfl) (by rfl) T.n_len bb_len (pa_cons (pe_dget hu (pv 1) (pv 0) (fun _ _ => rfl)) pa_nil)) (pe_callB (call_lenK (K := K) rfl) (by rfl) T.n_len bb_len (pa_cons (pe_glob (v := .ref t.a_FIGURES) rfl T.g_FIGURES rfl) pa_nil)) (nomark _))) (fun cl fp s H => (pv 0))))
        (pss_one (PS.thaw (ps_for PassesOwn.never rfl (pi_dict (pv 5)) (pg_name (i := 6) sc_fewest.nd rfl (by first | exact Or.inl rfl | exact Or.inr rfl))
          (pss_one (ps_if (pt_cmpR op_lt (pe_callB (call_lenK (K := K) rfl) (by rfl) T.n_len bb_len (pa_cons (pe_dget hu (pv 5) (pv 6) (fun _ _ => rfl)) pa_nil)) (pe_callB (call_lenK (K := K) rfl) (by rfl) T.n_len bb_len (pa_cons (pe_glob (v := .ref t.a_FIGURES) rfl T.g_FIGURES rfl) pa_nil)) (nomark _))
            (pss_one (ps_expr (pe_bm PySem.F.plainAttrs_list PySem.F.slot_list_extend PySem.F.type_list_extend mt_extend (pv 2) (pa_cons (pe_dget hu (pv 5) (pv 6) (fun _ _ => rfl)) pa_nil))))
            pss_nil))))))))
      (pss_one (ps_ret (pe_callB Srt.call_sortedT (by rfl) T.n_sorted bb_sorted (pa_cons (pe_op op_catN (pv 2) (pv 3)) pa_nil))))))), ?_⟩
    refine ⟨(by walk_at "rdc"), fun lf H1 s1 n1 h1 => ?_⟩
    refine ⟨_, rfl, dl, LL, fun _ => .bl true, rfl, s1 _ _ hdl, fun lw uw H2 s2 n2 h2 t2 => ?_⟩
    refine ⟨_, rfl, _, rfl, by omega, by omega, ?_⟩
    rw [Int.toNat_natCast]
    refine for_range' (lo := 0) (fun k σ H' => ∃ lw uw W F uf x4 x5 x6, σ = [some (.int lv), some (.ref dl), some (.ref lf), some (.ref lw), x4, x5, x6] ∧ Same H H' ∧ H' lf = some (.lst uf) ∧ Tups H' uf F ∧ H' lw = some (.lst uw) ∧ Tups H' uw W ∧ Rg.IsW lv LL k W ∧ Rg.IsF lv LL k F)
      ⟨lw, uw, LL, [], [], _, _, _, rfl, s1.trans s2, s2 _ _ h1, .nil, h2, t2, Rg.isW0 nd hL, Rg.isF0⟩ ?_ ?_
    · rintro i σ H3 hi ⟨lw, uw, W, F, uf, x4, x5, x6, rfl, s3, hf3, tf3, hw3, tw3, isw, isf⟩ D1 hN1
      have wl := w_few isw lv4
      refine ⟨_, rfl, lw, uw, W, rfl, hw3, tw3, wl, fun b hb z => ?_, fun d g H4 s4 n4 hd4 fr4 => ?_⟩
      · have := ((isw.2 b).mp hb).2
        rw [z, List.length_nil] at this
        omega
      have s04 := s3.trans s4
      have isw' := Rg.upW_ok isw hi
      have isf' := Rg.upF_ok isw isf hi
      have fl : (F ++ Rg.upF W).length ≤ capB := Nat.le_trans (Rg.tops_le isf'.1 (fun r hr => ((isf'.2 r).mp hr).1) cov) bl
      rw [List.length_append] at fl
      have gd : ∀ h ∈ Rg.headsOf W, g h ≠ d := fun h hh z => by
        obtain ⟨vs, h1, _⟩ := hd4.rows h hh
        rw [z, hd4.dict] at h1; cases h1
      -- the whole ones of one figure less
      refine ⟨_, rfl, d, _, rfl, hd4.dict, fun od nf => ?_⟩
      generalize hHf : upd H4 d (.frz od (.dT ((Rg.headsOf W).map fun h => (kk h, V.ref (g h))))) = Hf
      have hf : Hf d = some (.frz od (.dT ((Rg.headsOf W).map fun h => (kk h, V.ref (g h))))) := by rw [← hHf]; exact upd_same
      have rowsF : ∀ h ∈ Rg.headsOf W, ∃ vs, Hf (g h) = some (.lst vs) ∧ vs.length = (Rg.ofHead W h).length := fun h hh => by
        obtain ⟨vs, h1, h2⟩ := hd4.rows h hh
        exact ⟨vs, by rw [← hHf, upd_ne (gd h hh)]; exact h1, h2.len⟩
      intro D hD
      refine lcS_dict (PvW Hf D W) ⟨same_upd hD, upd_same, .nil⟩ (fun i ys H' ⟨s', _⟩ => s' _ _ hf) ?_ ?_
      · rintro j kx v b ys H5 hk hb ⟨s5, h5, t5⟩
        obtain ⟨h, hh, rfl, rfl⟩ := heads_get hk
        rw [kk_kV] at hb
        have hm := List.mem_of_getElem? hh
        have hj : j < ((Rg.headsOf W).map fun h => (kk h, V.ref (g h))).length := (List.getElem?_eq_some_iff.mp hk).1
        obtain ⟨vs, hv, vl⟩ := rowsF h hm
        have yl := t5.len
        have fl5 := List.length_filter_le (fun h => decide ((Rg.ofHead W h).length = 7)) ((Rg.headsOf W).take j)
        have hl := Rg.puts_len (W.map List.dropLast) []
        rw [List.length_map, List.length_nil] at hl
        have hl : (Rg.headsOf W).length ≤ 2401 := by unfold Rg.headsOf; omega
        rw [List.length_take] at fl5
        refine ⟨_, rfl, _, rfl, d, _, rfl, getH (.inr ⟨od, s5 _ _ hf⟩) hb hm, g h, vs, rfl, .inl (SqL.of (s5 _ _ hv)), t.a_FIGURES, _, rfl, .inr (T.v_FIGURES H5), rfl, _, rfl, ?_⟩
        have ed : decide (V.int ((vs.length : Nat) : Int) = V.int (([V.int 0, .int 1, .int 2, .int 3, .int 4, .int 5, .int 6] : List V).length : Nat)) = decide ((Rg.ofHead W h).length = 7) := by
          rw [decide_eq_decide, vl]
          constructor
          · intro z
            have z : (((Rg.ofHead W h).length : Nat) : Int) = ((7 : Nat) : Int) := by injection z
            omega
          · intro z; rw [z]; rfl
        rw [ed]
        by_cases c7 : (Rg.ofHead W h).length = 7
        · rw [decide_eq_true c7]
          refine iteT ⟨_, rfl, lcS_put (Pv := PvW Hf D W) h5 (Nat.lt_of_le_of_lt (m := 2401) (by omega) (by decide)) hj ⟨s5.upd hD, upd_same, ?_⟩⟩
          rw [Rg.take_snoc hh, List.filter_append, List.filter_cons, if_pos (decide_eq_true c7)]
          exact (t5.snoc hb).upd fun zs w => by rw [h5] at w; cases w
        · rw [decide_eq_false c7]
          refine iteF (lcS_skip (Pv := PvW Hf D W) hj ⟨s5, h5, ?_⟩)
          rw [Rg.take_snoc hh, List.filter_append, List.filter_cons, if_neg (by rw [decide_eq_false c7]; exact Bool.false_ne_true)]
          simpa using t5
      · rintro ys H5 ⟨s5, h5, t5⟩
        refine ⟨d, od, _, s5 _ _ hf, nf, ?_⟩
        rw [List.length_map, List.take_length] at t5
        have Dd : D ≠ d := fun z => by rw [z, hf] at hD; cases hD
        have s46 : Same H4 (upd H5 d (.dT ((Rg.headsOf W).map fun h => (kk h, V.ref (g h))))) := thawed hd4.dict (by rw [hHf]; exact s5)
        have h6 : upd H5 d (.dT ((Rg.headsOf W).map fun h => (kk h, V.ref (g h)))) D = some (.lst ys) := by rw [upd_ne Dd]; exact h5
        have t6 : Tups (upd H5 d (.dT ((Rg.headsOf W).map fun h => (kk h, V.ref (g h))))) ys (Rg.upW W) := t5.upd fun zs z => by rw [s5 _ _ hf] at z; cases z
        generalize upd H5 d (.dT ((Rg.headsOf W).map fun h => (kk h, V.ref (g h)))) = H6 at s46 h6 t6 ⊢
        have n4D : H4 D = none := by rw [← hHf, upd_ne Dd] at hD; exact hD
        have hd6 := hd4.keep s46
        have hf6 := s46 _ _ (s4 _ _ hf3)
        have tf6 := (tf3.keep s4).keep s46
        have s06 := s04.trans s46
        have lfD : D ≠ lf := (ne_of_none (s4 _ _ hf3) n4D).symm
        have lfg : ∀ h ∈ Rg.headsOf W, g h ≠ lf := fun h hh => (ne_of_none hf3 (fr4 h hh)).symm
        have lfd : d ≠ lf := (ne_of_none hf3 n4).symm
        -- the others are final
        refine ⟨_, rfl, d, _, rfl, hd6.dict, fun od2 nf2 => ?_⟩
        have dn : H d = none := s3.free n4
        refine for_dict' (fun j σ H' => ∃ y uf', σ = [some (.int lv), some (.ref dl), some (.ref lf), some (.ref D), some (.int (0 + (i : Int))), some (.ref d), y] ∧ Same H H' ∧ H' d = some (.frz od2 (.dT ((Rg.headsOf W).map fun h => (kk h, V.ref (g h))))) ∧
            H' lf = some (.lst uf') ∧ Tups H' uf' (F ++ upFj W j) ∧ H' D = some (.lst ys) ∧ Tups H' ys (Rg.upW W) ∧ ∀ h ∈ Rg.headsOf W, ∃ vs, H' (g h) = some (.lst vs) ∧ Tups H' vs (Rg.ofHead W h))
          ⟨_, uf, rfl, s06.upd dn, upd_same, ?_, ?_, ?_, ?_, fun h hh => ?_⟩ (fun j σ H' ⟨_, _, _, _, h, _⟩ => h) ?_ ?_
        · rw [upd_ne lfd.symm]; exact hf6
        · have : F ++ upFj W 0 = F := by simp [upFj]
          rw [this]
          exact tf6.upd fun zs z => by rw [hd6.dict] at z; cases z
        · rw [upd_ne Dd]; exact h6
        · exact t6.upd fun zs z => by rw [hd6.dict] at z; cases z
        · obtain ⟨vs, h1, h2⟩ := hd6.rows h hh
          exact ⟨vs, by rw [upd_ne (gd h hh)]; exact h1, h2.upd fun zs z => by rw [hd6.dict] at z; cases z⟩
        · rintro j kx v b σ H7 hk hb ⟨y, uf', rfl, s7, f7, hf7, tf7, hD7, tD7, rows7⟩ D2 hN2
          obtain ⟨h, hh, rfl, rfl⟩ := heads_get hk
          rw [kk_kV] at hb
          have hm := List.mem_of_getElem? hh
          obtain ⟨vs, hv, tv⟩ := rows7 h hm
          have vl := tv.len
          have sn := upFj_snoc hh
          have le1 := upFj_le W (j + 1)
          refine ⟨_, rfl, _, rfl, d, _, rfl, getH (.inr ⟨od2, f7⟩) hb hm, g h, vs, rfl, .inl (SqL.of hv), t.a_FIGURES, _, rfl, .inr (T.v_FIGURES H7), _, _, rfl, rfl, _, rfl, ite2 (fun c => ?_) (fun c => ?_)⟩
          · have c : ((vs.length : Nat) : Int) < ((7 : Nat) : Int) := of_decide_eq_true c
            rw [if_pos (by omega)] at sn
            have ul := tf7.len
            rw [List.length_append] at ul
            rw [sn, List.length_append] at le1
            refine ⟨_, rfl, .inl ⟨rfl, _, SqL.of hf7⟩, _, rfl, _, rfl, d, _, rfl, getH (.inr ⟨od2, f7⟩) hb hm, lf, g h, uf', vs, rfl, rfl, hf7, hv, Nat.le_trans (m := 5000) (by omega) (by decide), ?_⟩
            have nt : ∀ zs, H7 lf ≠ some (.tup zs) := fun zs z => by rw [hf7] at z; cases z
            refine hN2 _ _ ⟨_, uf' ++ vs, rfl, s7.upd n1, ?_, upd_same, ?_, ?_, tD7.upd nt, fun x hx => ?_⟩
            · rw [upd_ne lfd]; exact f7
            · rw [sn, ← List.append_assoc]
              exact (tf7.app tv).upd nt
            · rw [upd_ne lfD]; exact hD7
            · obtain ⟨ws, h1, h2⟩ := rows7 x hx
              exact ⟨ws, by rw [upd_ne (lfg x hx)]; exact h1, h2.upd nt⟩
          · have c : ¬ ((vs.length : Nat) : Int) < ((7 : Nat) : Int) := fun z => c (decide_eq_true z)
            rw [if_neg (by omega)] at sn
            exact hN2 _ _ ⟨_, uf', rfl, s7, f7, hf7, by rw [sn]; exact tf7, hD7, tD7, rows7⟩
        · rintro σ H7 ⟨y, uf', rfl, s7, f7, hf7, tf7, hD7, tD7, rows7⟩
          refine ⟨d, od2, _, f7, nf2, ?_⟩
          rw [List.length_map, upFj_end] at tf7
          have nt : ∀ zs, H7 d ≠ some (.tup zs) := fun zs z => by rw [f7] at z; cases z
          exact hN1 _ _ ⟨D, ys, Rg.upW W, F ++ Rg.upF W, uf', _, _, _, rfl, s7.upd dn, by rw [upd_ne lfd.symm]; exact hf7, tf7.upd nt, by rw [upd_ne Dd]; exact hD7, tD7.upd nt, isw', isf'⟩
    · rintro σ H3 ⟨lw, uw, W, F, uf, x4, x5, x6, rfl, s3, hf3, tf3, hw3, tw3, isw, isf⟩
      obtain ⟨ndE, memE⟩ := Rg.tops_end isw isf
      have len : (F ++ W).length ≤ capB := Nat.le_trans (Rg.tops_le ndE (fun r hr => (memE r).mp hr) cov) bl
      have ul := tf3.len
      have wl := tw3.len
      rw [List.length_append] at len
      refine ⟨_, rfl, _, rfl, lf, lw, uf, uw, rfl, rfl, hf3, hw3, Nat.le_trans (m := 5000) (by omega) (by decide), fun lc H4 s4 n4 h4 => ?_⟩
      refine ⟨lc, uf ++ uw, F ++ W, rfl, SqL.of h4, (tf3.keep s4).app (tw3.keep s4), fun h2 xs hx z => ?_, by rw [List.length_append]; omega, fun D us R H5 s5 n5 h5 t5 pm asc => ?_⟩
      · subst z
        have h0 := (memE _).mp hx
        have all : ∀ x ∈ F ++ W, x ∈ [([] : List Int)] := fun x hx => by rw [Rg.top_nil h0 ((memE x).mp hx)]; exact List.mem_singleton.mpr rfl
        have := Rg.nodup_le ndE all
        rw [List.length_singleton] at this
        omega
      · exact k D us R H5 ((s3.trans s4).trans s5) (s3.free (s4.free n5)) h5 t5 (pm.nodup_iff.mpr ndE) (fun x => by rw [pm.mem_iff]; exact memE x) asc

--CUT
def Told (H : Hp) (lv : Nat) (LL : List (List Int)) (Q : VK) : Prop := ∀ l us R H', Same H H' → H l = none → H' l = some (.lst us) → HRows H' us R → R.Nodup → (∀ x, x ∈ R ↔ Rg.Top lv LL x) → Srt.Asc R → Q (.ref l) H'
def sp_told (C : Addr) : Sp := fun vs H Q _ => ∃ (v : V) (lv : Nat) (LL bs : List (List Int)), vs = [v] ∧ RegAt C H v lv LL ∧ lv ≤ 4 ∧ LL.Nodup ∧ LinesOk lv LL ∧ Rg.Covers lv LL bs ∧ bs.length ≤ capB ∧ Told H lv LL Q
theorem ok_Region_told (T : Txt K mg t) : FnOk P w K mg base CX0 3 t.f_Region_told t.x_Region_told ["self"] (sp_told t.c_Region) := by
  have G_fewest := ok_fewest (P := P) (w := w) (base := base) T
  refine T.d_Region_told.F.ok sc_Region_told (fun vs H Q E h => ?_) (fun cdv A outer s H vs Q E hr h => ?_)
  · obtain ⟨v, lv, LL, bs, rfl, _⟩ := h; rfl
  · obtain ⟨v, lv, LL, bs, rfl, ⟨x, dx, d, rfl, hx, hd⟩, lv4, nd, hL, cov, bl, k⟩ := h
    have c0 := cap_le
    refine ⟨_, (pss_one (ps_ret (pe_lc (x := "beginning") (fr := []) (js := []) ⟨rfl, by decide +kernel, by decide +kernel, rfl, rfl, by decide +kernel, by decide +kernel, by decide +kernel, by decide +kernel⟩ rfl rfl rfl (pi_list (pcall T.d_fewest G_fewest (hr.mono (by decide)) (pa_cons (pe_fld (pv 0) rfl) (pa_cons (pe_fld (pv 0) rfl) pa_nil)))) (fun cl fp s H => (pe_callTy (call_listK (K := K) rfl) (by rfl) T.n_list bb_list (pa_cons (pv 0) pa_nil)))))), ?_⟩
    refine ⟨_, rfl, x, _, dx, _, _, rfl, hx, T.cl_Region, T.na_Region_level, rfl, _, rfl, x, _, dx, _, _, rfl, hx, T.cl_Region, T.na_Region_lines, rfl, lv, d, LL, bs, rfl, hd, lv4, nd, hL, cov, bl, fun D us R H1 s1 n1 h1 t1 ndR mem asc => ?_⟩
    have len : R.length ≤ capB := Nat.le_trans (Rg.tops_le ndR (fun r hr => (mem r).mp hr) cov) bl
    refine ⟨D, rfl, ⟨_, SqL.of h1⟩, fun D2 hD2 => ?_⟩
    refine lc_list (xs := us) (fun i ys H' => Same H1 H' ∧ H' D2 = some (.lst ys) ∧ HRows H' ys (R.take i) ∧ ∀ u ∈ ys, u ≠ .ref D2) ⟨same_upd hD2, upd_same, .nil, by simp⟩ (fun i ys H' ⟨s', _⟩ => SqL.of (s' _ _ h1)) ?_ ?_
    · rintro i u ys H2 hu ⟨s2, h2, r2, n2⟩
      obtain ⟨c, b, rfl, hb, hc⟩ := t1.get hu
      have hi : i < us.length := (List.getElem?_eq_some_iff.mp hu).1
      refine ⟨_, rfl, c, _, rfl, .inr (SqT.of (s2 _ _ hc)), fun l3 H3 s3 n3 h3 => ?_⟩
      have h23 := s3 _ _ h2
      have yl := r2.len
      rw [List.length_take] at yl
      have ne : ∀ u ∈ ys ++ [V.ref l3], u ≠ .ref D2 := fun u hu => by
        rcases List.mem_append.mp hu with z | z
        · exact n2 u z
        · rw [List.mem_singleton.mp z]
          exact fun w => ne_of_none h2 n3 (by injection w with w; exact w.symm)
      refine lc_nx h23 (Nat.lt_of_le_of_lt (m := 5000) (by omega) (by decide)) hi ⟨(s2.trans s3).upd hD2, upd_same, ?_, ne⟩
      rw [Rg.take_snoc hb]
      exact ((r2.keep s3).snoc h3).upd ne
    · rintro ys H2 ⟨s2, h2, r2, n2⟩
      rw [t1.len, List.take_length] at r2
      exact k D2 ys R H2 (s1.trans s2) (s1.free hD2) h2 r2 ndR mem asc

theorem self_covers {lv : Nat} {LL : List (List Int)} (hL : LinesOk lv LL) : Rg.Covers lv LL LL :=
  ⟨fun b hb => (Rg.full_line (hL b hb).2 (hL b hb).1).mpr hb, fun l hl => ⟨l, hl, List.prefix_rfl⟩⟩
theorem lines_cap {lv : Nat} {LL : List (List Int)} (l4 : lv ≤ 4) (nd : LL.Nodup) (hL : LinesOk lv LL) : LL.length ≤ capB := by
  have h1 := Rg.lines_few nd hL
  have h7 : 7 ^ lv ≤ 7 ^ 4 := Nat.pow_le_pow_right (by decide) l4
  have e : (7 : Nat) ^ 4 = 2401 := by decide
  show LL.length ≤ 2401
  omega
structure RegOk (C : Addr) (H : Hp) (v : V) (lv : Nat) (LL : List (List Int)) : Prop where
  at_ : RegAt C H v lv LL
  l4 : lv ≤ 4
  nd : LL.Nodup
  ok : LinesOk lv LL
theorem RegOk.keep {C : Addr} {H H' : Hp} {v : V} {lv : Nat} {LL : List (List Int)} (s : Same H H') (h : RegOk C H v lv LL) : RegOk C H' v lv LL := ⟨h.at_.keep s, h.l4, h.nd, h.ok⟩
def sp_many (C : Addr) : Sp := fun vs H Q _ => ∃ (v : V) (lv : Nat) (LL : List (List Int)), vs = [v] ∧ RegAt C H v lv LL ∧ Q (.int LL.length) H
theorem ok_Region_many (T : Txt K mg t) : FnOk P w K mg base CX0 1 t.f_Region_many t.x_Region_many ["self"] (sp_many t.c_Region) := by
  refine T.d_Region_many.F.ok sc_Region_many (fun vs H Q E h => ?_) (fun cdv A outer s H vs Q E hr h => ?_)
  · obtain ⟨v, lv, LL, rfl, _⟩ := h; rfl
  · obtain ⟨v, lv, LL, rfl, ⟨x, dx, d, rfl, hx, hd⟩, k⟩ := h
    refine ⟨_, (pss_one (ps_ret (pe_callB call_lenDT (by rfl) T.n_len bb_len (pa_cons (pe_fld (pv 0) rfl) pa_nil)))), ?_⟩
    refine ⟨_, rfl, x, _, dx, _, _, rfl, hx, T.cl_Region, T.na_Region_lines, rfl, d, _, rfl, .inl hd, ?_⟩
    rw [dset_len]
    exact k

theorem tops_lines {lv : Nat} {LL R : List (List Int)} (hL : LinesOk lv LL) (mem : ∀ x, x ∈ R ↔ Rg.Top lv LL x) (l : List Int) : (∃ b ∈ R, l ∈ Rg.lns (lv - b.length) b) ↔ l ∈ LL := by
  constructor
  · rintro ⟨b, hb, h⟩
    obtain ⟨u, rfl, ul, uf⟩ := Rg.mem_lns.mp h
    have := ((mem b).mp hb).1
    exact this.all u (by have := this.le; omega) uf
  · intro hl
    obtain ⟨h1, h2⟩ := hL l hl
    obtain ⟨r, hr, u, rfl⟩ := Rg.line_top hl h1 h2
    rw [List.length_append] at h1
    exact ⟨r, (mem r).mpr hr, Rg.mem_lns.mpr ⟨u, rfl, by omega, fun f hf => h2 f (List.mem_append_right _ hf)⟩⟩

--CUT
def sp_whole : Sp := fun vs H Q _ => ∃ i, vs = [.int i] ∧ Q (.bl true) H
theorem ok_law_whole (T : Txt K mg t) : FnOk P w K mg base CX0 1 t.f_law_whole t.x_law_whole ["found"] sp_whole := by
  refine T.d_law_whole.F.ok sc_law_whole (fun vs H Q E h => ?_) (fun cdv A outer s H vs Q E hr h => ?_)
  · obtain ⟨i, rfl, _⟩ := h; rfl
  · obtain ⟨i, rfl, q⟩ := h
    refine ⟨_, (pss_one (ps_ret (pe_and (pe_callB call_isi (by rfl) T.n_isinstance bb_isinstance (pa_cons (pv 0) (pa_cons (pe_bltn (v := .ty "int") rfl T.n_int bb_int rfl) pa_nil))) (pe_one (pe_not (pe_callB call_isi (by rfl) T.n_isinstance bb_isinstance (pa_cons (pv 0) (pa_cons (pe_bltn (v := .ty "bool") rfl T.n_bool bb_bool rfl) pa_nil)))))))), ?_⟩
    refine ⟨_, rfl, _, _, _, _, rfl, rfl, .int _, kit_same _ _, _, rfl, iteT ?_⟩
    exact ⟨_, rfl, _, _, _, _, rfl, rfl, .int _, kit_int_bool _, _, rfl, q⟩

theorem asc_uniq : ∀ {l m : List (List Int)}, l.Perm m → Srt.Asc l → Srt.Asc m → l = m
  | [], m, p, _, _ => by rw [List.nil_perm.mp p]
  | a :: l, [], p, _, _ => absurd p (by simp)
  | a :: l, b :: m, p, h1, h2 => by
    have e : a = b := by
      have ha : a ∈ b :: m := p.mem_iff.mp List.mem_cons_self
      have hb : b ∈ a :: l := p.mem_iff.mpr List.mem_cons_self
      rcases List.mem_cons.mp ha with z | z
      · exact z
      · rcases List.mem_cons.mp hb with w | w
        · exact w.symm
        · exact Srt.lx_tot a b (List.rel_of_pairwise_cons h2 z) (List.rel_of_pairwise_cons h1 w)
    subst e
    rw [asc_uniq (List.Perm.cons_inv p) (List.pairwise_cons.mp h1).2 (List.pairwise_cons.mp h2).2]
def LinesAt (H : Hp) (d : Addr) (L : List (List Int)) : Prop := H d = some (.dT (dset L)) ∨ ∃ ut, H d = some (.lst ut) ∧ Tups H ut L
theorem LinesAt.keep {H H' : Hp} {d : Addr} {L : List (List Int)} (s : Same H H') (h : LinesAt H d L) : LinesAt H' d L := h.imp (fun h => s _ _ h) fun ⟨ut, h1, h2⟩ => ⟨ut, s _ _ h1, h2.keep s⟩
structure RightIn (lv : Nat) (LL L' R : List (List Int)) : Prop where
  l4 : lv ≤ 4
  ok : LinesOk lv LL
  nd : R.Nodup
  mem : ∀ x, x ∈ R ↔ Rg.Top lv LL x
  asc : Srt.Asc R
  nd' : L'.Nodup
  same : ∀ x, x ∈ L' ↔ x ∈ LL
theorem max_lt {ns : List Int} {d M : Int} (hd : d < M) (h : ∀ a ∈ ns, a < M) : maxOf ns d < M := by
  cases ns with
  | nil => exact hd
  | cons n r =>
    show r.foldl max n < M
    rcases (foldl_max_le r n).2.2 with e | e
    · rw [e]; exact h n List.mem_cons_self
    · exact h _ (List.mem_cons_of_mem _ e)
def PvH (Hf : Hp) (D : Addr) (R : List (List Int)) : Nat → List V → Hp → Prop := fun i ys H' => Same Hf H' ∧ H' D = some (.lst ys) ∧ HRows H' ys (((R.take i).filter fun b => !decide (b = [])).map List.dropLast) ∧ ∀ u ∈ ys, u ≠ .ref D
def sp_ltold : Sp := fun vs H Q _ => ∃ (lv : Nat) (l d : Addr) (us : List V) (LL L' R : List (List Int)), vs = [.ref l, .int lv, .ref d] ∧ H l = some (.lst us) ∧ HRows H us R ∧ LinesAt H d L' ∧ RightIn lv LL L' R ∧ ∀ H', Same H H' → Q (.bl true) H'
theorem ok_law_told (T : Txt K mg t) : FnOk P w K mg base CX0 3 t.f_law_told t.x_law_told ["found", "level", "lines"] sp_ltold := by
  have G_law_whole := ok_law_whole (P := P) (w := w) (base := base) T
  have G_law_lines := ok_law_lines (P := P) (w := w) (base := base) T
  refine T.d_law_told.F.ok sc_law_told (fun vs H Q E h => ?_) (fun cdv A outer s H vs Q E hr h => ?_)
  · obtain ⟨lv, l, d, us, LL, L', R, rfl, _⟩ := h; rfl
  · obtain ⟨lv, l, d, us, LL, L', R, rfl, hl, rr, la, ri, k⟩ := h
    have hu64 := hr.units
    have hu65 := hr.units65
    refine ⟨_, (pss_cons (ps_if (PW.pt (pw_or (pt_not (pt_val (pe_callB call_isi (by rfl) T.n_isinstance bb_isinstance (pa_cons (pv 0) (pa_cons (pe_bltn (v := .ty "list") rfl T.n_list bb_list rfl) pa_nil))))) (pw_or1 (pt_cmpR (op_neLL hu64) (pv 0) (pe_callB (Srt.call_sortedL hu64) (by rfl) T.n_sorted bb_sorted (pa_cons (pv 0) pa_nil)) (nomark _)))))
        (pss_one (ps_ret pe_bl))
        pss_nil)
      (pss_cons (ps_set (i := 3) sc_law_told.nd rfl (by first | exact Or.inl rfl | exact Or.inr rfl) (pe_lstN pa_nil))
      (pss_cons (ps_for PassesOwn.never rfl (pi_list (pv 0)) (pg_name (i := 4) sc_law_told.nd rfl (by first | exact Or.inl rfl | exact Or.inr rfl))
        (pss_cons (ps_if (PW.pt (pw_or (pt_not (pt_val (pe_callB call_isi (by rfl) T.n_isinstance bb_isinstance (pa_cons (pv 4) (pa_cons (pe_bltn (v := .ty "list") rfl T.n_list bb_list rfl) pa_nil))))) (pw_or1 (pt_cmpR op_gt (pe_callB call_len_seq (by rfl) T.n_len bb_len (pa_cons (pv 4) pa_nil)) (pv 1) (nomark _)))))
          (pss_one (ps_ret pe_bl))
          pss_nil)
        (pss_cons (ps_for PassesOwn.never rfl (pi_list (pv 4)) (pg_name (i := 5) sc_law_told.nd rfl (by first | exact Or.inl rfl | exact Or.inr rfl))
          (pss_one (ps_if (PW.pt (pw_or (pt_not (pt_val (pcall T.d_law_whole G_law_whole (hr.mono (by decide)) (pa_cons (pv 5) pa_nil)))) (pw_or1 (pt_not (pt_chain op_le op_le pe_int (pv 5) pe_int)))))
            (pss_one (ps_ret pe_bl))
            pss_nil)))
        (pss_one (ps_expr (pe_bm PySem.F.plainAttrs_list PySem.F.slot_list_extend PySem.F.type_list_extend mt_extend (pv 3) (pa_cons (pcall T.d_law_lines G_law_lines (hr.mono (by decide)) (pa_cons (pv 4) (pa_cons (pv 1) pa_nil))) pa_nil)))))))
      (pss_cons (ps_if (PW.pt (pw_or (pt_cmpR op_ne (pe_callB call_len_seq (by rfl) T.n_len bb_len (pa_cons (pv 3) pa_nil)) (pe_callB call_lenSD (by rfl) T.n_len bb_len (pa_cons (pv 2) pa_nil)) (nomark _)) (pw_or1 (pt_cmpR (op_neLT hu64) (pe_callB Srt.call_sortedT (by rfl) T.n_sorted bb_sorted (pa_cons (pv 3) pa_nil)) (pe_callB (CallR.or Srt.call_sortedT (Srt.call_sortedD rfl)) (by rfl) T.n_sorted bb_sorted (pa_cons (pv 2) pa_nil)) (nomark _)))))
        (pss_one (ps_ret pe_bl))
        pss_nil)
      (pss_cons (ps_set (i := 6) sc_law_told.nd rfl (by first | exact Or.inl rfl | exact Or.inr rfl) (pe_lcI (x := "row") (fr := []) (js := []) ⟨rfl, by decide +kernel, by decide +kernel, rfl, rfl, by decide +kernel, by decide +kernel, by decide +kernel, by decide +kernel⟩ rfl rfl rfl (pi_list (pv 0)) (fun cl fp s H => (pt_cmpR (op_neLIK (K := K) rfl hu64) (pv 0) (pe_lstN pa_nil) (nomark _))) (fun cl fp s H => (pe_slice (sl_listK (K := K) rfl) (pv 0) po_none (po_some (pe_un un_neg pe_int))))))
      (pss_one (ps_ret (pe_cmpR op_lt (pe_maxD rfl T.n_max bb_max (pa_cons (pe_lc (x := "head") (fr := ["heads"]) (js := [6]) ⟨rfl, by decide +kernel, by decide +kernel, rfl, rfl, by decide +kernel, by decide +kernel, by decide +kernel, by decide +kernel⟩ rfl rfl rfl (pi_list (pv 6)) (fun cl fp s H => (pe_countK (K := K) rfl hu65 (pv 1) (pa_cons (pv 0) pa_nil)))) pa_nil)) pe_int (nomark _))))))))), ?_⟩
    refine ⟨_, rfl, _, _, _, _, rfl, rfl, .lst (SqL.of hl), kit_same _ _, _, rfl, iteF ?_⟩
    refine ⟨_, rfl, _, rfl, l, us, R, rfl, SqL.of hl, rr, fun D us' R' H1 s1 n1 h1 rr1 pm asc => ?_⟩
    obtain rfl := asc_uniq pm asc ri.asc
    refine ⟨l, D, us, us', R', R', rfl, rfl, SqL.of (s1 _ _ hl), SqL.of h1, (rr.keep s1).rows, rr1.rows, _, rfl, ?_⟩
    rw [decide_eq_true rfl]
    refine iteF ?_
    have hl1 := s1 _ _ hl
    have rr' := rr.keep s1
    refine ⟨(by walk_at "rdc"), fun lh H2 s2 n2 h2 => ?_⟩
    have rl := rr.len
    have okL' : LinesOk lv L' := fun x hx => ri.ok x ((ri.same x).mp hx)
    have capL := lines_cap ri.l4 ri.nd' okL'
    have c0 := cap_le
    have hmem : ∀ x, (∃ b ∈ R', x ∈ Rg.lns (lv - b.length) b) ↔ x ∈ L' := fun x => by rw [ri.same, tops_lines ri.ok ri.mem]
    have topR : ∀ r ∈ R', Rg.Top lv LL r := fun r hr => (ri.mem r).mp hr
    have cap : ∀ i, ((R'.take i).flatMap fun b => Rg.lns (lv - b.length) b).length ≤ 2401 := fun i => by
      have h1 := Rg.nodup_le (m := L') (Rg.held_nodup (ri.nd.sublist (List.take_sublist i R')) fun r hr => topR r (List.mem_of_mem_take hr)) fun x hx => by
        obtain ⟨b, hb, hx⟩ := List.mem_flatMap.mp hx
        exact (hmem x).mp ⟨b, List.mem_of_mem_take hb, hx⟩
      omega
    refine ⟨_, rfl, l, rfl, ⟨_, SqL.of (s2 _ _ hl1)⟩, for_list' (xs := us) (fun i σ H' => ∃ x y uh, σ = [some (.ref l), some (.int lv), some (.ref d), some (.ref lh), x, y, none] ∧ Same H1 H' ∧ H' lh = some (.lst uh) ∧ Tups H' uh ((R'.take i).flatMap fun b => Rg.lns (lv - b.length) b))
      ⟨_, _, [], rfl, s2, h2, .nil⟩ (fun i σ H' _ ⟨_, _, _, _, s', _⟩ => SqL.of (s' _ _ hl1)) ?_ ?_⟩
    · rintro i u σ H3 hu ⟨x, y, uh, rfl, s3, h3, t3⟩ D1 hN1 _
      have hi : i < R'.length := by rw [← rl]; exact (List.getElem?_eq_some_iff.mp hu).1
      obtain ⟨b, hb⟩ : ∃ b, R'[i]? = some b := ⟨_, List.getElem?_eq_getElem hi⟩
      obtain ⟨a, ha, hab⟩ := rr'.get hb
      rw [hu] at ha
      cases ha
      have top := (ri.mem b).mp (List.mem_of_getElem? hb)
      have bl := top.1.le
      have l4 := ri.l4
      refine ⟨_, rfl, _, _, _, _, rfl, rfl, .lst (SqL.of (s3 _ _ hab)), kit_same _ _, _, rfl, iteF ?_⟩
      refine ⟨_, rfl, a, _, rfl, .inl (SqL.of (s3 _ _ hab)), _, rfl, _, _, rfl, rfl, _, rfl, ?_⟩
      rw [List.length_map, decide_eq_false (by omega)]
      refine iteF ?_
      refine ⟨_, rfl, a, rfl, ⟨_, SqL.of (s3 _ _ hab)⟩, for_list' (xs := List.map V.int b) (fun j σ H' => ∃ y, σ = [some (.ref l), some (.int lv), some (.ref d), some (.ref lh), some (.ref a), y, none] ∧ H' = H3)
        ⟨_, rfl, rfl⟩ (fun j σ H' _ ⟨_, _, e⟩ => by rw [e]; exact SqL.of (s3 _ _ hab)) ?_ ?_⟩
      · rintro j u σ _ hu ⟨y, rfl, rfl⟩ D2 hN2 _
        obtain ⟨f, hf, rfl⟩ := Option.map_eq_some_iff.mp (by rw [← List.getElem?_map]; exact hu)
        obtain ⟨f0, f6⟩ := top.1.fg f (List.mem_of_getElem? hf)
        refine ⟨_, rfl, _, rfl, _, rfl, iteF ?_⟩
        refine ⟨_, rfl, _, _, rfl, rfl, _, rfl, ?_⟩
        rw [decide_eq_true f0]
        refine iteT ⟨_, _, rfl, rfl, _, rfl, ?_⟩
        rw [decide_eq_true f6]
        exact iteF (hN2 _ _ ⟨_, rfl, rfl⟩)
      · rintro σ _ ⟨y, rfl, rfl⟩
        refine ⟨_, rfl, .inl ⟨rfl, _, SqL.of h3⟩, _, rfl, _, rfl, lv, a, b, rfl, SqL.of (s3 _ _ hab), l4, bl, fun lw ww H4 s4 n4 h4 t4 => ?_⟩
        have e1 : (R'.take (i + 1)).flatMap (fun b => Rg.lns (lv - b.length) b) = (R'.take i).flatMap (fun b => Rg.lns (lv - b.length) b) ++ Rg.lns (lv - b.length) b := by
          rw [Rg.take_snoc hb, List.flatMap_append, List.flatMap_cons, List.flatMap_nil, List.append_nil]
        have c1 := cap (i + 1)
        rw [e1, List.length_append] at c1
        have u3 := t3.len
        have u4 := t4.len
        refine ⟨lh, lw, uh, ww, rfl, rfl, s4 _ _ h3, h4, Nat.le_trans (m := 5000) (by omega) (by decide), ?_⟩
        refine hN1 _ _ ⟨_, _, uh ++ ww, rfl, (s3.trans s4).upd n2, upd_same, ?_⟩
        rw [e1]
        exact ((t3.keep s4).app t4).upd fun zs z => by rw [s4 _ _ h3] at z; cases z
    · rintro σ H3 ⟨x, y, uh, rfl, s3, h3, t3⟩
      rw [rl, List.take_length] at t3
      generalize hG : R'.flatMap (fun b => Rg.lns (lv - b.length) b) = G at t3
      have ndG : G.Nodup := by rw [← hG]; exact Rg.held_nodup ri.nd topR
      have pG : G.Perm L' := Rg.perm_of ndG ri.nd' fun x => by rw [← hG, List.mem_flatMap]; exact hmem x
      have okG : ∀ x ∈ G, x.length = lv := fun x hx => (okL' x (pG.mem_iff.mp hx)).1
      have lG := pG.length_eq
      have lu := t3.len
      have la3 := la.keep (s1.trans s3)
      have nil : ∀ {M : List (List Int)}, M.Perm L' → 2 ≤ M.length → ∀ xs ∈ M, xs ≠ [] := fun pM h2 xs hx z => by
        have l0 : lv = 0 := by have := (okL' xs (pM.mem_iff.mp hx)).1; rw [z] at this; exact this.symm
        have := Rg.nodup_le (m := [([] : List Int)]) ri.nd' fun y hy => by
          rw [List.length_eq_zero_iff.mp ((okL' y hy).1.trans l0)]; exact List.mem_singleton.mpr rfl
        have e := pM.length_eq
        rw [List.length_singleton] at this
        omega
      refine ⟨_, rfl, lh, _, rfl, .inl (SqL.of h3), _, rfl, ?_⟩
      have hlen : ∀ {Q : VK}, Q (.int (L'.length : Nat)) H3 → ((∃ p ys, [V.ref d] = [.ref p] ∧ (SqL K H3 p ys ∨ SqT K H3 p ys) ∧ Q (.int (ys.length : Nat)) H3) ∨ ∃ a kvs, [V.ref d] = [V.ref a] ∧ Rd H3 a (.dT kvs) ∧ Q (.int (kvs.length : Nat)) H3) := fun q => by
        rcases la3 with h | ⟨ut, h, tt⟩
        · exact .inr ⟨d, _, rfl, .inl h, by rw [dset_len]; exact q⟩
        · exact .inl ⟨d, ut, rfl, .inl (SqL.of h), by rw [tt.len]; exact q⟩
      refine hlen (Q := fun y H' => rNe (V.int (uh.length : Nat)) y H' _) ?_
      rw [lu, lG]
      refine ⟨rfl, _, rfl, iteNS rfl ?_⟩
      refine ⟨_, rfl, lh, uh, G, rfl, SqL.of h3, t3, nil pG, by omega, fun D4 us4 G4 H4 s4 n4 h4 t4 p4 a4 => ?_⟩
      have la4 := la3.keep s4
      have hsrt : ∀ {Q : VK}, Srt.SortedOf H4 L' Q → ((∃ p us xss, [V.ref d] = [.ref p] ∧ SqL K H4 p us ∧ Tups H4 us xss ∧ (2 ≤ xss.length → ∀ xs ∈ xss, xs ≠ []) ∧ xss.length ≤ 100000 ∧ Srt.SortedOf H4 xss Q) ∨
          ∃ (d' : Addr) (LL : List (List Int)) (vx : List Int → V), [V.ref d] = [.ref d'] ∧ H4 d' = some (.dT (LL.map fun xs => (kk xs, vx xs))) ∧ (2 ≤ LL.length → ∀ xs ∈ LL, xs ≠ []) ∧ LL.length ≤ 100000 ∧ Srt.SortedOf H4 LL Q) := fun q => by
        rcases la4 with h | ⟨ut, h, tt⟩
        · exact .inr ⟨d, L', fun _ => .bl true, rfl, h, nil (List.Perm.refl _), by omega, q⟩
        · exact .inl ⟨d, ut, L', rfl, SqL.of h, tt, nil (List.Perm.refl _), by omega, q⟩
      refine ⟨_, rfl, hsrt fun D5 us5 G5 H5 s5 n5 h5 t5 p5 a5 => ?_⟩
      obtain rfl := asc_uniq ((p4.trans pG).trans p5.symm) a4 a5
      refine ⟨D4, D5, us4, us5, G4, G4, rfl, rfl, SqL.of (s5 _ _ h4), SqL.of h5, t4.keep s5, t5, _, rfl, ?_⟩
      rw [decide_eq_true rfl]
      refine iteF ?_
      have s15 := (s3.trans s4).trans s5
      have hl5 := s15 _ _ hl1
      have rr5 := rr'.keep s15
      have lenR : R'.length ≤ 2401 := by
        have := Rg.tops_le (bs := L') ri.nd topR ⟨fun b hb => (Rg.full_line (okL' b hb).2 (okL' b hb).1).mpr ((ri.same b).mp hb), fun l hl => ⟨l, (ri.same l).mpr hl, List.prefix_rfl⟩⟩
        omega
      refine ⟨_, rfl, l, rfl, ⟨_, SqL.of hl5⟩, fun D hD => ?_⟩
      refine lcS_list (xs := us) (PvH H5 D R') ⟨same_upd hD, upd_same, .nil, by simp⟩ (fun i ys H' ⟨s', _⟩ => SqL.of (s' _ _ hl5)) ?_ ?_
      · rintro i u ys H6 hu ⟨s6, h6, t6, n6⟩
        have hi : i < us.length := (List.getElem?_eq_some_iff.mp hu).1
        obtain ⟨b, hb⟩ : ∃ b, R'[i]? = some b := ⟨_, List.getElem?_eq_getElem (by rw [← rl]; exact hi)⟩
        obtain ⟨a, ha, hab⟩ := rr5.get hb
        rw [hu] at ha
        cases ha
        have yl := t6.len
        rw [List.length_map] at yl
        have fl := List.length_filter_le (fun b => !decide (b = ([] : List Int))) (R'.take i)
        rw [List.length_take] at fl
        refine ⟨_, rfl, (by walk_at "rdc"), fun l0 H7 s7 n7 h7 => ?_⟩
        refine ⟨a, l0, b, [], rfl, rfl, SqL.of (s7 _ _ (s6 _ _ hab)), SqL.of h7, _, rfl, ?_⟩
        have h67 := s7 _ _ h6
        by_cases e0 : b = []
        · rw [decide_eq_true e0]
          refine iteF (lcS_skip (Pv := PvH H5 D R') hi ⟨s6.trans s7, h67, ?_, n6⟩)
          rw [Rg.take_snoc hb, List.filter_append, List.filter_cons, if_neg (by simp [e0])]
          simpa using t6.keep s7
        · rw [decide_eq_false e0]
          refine iteT ⟨_, rfl, _, rfl, _, rfl, a, _, rfl, SqL.of (s7 _ _ (s6 _ _ hab)), ?_⟩
          show New H7 (.lst (cutV (List.map V.int b) none (some (-1)))) _
          rw [cut_last b e0]
          intro l3 H8 s8 n8 h8
          have h68 := s8 _ _ h67
          have ne : ∀ u ∈ ys ++ [V.ref l3], u ≠ .ref D := fun u hu => by
            rcases List.mem_append.mp hu with z | z
            · exact n6 u z
            · rw [List.mem_singleton.mp z]
              exact fun w => ne_of_none h67 n8 (by injection w with w; exact w.symm)
          refine lcS_put (Pv := PvH H5 D R') h68 (Nat.lt_of_le_of_lt (m := 5000) (by omega) (by decide)) hi ⟨((s6.trans s7).trans s8).upd hD, upd_same, ?_, ne⟩
          rw [Rg.take_snoc hb, List.filter_append, List.filter_cons, if_pos (by simp [e0]), List.map_append]
          exact (((t6.keep s7).keep s8).snoc h8).upd ne
      · rintro ys H6 ⟨s6, h6, t6, n6⟩
        rw [rl, List.take_length] at t6
        have cnt := fun h => Rg.heads_lt ri.nd topR h
        have fl := List.length_filter_le (fun b => !decide (b = ([] : List Int))) R'
        have yl := t6.len
        rw [List.length_map] at yl
        generalize (R'.filter fun b => !decide (b = [])).map List.dropLast = G7 at t6 cnt
        have yl7 := t6.len
        refine ⟨_, rfl, D, rfl, ⟨_, SqL.of h6⟩, fun D2 hD2 => ?_⟩
        refine lc_list (xs := ys) (fun i zs H' => Same H6 H' ∧ H' D2 = some (.lst zs) ∧ zs = List.map V.int ((G7.take i).map fun h => ((G7.count h : Nat) : Int))) ⟨same_upd hD2, upd_same, rfl⟩ (fun i zs H' ⟨s', _⟩ => SqL.of (s' _ _ h6)) ?_ ?_
        · rintro i u zs H7 hu ⟨s7, h7, rfl⟩
          have hi : i < ys.length := (List.getElem?_eq_some_iff.mp hu).1
          obtain ⟨b, hb⟩ : ∃ b, G7[i]? = some b := ⟨_, List.getElem?_eq_getElem (by rw [← yl7]; exact hi)⟩
          obtain ⟨a, ha, hab⟩ := t6.get hb
          rw [hu] at ha
          cases ha
          refine ⟨_, rfl, .inl ⟨rfl, _, SqL.of (s7 _ _ h6)⟩, _, rfl, D, a, b, ys, G7, rfl, rfl, SqL.of (s7 _ _ hab), SqL.of (s7 _ _ h6), (t6.keep s7).rows, ?_⟩
          refine lc_nx h7 (Nat.lt_of_le_of_lt (m := 5000) (by rw [List.length_map, List.length_map, List.length_take]; omega) (by decide)) hi ⟨s7.upd hD2, upd_same, ?_⟩
          rw [Rg.take_snoc hb, List.map_append, List.map_append]
          rfl
        · rintro zs H7 ⟨s7, h7, rfl⟩
          rw [yl7, List.take_length] at h7
          refine ⟨D2, _, rfl, SqL.of h7, _, _, rfl, rfl, ?_⟩
          have lt : maxOf (G7.map fun h => ((G7.count h : Nat) : Int)) 0 < 7 := max_lt (by decide) fun a ha => by
            obtain ⟨h, _, rfl⟩ := List.mem_map.mp ha
            have := cnt h
            omega
          show Q (.bl (decide (maxOf (G7.map fun h => ((G7.count h : Nat) : Int)) 0 < 7))) H7
          rw [decide_eq_true lt]
          exact k _ ((s1.trans s15).trans (s6.trans s7))

--CUT
def sp_pofL (K : PySem.W.Frag) : Sp := fun vs H Q _ => ∃ a xs, vs = [.ref a] ∧ Sq K H a xs ∧ (∀ f ∈ xs, Fig f) ∧ ∀ p H', Same H H' → Pl K H' p (wk xs).1 (wk xs).2 → Q p H'
theorem ok_place_ofL (T : Txt K mg t) : FnOk P w K mg base CX0 4 t.f_place_of t.x_place_of ["figures"] (sp_pofL K) := by
  have G_added := ok_added (P := P) (w := w) (base := base) T
  have G_great := ok_great (P := P) (w := w) (base := base) T
  have G_place_of_rest := ok_place_of_rest (P := P) (w := w) (base := base) T
  refine T.d_place_of.F.ok sc_place_of (fun vs H Q E h => ?_) (fun cdv A outer s H vs Q E hr h => ?_)
  · obtain ⟨a, xs, rfl, _⟩ := h; rfl
  · obtain ⟨a, xs, rfl, ha, hfig, k⟩ := h
    refine ⟨_, (pss_cons (ps_set (i := 1) sc_place_of.nd rfl (by first | exact Or.inl rfl | exact Or.inr rfl) (pe_glob (v := .ref t.a_MIDDLE) rfl T.g_MIDDLE rfl))
      (pss_cons (ps_for PassesOwn.never rfl (pi_seq (pv 0)) (pg_name (i := 2) sc_place_of.nd rfl (by first | exact Or.inl rfl | exact Or.inr rfl))
        (pss_one (ps_set (i := 1) sc_place_of.nd rfl (by first | exact Or.inl rfl | exact Or.inr rfl) (pcall T.d_added G_added (hr.mono (by decide)) (pa_cons (pcall T.d_great G_great (hr.mono (by decide)) (pa_cons (pv 1) pa_nil)) (pa_cons (pcall T.d_place_of_rest G_place_of_rest (hr.mono (by decide)) (pa_cons (pv 2) pa_nil)) pa_nil))))))
      (pss_one (ps_ret (pv 1))))), ?_⟩
    refine ⟨_, rfl, a, rfl, for_seq ha (fun i σ H' => ∃ p x, σ = [some (.ref a), some p, x] ∧ Same H H' ∧ Pl K H' p (wk (xs.take i)).1 (wk (xs.take i)).2)
      ⟨_, _, rfl, Same.refl _, ⟨_, rfl, T.v_MIDDLE H⟩⟩ (fun i σ H' ⟨_, _, _, s', _⟩ => s') ?_ ?_⟩
    · rintro i x σ H1 hx ⟨p, y, rfl, s1, hp⟩
      rw [List.getElem?_map] at hx
      obtain ⟨f, hf, rfl⟩ := Option.map_eq_some_iff.mp hx
      refine ⟨_, rfl, p, _, _, rfl, hp, fun v2 H2 s2 h2 => ?_⟩
      refine ⟨_, rfl, f, rfl, fun _ p3 H3 s3 h3 => ?_, fun z => absurd (hfig f (List.mem_of_getElem? hf)) z⟩
      refine ⟨_, _, _, _, _, _, rfl, s3.pl h2, h3, fun v4 H4 s4 h4 => ?_⟩
      exact ⟨v4, _, rfl, ((s1.trans s2).trans s3).trans s4, by rw [wk_take hf]; exact h4⟩
    · rintro σ H1 ⟨p, y, rfl, s1, hp⟩
      rw [List.length_map, List.take_length] at hp
      exact ⟨_, rfl, k _ _ s1 hp⟩
structure Pls (K : PySem.W.Frag) (H : Hp) (us : List V) (xss : List (List Int)) : Prop where
  len : us.length = xss.length
  at_ : ∀ (i : Nat) (xs : List Int), xss[i]? = some xs → ∃ u, us[i]? = some u ∧ Pl K H u (wk xs).1 (wk xs).2
theorem Pls.keep {H H' : Hp} {us : List V} {xss : List (List Int)} (s : Same H H') (h : Pls K H us xss) : Pls K H' us xss := ⟨h.len, fun i xs e => let ⟨u, hu, hp⟩ := h.at_ i xs e; ⟨u, hu, s.pl hp⟩⟩
theorem Pls.snoc {H : Hp} {us : List V} {xss : List (List Int)} {u : V} {xs : List Int} (h : Pls K H us xss) (hp : Pl K H u (wk xs).1 (wk xs).2) : Pls K H (us ++ [u]) (xss ++ [xs]) := by
  refine ⟨by rw [List.length_append, List.length_append, h.len]; rfl, fun i ys e => ?_⟩
  by_cases hi : i < xss.length
  · rw [List.getElem?_append_left hi] at e
    obtain ⟨v, hv, hq⟩ := h.at_ i ys e
    exact ⟨v, by rw [List.getElem?_append_left (by rw [h.len]; exact hi)]; exact hv, hq⟩
  · have hl := (List.getElem?_eq_some_iff.mp e).1
    rw [List.length_append, List.length_singleton] at hl
    have ei : i = xss.length := by omega
    subst ei
    rw [List.getElem?_append_right (Nat.le_refl _), Nat.sub_self] at e
    cases e
    exact ⟨u, by rw [← h.len, List.getElem?_append_right (Nat.le_refl _), Nat.sub_self]; rfl, hp⟩
theorem Pls.updL {H : Hp} {D : Addr} {ys : List V} {o : HO} {us : List V} {xss : List (List Int)} (hD : H D = some (.lst ys)) (h : Pls K H us xss) : Pls K (upd H D o) us xss := ⟨h.len, fun i xs e => let ⟨u, hu, hp⟩ := h.at_ i xs e; ⟨u, hu, hp.updL hD⟩⟩
theorem nil_few {lv : Nat} {L : List (List Int)} (nd : L.Nodup) (ok : LinesOk lv L) : 2 ≤ L.length → ∀ xs ∈ L, xs ≠ [] := fun h2 xs hx z => by
  have l0 : lv = 0 := by have := (ok xs hx).1; rw [z] at this; exact this.symm
  have := Rg.nodup_le (m := [([] : List Int)]) nd fun y hy => by
    rw [List.length_eq_zero_iff.mp ((ok y hy).1.trans l0)]; exact List.mem_singleton.mpr rfl
  rw [List.length_singleton] at this
  omega
def sp_cellsL (K : PySem.W.Frag) (C : Addr) : Sp := fun vs H Q _ => ∃ (v : V) (lv : Nat) (LL : List (List Int)), vs = [v] ∧ RegOk C H v lv LL ∧ ∀ l us LL' H', Same H H' → H l = none → H' l = some (.lst us) → Pls K H' us LL' → LL'.Perm LL → Srt.Asc LL' → Q (.ref l) H'
theorem ok_Region_cells (T : Txt K mg t) : FnOk P w K mg base CX0 5 t.f_Region_cells t.x_Region_cells ["self"] (sp_cellsL K t.c_Region) := by
  have G_place_of := ok_place_ofL (P := P) (w := w) (base := base) T
  refine T.d_Region_cells.F.ok sc_Region_cells (fun vs H Q E h => ?_) (fun cdv A outer s H vs Q E hr h => ?_)
  · obtain ⟨v, lv, LL, rfl, _⟩ := h; rfl
  · obtain ⟨v, lv, LL, rfl, r, k⟩ := h
    obtain ⟨x, dx, d, rfl, hx, hd⟩ := id r.at_
    have cap := lines_cap r.l4 r.nd r.ok
    have c0 := cap_le
    refine ⟨_, (pss_one (ps_ret (pe_lc (x := "line") (fr := []) (js := []) ⟨rfl, by decide +kernel, by decide +kernel, rfl, rfl, by decide +kernel, by decide +kernel, by decide +kernel, by decide +kernel⟩ rfl rfl rfl (pi_list (pe_callB (Srt.call_sortedD rfl) (by rfl) T.n_sorted bb_sorted (pa_cons (pe_fld (pv 0) rfl) pa_nil))) (fun cl fp s H => (pcall T.d_place_of G_place_of (hr.mono (by decide)) (pa_cons (pv 0) pa_nil)))))), ?_⟩
    refine ⟨_, rfl, x, _, dx, _, _, rfl, hx, T.cl_Region, T.na_Region_lines, rfl, ?_⟩
    refine ⟨d, LL, fun _ => .bl true, rfl, hd, nil_few r.nd r.ok, (by omega), fun D us LL' H1 s1 nD hD ht pm asc => ?_⟩
    refine ⟨D, rfl, ⟨_, SqL.of hD⟩, fun D2 hD2 => ?_⟩
    have ul := ht.len
    have pl := pm.length_eq
    refine lc_list (xs := us) (fun i ys H' => Same H1 H' ∧ H' D2 = some (.lst ys) ∧ Pls K H' ys (LL'.take i)) ⟨same_upd hD2, upd_same, rfl, fun i xs e => by simp at e⟩ (fun i ys H' ⟨s', _⟩ => SqL.of (s' _ _ hD)) ?_ ?_
    · rintro i u ys H2 hu ⟨s2, h2, t2⟩
      obtain ⟨b, xs, rfl, hxs, hb⟩ := ht.get hu
      have hi : i < us.length := (List.getElem?_eq_some_iff.mp hu).1
      have xm : xs ∈ LL := pm.mem_iff.mp (List.mem_of_getElem? hxs)
      refine ⟨_, rfl, b, xs, rfl, .inr (SqT.of (s2 _ _ hb)), (r.ok xs xm).2, fun p3 H3 s3 hp3 => ?_⟩
      have h3 := s3 _ _ h2
      have yl := t2.len
      rw [List.length_take] at yl
      refine lc_nx h3 (Nat.lt_of_le_of_lt (m := 2401) (by omega) (by decide)) hi ⟨(s2.trans s3).upd hD2, upd_same, ?_⟩
      rw [Rg.take_snoc hxs]
      exact ((t2.keep s3).snoc hp3).updL h3
    · rintro ys H2 ⟨s2, h2, t2⟩
      rw [ul, List.take_length] at t2
      exact k D2 ys LL' H2 (s1.trans s2) (s1.free hD2) h2 t2 pm asc

def sp_alike (K : PySem.W.Frag) : Sp := fun vs H Q _ => ∃ v u q r q' r', vs = [v, u] ∧ Pl K H v q r ∧ Pl K H u q' r' ∧ Q (.bl (decide ([q, r] = [q', r']))) H
theorem ok_law_place_alike (T : Txt K mg t) : FnOk P w K mg base CX0 2 t.f_law_place_alike t.x_law_place_alike ["found", "due"] (sp_alike K) := by
  have G_law_whole := ok_law_whole (P := P) (w := w) (base := base) T
  refine T.d_law_place_alike.F.ok sc_law_place_alike (fun vs H Q E h => ?_) (fun cdv A outer s H vs Q E hr h => ?_)
  · obtain ⟨v, u, q, r, q', r', rfl, _⟩ := h; rfl
  · obtain ⟨_, _, q, r, q', r', rfl, ⟨a, rfl, ha⟩, ⟨b, rfl, hb⟩, k⟩ := h
    have hu0 := hr.units0
    refine ⟨_, (pss_cons (ps_if (PW.pt (pw_or (pt_not (pt_val (pe_callB call_isi (by rfl) T.n_isinstance bb_isinstance (pa_cons (pv 0) (pa_cons (pe_bltn (v := .ty "tuple") rfl T.n_tuple bb_tuple rfl) pa_nil))))) (pw_or (pt_cmpR op_ne (pe_callB call_len_seq (by rfl) T.n_len bb_len (pa_cons (pv 0) pa_nil)) pe_int (nomark _)) (pw_or (pt_not (pt_val (pcall T.d_law_whole G_law_whole (hr.mono (by decide)) (pa_cons (pe_ix ix_tup (pv 0) pe_int (fun _ _ => rfl)) pa_nil)))) (pw_or1 (pt_not (pt_val (pcall T.d_law_whole G_law_whole (hr.mono (by decide)) (pa_cons (pe_ix ix_tup (pv 0) pe_int (fun _ _ => rfl)) pa_nil)))))))))
        (pss_one (ps_ret pe_bl))
        pss_nil)
      (pss_one (ps_ret (pe_cmpR (op_eqTI hu0) (pv 0) (pv 1) (nomark _))))), ?_⟩
    refine ⟨_, rfl, _, _, _, _, rfl, rfl, .tup ha, kit_same _ _, _, rfl, iteF ?_⟩
    refine ⟨_, rfl, a, _, rfl, .inr ha, rfl, _, rfl, iteF ?_⟩
    refine ⟨_, rfl, _, _, _, _, rfl, rfl, ha, (by rfl), _, rfl, _, rfl, iteF ?_⟩
    refine ⟨_, rfl, _, _, _, _, rfl, rfl, ha, (by rfl), _, rfl, _, rfl, iteF ?_⟩
    exact ⟨_, rfl, _, rfl, a, b, [q, r], [q', r'], rfl, rfl, ha, hb, k⟩

def stepPairs : List (Int × Int) := [(0, 0), (1, 0), (0, 1), (-1, 1), (-1, 0), (0, -1), (1, -1)]
theorem step_at {f : Int} (hf : Fig f) : stepPairs[f.toNat]? = some (fq f, fr f) := by
  rcases fig_cases hf with rfl | rfl | rfl | rfl | rfl | rfl | rfl <;> decide
def sp_lstep (K : PySem.W.Frag) : Sp := fun vs H Q _ => ∃ f, vs = [.int f] ∧ Fig f ∧ ∀ p H', Same H H' → Pl K H' p (fq f) (fr f) → Q p H'
theorem ok_law_step (T : Txt K mg t) : FnOk P w K mg base CX0 1 t.f_law_step t.x_law_step ["figure"] (sp_lstep K) :=
  (ok_pairs (ps := stepPairs) T.d_law_step.F sc_law_step (by decide +kernel) (by decide) (by decide +kernel) (by decide) (by decide)).imp
    fun vs H Q E h => by
      obtain ⟨f, rfl, hf, k⟩ := h
      exact ⟨f, _, rfl, hf.1, step_at hf, k⟩

def sp_lplaceP (K : PySem.W.Frag) : Sp := fun vs H Q _ => ∃ a xs, vs = [.ref a] ∧ Sq K H a xs ∧ (∀ f ∈ xs, Fig f) ∧ ∀ p H', Same H H' → Pt H' p (wk xs) → Q p H'
theorem ok_law_placeP (T : Txt K mg t) : FnOk P w K mg base CX0 2 t.f_law_place t.x_law_place ["figures"] (sp_lplaceP K) := by
  have G_law_step := ok_law_step (P := P) (w := w) (base := base) T
  refine T.d_law_place.F.ok sc_law_place (fun vs H Q E h => ?_) (fun cdv A outer s H vs Q E hr h => ?_)
  · obtain ⟨a, xs, rfl, _⟩ := h; rfl
  · obtain ⟨a, xs, rfl, ha, hfig, k⟩ := h
    refine ⟨_, (pss_cons (ps_set (i := 1) sc_law_place.nd rfl (by first | exact Or.inl rfl | exact Or.inr rfl) pe_int)
      (pss_cons (ps_set (i := 2) sc_law_place.nd rfl (by first | exact Or.inl rfl | exact Or.inr rfl) pe_int)
      (pss_cons (ps_for PassesOwn.never rfl (pi_seq (pv 0)) (pg_name (i := 3) sc_law_place.nd rfl (by first | exact Or.inl rfl | exact Or.inr rfl))
        (pss_cons (ps_set (i := 4) sc_law_place.nd rfl (by first | exact Or.inl rfl | exact Or.inr rfl) (pcall T.d_law_step G_law_step (hr.mono (by decide)) (pa_cons (pv 3) pa_nil)))
        (pss_cons (ps_set (i := 5) sc_law_place.nd rfl (by first | exact Or.inl rfl | exact Or.inr rfl) (pe_op op_add (pe_op op_sub (pe_op op_mul pe_int (pv 1)) (pv 2)) (pe_ix ix_tup (pv 4) pe_int (fun _ _ => rfl))))
        (pss_cons (ps_set (i := 2) sc_law_place.nd rfl (by first | exact Or.inl rfl | exact Or.inr rfl) (pe_op op_add (pe_op op_add (pv 1) (pe_op op_mul pe_int (pv 2))) (pe_ix ix_tup (pv 4) pe_int (fun _ _ => rfl))))
        (pss_one (ps_set (i := 1) sc_law_place.nd rfl (by first | exact Or.inl rfl | exact Or.inr rfl) (pv 5)))))))
      (pss_one (ps_ret (pe_tupN (pa_cons (pv 1) (pa_cons (pv 2) pa_nil)))))))), ?_⟩
    refine ⟨_, rfl, a, rfl, for_seq ha (fun i σ H' => ∃ x y z, σ = [some (.ref a), some (.int (wk (xs.take i)).1), some (.int (wk (xs.take i)).2), x, y, z] ∧ Same H H')
      ⟨_, _, _, rfl, Same.refl _⟩ (fun i σ H' ⟨_, _, _, _, s'⟩ => s') ?_ ?_⟩
    · rintro i x σ H1 hx ⟨x1, y1, z1, rfl, s1⟩
      rw [List.getElem?_map] at hx
      obtain ⟨f, hf, rfl⟩ := Option.map_eq_some_iff.mp hx
      refine ⟨_, rfl, f, rfl, hfig f (List.mem_of_getElem? hf), fun v2 H2 s2 ⟨p2, e2, h2⟩ => ?_⟩
      subst e2
      refine ⟨_, rfl, _, _, rfl, rfl, .inl ⟨by decide, by decide⟩, _, rfl, _, _, rfl, rfl, _, rfl, _, _, _, _, rfl, rfl, h2, (by rfl), _, _, rfl, rfl, ?_⟩
      refine ⟨_, rfl, _, rfl, _, _, rfl, rfl, .inl ⟨by decide, by decide⟩, _, _, rfl, rfl, _, rfl, _, _, _, _, rfl, rfl, h2, (by rfl), _, _, rfl, rfl, ?_⟩
      refine ⟨_, rfl, ?_⟩
      exact ⟨_, _, _, by rw [wk_take hf]; rfl, s1.trans s2⟩
    · rintro σ H1 ⟨x1, y1, z1, rfl, s1⟩
      rw [List.length_map, List.take_length]
      walk_at "rd"
      intro p H' s' _ hp
      exact k _ _ (s1.trans s') ⟨p, rfl, hp⟩

def sp_lcells (K : PySem.W.Frag) : Sp := fun vs H Q _ => ∃ (lv : Nat) (l d : Addr) (us : List V) (LL' L' : List (List Int)), vs = [.ref l, .ref d] ∧ H l = some (.lst us) ∧ Pls K H us LL' ∧ Srt.Asc LL' ∧ H d = some (.dT (dset L')) ∧ LL'.Perm L' ∧ lv ≤ 4 ∧ L'.Nodup ∧ LinesOk lv L' ∧ ∀ H', Same H H' → Q (.bl true) H'
theorem ok_law_cells (T : Txt K mg t) : FnOk P w K mg base CX0 3 t.f_law_cells t.x_law_cells ["found", "lines"] (sp_lcells K) := by
  have G_law_place := ok_law_placeP (P := P) (w := w) (base := base) T
  have G_law_place_alike := ok_law_place_alike (P := P) (w := w) (base := base) T
  refine T.d_law_cells.F.ok sc_law_cells (fun vs H Q E h => ?_) (fun cdv A outer s H vs Q E hr h => ?_)
  · obtain ⟨lv, l, d, us, LL', L', rfl, _⟩ := h; rfl
  · obtain ⟨lv, l, d, us, LL', L', rfl, hl, pls, asc, hd, pm, l4, nd, ok, k⟩ := h
    have cap := lines_cap l4 nd ok
    have c0 := cap_le
    refine ⟨_, (pss_cons (ps_setLc (x := "line") (fr := []) (js := []) (i := 2) sc_law_cells.nd rfl rfl ⟨rfl, by decide +kernel, by decide +kernel, rfl, rfl, by decide +kernel, by decide +kernel, by decide +kernel, by decide +kernel⟩ rfl rfl rfl (pi_list (pe_callB (Srt.call_sortedD rfl) (by rfl) T.n_sorted bb_sorted (pa_cons (pv 1) pa_nil))) (fun cl fp s H => (pcall T.d_law_place G_law_place (hr.mono (by decide)) (pa_cons (pv 0) pa_nil))))
      (pss_cons (ps_if (PW.pt (pw_or (pt_not (pt_val (pe_callB call_isi (by rfl) T.n_isinstance bb_isinstance (pa_cons (pv 0) (pa_cons (pe_bltn (v := .ty "list") rfl T.n_list bb_list rfl) pa_nil))))) (pw_or1 (pt_cmpR op_ne (pe_callB call_len_seq (by rfl) T.n_len bb_len (pa_cons (pv 0) pa_nil)) (pe_callB call_len_seq (by rfl) T.n_len bb_len (pa_cons (pv 2) pa_nil)) (nomark _)))))
        (pss_one (ps_ret pe_bl))
        pss_nil)
      (pss_cons (ps_for PassesOwn.never rfl (pi_range1 rfl T.n_range (pa_cons (pe_callB call_len_seq (by rfl) T.n_len bb_len (pa_cons (pv 2) pa_nil)) pa_nil)) (pg_name (i := 3) sc_law_cells.nd rfl (by first | exact Or.inl rfl | exact Or.inr rfl))
        (pss_one (ps_if (pt_not (pt_val (pcall T.d_law_place_alike G_law_place_alike (hr.mono (by decide)) (pa_cons (pe_ix ix_list (pv 0) (pv 3) (fun _ _ => rfl)) (pa_cons (pe_ix ix_list (pv 2) (pv 3) (fun _ _ => rfl)) pa_nil)))))
          (pss_one (ps_ret pe_bl))
          pss_nil)))
      (pss_one (ps_ret pe_bl))))), ?_⟩
    refine ⟨_, rfl, d, L', fun _ => .bl true, rfl, hd, nil_few nd ok, (by omega), fun D us2 L2 H1 s1 nD hD ht p1 a1 => ?_⟩
    obtain rfl := asc_uniq (pm.trans p1.symm) asc a1
    refine ⟨D, rfl, ⟨_, SqL.of hD⟩, fun D2 hD2 => ?_⟩
    have ul := ht.len
    have pl := pm.length_eq
    have pl2 := pls.len
    refine lc_list (xs := us2) (fun i ys H' => Same H1 H' ∧ H' D2 = some (.lst ys) ∧ Pls K H' ys (LL'.take i)) ⟨same_upd hD2, upd_same, rfl, fun i xs e => by simp at e⟩ (fun i ys H' ⟨s', _⟩ => SqL.of (s' _ _ hD)) ?_ ?_
    · rintro i u ys H2 hu ⟨s2, h2, t2⟩
      obtain ⟨b, xs, rfl, hxs, hb⟩ := ht.get hu
      have hi : i < us2.length := (List.getElem?_eq_some_iff.mp hu).1
      have xm : xs ∈ L' := pm.mem_iff.mp (List.mem_of_getElem? hxs)
      refine ⟨_, rfl, b, xs, rfl, .inr (SqT.of (s2 _ _ hb)), (ok xs xm).2, fun p3 H3 s3 hp3 => ?_⟩
      have h3 := s3 _ _ h2
      have yl := t2.len
      rw [List.length_take] at yl
      refine lc_nx h3 (Nat.lt_of_le_of_lt (m := 2401) (by omega) (by decide)) hi ⟨(s2.trans s3).upd hD2, upd_same, ?_⟩
      rw [Rg.take_snoc hxs]
      exact ((t2.keep s3).snoc hp3.pl).updL h3
    · rintro ys H2 ⟨s2, h2, t2⟩
      rw [ul, List.take_length] at t2
      have hl2 := s2 _ _ (s1 _ _ hl)
      have t2l := t2.len
      refine ⟨_, rfl, _, _, _, _, rfl, rfl, .lst (SqL.of hl2), kit_same _ _, _, rfl, iteF ?_⟩
      refine ⟨_, rfl, l, _, rfl, .inl (SqL.of hl2), _, rfl, D2, _, rfl, .inl (SqL.of h2), ?_⟩
      rw [pl2, t2l]
      refine ⟨rfl, _, rfl, iteNS rfl ?_⟩
      refine ⟨_, rfl, D2, _, rfl, .inl (SqL.of h2), _, rfl, by omega, by omega, ?_⟩
      refine for_range' (lo := 0) (fun i σ H' => ∃ y, σ = [some (.ref l), some (.ref d), some (.ref D2), y] ∧ Same H2 H') ⟨_, rfl, Same.refl _⟩ ?_ ?_
      · rintro i σ H3 hi ⟨y, rfl, s3⟩ D1 hN1
        have hi' : i < LL'.length := by omega
        obtain ⟨u1, hu1, p1⟩ := pls.at_ i _ (List.getElem?_eq_getElem hi')
        obtain ⟨u2, hu2, p2⟩ := t2.at_ i _ (List.getElem?_eq_getElem hi')
        refine ⟨_, rfl, _, rfl, l, us, _, u1, rfl, rfl, SqL.of (s3 _ _ hl2), (by rw [Int.zero_add]; exact atI_nat hu1), _, rfl, _, rfl, D2, ys, _, u2, rfl, rfl, SqL.of (s3 _ _ h2), (by rw [Int.zero_add]; exact atI_nat hu2), u1, u2, _, _, _, _, rfl, ((s1.trans s2).trans s3).pl p1, s3.pl p2, _, rfl, ?_⟩
        rw [decide_eq_true rfl]
        exact iteF (hN1 _ _ ⟨_, rfl, s3⟩)
      · rintro σ H3 ⟨y, rfl, s3⟩
        exact k _ ((s1.trans s2).trans s3)

--CUT
def sp_lright (C : Addr) : Sp := fun vs H Q _ => ∃ (v : V) (lv : Nat) (d : Addr) (LL L' : List (List Int)), vs = [v, .int lv, .ref d] ∧ RegOk C H v lv LL ∧ H d = some (.dT (dset L')) ∧ L'.Nodup ∧ (∀ x, x ∈ L' ↔ x ∈ LL) ∧ ∀ H', Same H H' → Q (.bl true) H'
theorem ok_law_right (T : Txt K mg t) : FnOk P w K mg base CX0 6 t.f_law_right t.x_law_right ["region", "level", "lines"] (sp_lright t.c_Region) := by
  have G_law_told := ok_law_told (P := P) (w := w) (base := base) T
  have G_law_cells := ok_law_cells (P := P) (w := w) (base := base) T
  have G_law_whole := ok_law_whole (P := P) (w := w) (base := base) T
  have G_Region_told := ok_Region_told (P := P) (w := w) (base := base) T
  have G_Region_cells := ok_Region_cells (P := P) (w := w) (base := base) T
  have G_Region_many := ok_Region_many (P := P) (w := w) (base := base) T
  refine T.d_law_right.F.ok sc_law_right (fun vs H Q E h => ?_) (fun cdv A outer s H vs Q E hr h => ?_)
  · obtain ⟨v, lv, d, LL, L', rfl, _⟩ := h; rfl
  · obtain ⟨v, lv, d, LL, L', rfl, r, hd', nd', same, k⟩ := h
    obtain ⟨x, dx, dd, rfl, hx, hd⟩ := id r.at_
    have pm : LL.Perm L' := Rg.perm_of r.nd nd' fun z => (same z).symm
    have okL' : LinesOk lv L' := fun z hz => r.ok z ((same z).mp hz)
    refine ⟨_, (pss_cons (ps_if (PW.pt (pw_or (pt_not (pt_val (pcall T.d_law_told G_law_told (hr.mono (by decide)) (pa_cons (pmeth0 T.cl_Region T.d_Region_told G_Region_told (hr.mono (by decide)) (pv 0)) (pa_cons (pv 1) (pa_cons (pv 2) pa_nil)))))) (pw_or1 (pt_not (pt_val (pcall T.d_law_cells G_law_cells (hr.mono (by decide)) (pa_cons (pmeth0 T.cl_Region T.d_Region_cells G_Region_cells (hr.mono (by decide)) (pv 0)) (pa_cons (pv 2) pa_nil))))))))
        (pss_one (ps_ret pe_bl))
        pss_nil)
      (pss_cons (ps_set (i := 3) sc_law_right.nd rfl (by first | exact Or.inl rfl | exact Or.inr rfl) (pmeth0 T.cl_Region T.d_Region_many G_Region_many (hr.mono (by decide)) (pv 0)))
      (pss_one (ps_ret (pe_and (pcall T.d_law_whole G_law_whole (hr.mono (by decide)) (pa_cons (pv 3) pa_nil)) (pe_and (pe_cmpR op_eq (pv 3) (pe_callB call_lenDT (by rfl) T.n_len bb_len (pa_cons (pv 2) pa_nil)) (nomark _)) (pe_and (pcall T.d_law_whole G_law_whole (hr.mono (by decide)) (pa_cons (pe_fld (pv 0) rfl) pa_nil)) (pe_one (pe_cmpR op_eq (pe_fld (pv 0) rfl) (pv 1) (nomark _)))))))))), ?_⟩
    refine ⟨_, rfl, x, dx, _, rfl, hx, rfl, .ref x, lv, LL, LL, rfl, r.at_, r.l4, r.nd, r.ok, self_covers r.ok, lines_cap r.l4 r.nd r.ok, fun l us R H1 s1 n1 h1 rr ndR mem asc => ?_⟩
    refine ⟨_, rfl, _, rfl, lv, l, d, us, LL, L', R, rfl, h1, rr, .inl (s1 _ _ hd'), ⟨r.l4, r.ok, ndR, mem, asc, nd', same⟩, fun H2 s2 => ⟨_, rfl, iteF ?_⟩⟩
    have s12 := s1.trans s2
    refine ⟨_, rfl, x, dx, _, rfl, s12 _ _ hx, rfl, .ref x, lv, LL, rfl, r.keep s12, fun l3 us3 L3 H3 s3 n3 h3 pls pm3 asc3 => ?_⟩
    refine ⟨_, rfl, lv, l3, d, us3, L3, L', rfl, h3, pls, asc3, s3 _ _ (s12 _ _ hd'), pm3.trans pm, r.l4, nd', okL', fun H4 s4 => ⟨_, rfl, iteF ?_⟩⟩
    have s14 := s12.trans (s3.trans s4)
    have hx4 := s14 _ _ hx
    refine ⟨_, rfl, x, dx, _, rfl, hx4, rfl, .ref x, lv, LL, rfl, r.at_.keep s14, ?_⟩
    refine ⟨_, rfl, _, rfl, _, rfl, iteT ?_⟩
    refine ⟨_, rfl, _, rfl, d, _, rfl, .inl (s14 _ _ hd'), ?_⟩
    rw [dset_len, ← pm.length_eq]
    refine ⟨rfl, _, rfl, ?_⟩
    rw [decide_eq_true rfl]
    refine iteT ⟨_, rfl, x, _, dx, _, _, rfl, hx4, T.cl_Region, T.na_Region_level, rfl, _, rfl, _, rfl, iteT ?_⟩
    refine ⟨_, rfl, x, _, dx, _, _, rfl, hx4, T.cl_Region, T.na_Region_level, rfl, _, rfl, rfl, ?_⟩
    show Q (.bl (decide (V.int (lv : Int) = V.int (lv : Int)))) H4
    rw [decide_eq_true rfl]
    exact k H4 s14
--CUT
theorem init_rows {C cL cF cC : Addr} {H : Hp} {lc : Addr} {us : List V} {R : List (List Int)} {lv : Nat} {Q : Addr → Hp → Prop} (hl : H lc = some (.lst us)) (rr : HRows H us R) (fg : FigsIn R) (shn : ∀ b ∈ R, b.length ≤ lv) (l4 : lv ≤ 4) (len : R.length ≤ 5000)
    (k : ∀ x3 H', Same H H' → RegOk C H' (.ref x3) lv (Rg.lall lv R) → Q x3 H') (x dx : Addr) (nx : H x = none) (ndx : H dx = none) (ne : dx ≠ x) :
    sp_initE K C cL cF cC [.ref x, .int lv, .ref lc] (upd (upd H dx (.own x)) x (.ins C dx [])) (fun v H2 => v = .non ∧ Q x H2) E0 := by
  have sh : ShortIn lv R := fun b hb => by have := shn b hb; omega
  have u := rr.len
  have sM : Same H (upd (upd H dx (.own x)) x (.ins C dx [])) := (same_upd ndx).trans (same_upd (by rw [upd_ne ne.symm]; exact nx))
  generalize hHm : upd (upd H dx (.own x)) x (.ins C dx []) = Hm at sM
  have hxm : Hm x = some (.ins C dx []) := by rw [← hHm]; exact upd_same
  refine ⟨x, dx, lv, lc, us, R, rfl, hxm, SqL.of (sM _ _ hl), (rr.keep sM).rows, by omega, fun _ _ _ d3 H5 sb nd hx3 hd3 => ⟨rfl, ?_⟩, fun hl => absurd ⟨by omega, by omega⟩ hl, fun _ hf => absurd fg hf, fun _ _ hs => absurd sh hs⟩
  have s5 : Same H H5 := fun b o e => sb b o (ne_of_none e nx) (sM _ _ e)
  rw [Int.toNat_natCast] at hd3
  exact k x H5 s5 ⟨⟨x, dx, d3, rfl, hx3, hd3⟩, l4, Rg.lall_nodup _ _, Rg.lall_ok fg shn⟩

theorem RegOk.updL {C : Addr} {H : Hp} {v : V} {lv : Nat} {LL : List (List Int)} {D : Addr} {ys : List V} {o : HO} (hD : H D = some (.lst ys)) (h : RegOk C H v lv LL) : RegOk C (upd H D o) v lv LL := by
  obtain ⟨⟨x, dx, d, e, hx, hd⟩, l4, nd, ok⟩ := h
  exact ⟨⟨x, dx, d, e, by rw [upd_ne (ne_of hx hD (by intro z; cases z))]; exact hx, by rw [upd_ne (ne_of hd hD (by intro z; cases z))]; exact hd⟩, l4, nd, ok⟩
theorem dict_updL {H : Hp} {d D : Addr} {ys : List V} {o : HO} {kvs : List (List Key × V)} (hD : H D = some (.lst ys)) (hd : H d = some (.dT kvs)) : upd H D o d = some (.dT kvs) := by
  rw [upd_ne (ne_of hd hD (by intro z; cases z))]; exact hd
def PvF (Hf : Hp) (D : Addr) (zs : List Int) (g : Int) : Nat → List V → Hp → Prop := fun i ys H' => Same Hf H' ∧ H' D = some (.lst ys) ∧ HRows H' ys (((Rg.figs.take i).filter fun f => !decide (f = g)).map fun f => zs ++ [f]) ∧ ∀ u ∈ ys, u ≠ .ref D
def sp_law (K : PySem.W.Frag) : Sp := fun vs H Q _ => ∃ (a : Addr) (ns : List Int), vs = [.ref a] ∧ SqL K H a (ns.map V.int) ∧ ns.length ≤ 63 ∧ ∀ H', Q (.bl true) H'
theorem ok_law (T : Txt K mg t) : FnOk P w K mg base CX0 7 t.f_law t.x_law ["script"] (sp_law K) := by
  have G_law_cell_at := ok_law_cell_at (P := P) (w := w) (base := base) T
  have G_law_level := ok_law_level (P := P) (w := w) (base := base) T
  have G_law_rows := ok_law_rows (P := P) (w := w) (base := base) T
  have G_law_all := ok_law_all (P := P) (w := w) (base := base) T
  have G_law_right := ok_law_right (P := P) (w := w) (base := base) T
  have G_Region_init := ok_Region_init (P := P) (w := w) (base := base) T
  have G_Region_told := ok_Region_told (P := P) (w := w) (base := base) T
  have G_Region_cells := ok_Region_cells (P := P) (w := w) (base := base) T
  refine T.d_law.F.ok sc_law (fun vs H Q E h => ?_) (fun cdv A outer s H vs Q E hr h => ?_)
  · obtain ⟨a, ns, rfl, _⟩ := h; rfl
  · obtain ⟨a, ns, rfl, hS, hlen, k⟩ := h
    have hu64 := hr.units
    have hu := hu_of hr
    have c0 := cap_le
    -- what was handed in and what was told is changed
    obtain ⟨tr7, hrest7, hC7⟩ : ∃ tr', PSs (cxOf CX0 P w K mg base ["script", "level", "rows", "cell", "head", "k", "gone", "lines", "handed", "region", "row"] "law" (defScope s_law) t.f_law cdv A outer s H E).nox ((defBody s_law).drop 7) tr' ∧
        ∀ (lv : Nat) (LL L' : List (List Int)) (xv : V) (dl lh : Addr) (uh : List V) (y0 y2 y3 y4 y5 y6 y10 : Option V) H1, RegOk t.c_Region H1 xv lv LL → H1 dl = some (.dT (dset L')) → L'.Nodup → (∀ x, x ∈ L' ↔ x ∈ LL) → H1 lh = some (.lst uh) → uh.length ≤ 100 →
          (∀ u ∈ uh, ∃ a zs, u = .ref a ∧ a ≠ lh ∧ H1 a = some (.lst zs) ∧ zs.length ≤ 10) →
          tr' { nx := fun _ H' => Q .non H', rt := Q } [y0, some (.int lv), y2, y3, y4, y5, y6, some (.ref dl), some (.ref lh), some xv, y10] H1 := by
      refine ⟨_, (pss_cons (ps_for PassesOwn.never rfl (pi_list (pv 8)) (pg_name (i := 10) sc_law.nd rfl (by first | exact Or.inl rfl | exact Or.inr rfl))
        (pss_one (ps_expr (pe_bm PySem.F.plainAttrs_list PySem.F.slot_list_append PySem.F.type_list_append mt_append (pv 10) (pa_cons pe_int pa_nil)))))
      (pss_cons (ps_expr (pe_bm0 PySem.F.plainAttrs_list PySem.F.slot_list_clear PySem.F.type_list_clear mt_clear (pv 8)))
      (pss_cons (ps_expr (pe_bm PySem.F.plainAttrs_list PySem.F.slot_list_append PySem.F.type_list_append mt_append (pmeth0 T.cl_Region T.d_Region_told G_Region_told (hr.mono (by decide)) (pv 9)) (pa_cons (pe_lstN pa_nil) pa_nil)))
      (pss_cons (ps_expr (pe_bm0 PySem.F.plainAttrs_list PySem.F.slot_list_clear PySem.F.type_list_clear mt_clear (pmeth0 T.cl_Region T.d_Region_cells G_Region_cells (hr.mono (by decide)) (pv 9))))
      (pss_one (ps_ret (pcall T.d_law_right G_law_right (hr.mono (by decide)) (pa_cons (pv 9) (pa_cons (pv 1) (pa_cons (pv 7) pa_nil)))))))))), fun lv LL L' xv dl lh uh y0 y2 y3 y4 y5 y6 y10 H1 r hd nd same hh ul rows => ?_⟩
      refine ⟨_, rfl, lh, rfl, ⟨_, SqL.of hh⟩, for_list' (xs := uh) (fun i σ H' => ∃ y, σ = [y0, some (.int lv), y2, y3, y4, y5, y6, some (.ref dl), some (.ref lh), some xv, y] ∧ RegOk t.c_Region H' xv lv LL ∧ H' dl = some (.dT (dset L')) ∧ H' lh = some (.lst uh) ∧
          ∀ u ∈ uh, ∃ a zs, u = .ref a ∧ a ≠ lh ∧ H' a = some (.lst zs) ∧ zs.length ≤ 10 + i)
        ⟨_, rfl, r, hd, hh, rows⟩ (fun i σ H' _ ⟨_, _, _, _, h, _⟩ => SqL.of h) ?_ ?_⟩
      · rintro i u σ H2 hu ⟨y, rfl, r2, hd2, hh2, rows2⟩ D1 hN1 _
        have hi := (List.getElem?_eq_some_iff.mp hu).1
        obtain ⟨a2, zs, rfl, ne, ha, hz⟩ := rows2 u (List.mem_of_getElem? hu)
        refine ⟨_, rfl, .inl ⟨rfl, _, SqL.of ha⟩, a2, zs, _, rfl, rfl, ha, small1000 (by omega), ?_⟩
        refine hN1 _ _ ⟨_, rfl, r2.updL ha, dict_updL ha hd2, by rw [upd_ne ne.symm]; exact hh2, fun u hu => ?_⟩
        obtain ⟨a3, zs3, rfl, ne3, ha3, hz3⟩ := rows2 u hu
        by_cases e : a3 = a2
        · subst e
          exact ⟨a3, _, rfl, ne3, upd_same, by rw [List.length_append, List.length_singleton]; omega⟩
        · exact ⟨a3, zs3, rfl, ne3, by rw [upd_ne e]; exact ha3, by omega⟩
      · rintro σ H2 ⟨y, rfl, r2, hd2, hh2, _⟩
        refine ⟨_, rfl, .inl ⟨rfl, _, SqL.of hh2⟩, lh, uh, rfl, rfl, hh2, ?_⟩
        have r3 := r2.updL (o := .lst []) hh2
        have hd3 := dict_updL (o := .lst []) hh2 hd2
        generalize upd H2 lh (.lst []) = H3 at r3 hd3 ⊢
        obtain ⟨x, dx, dd, rfl, hx, hdd⟩ := id r3.at_
        refine ⟨_, rfl, x, dx, _, rfl, hx, rfl, .ref x, lv, LL, LL, rfl, r3.at_, r3.l4, r3.nd, r3.ok, self_covers r3.ok, lines_cap r3.l4 r3.nd r3.ok, fun l us R H4 s4 n4 h4 rr ndR mem asc => ?_⟩
        have len : R.length ≤ capB := Nat.le_trans (Rg.tops_le ndR (fun r hr => (mem r).mp hr) (self_covers r3.ok)) (lines_cap r3.l4 r3.nd r3.ok)
        have rl := rr.len
        refine ⟨.inl ⟨rfl, _, SqL.of h4⟩, (by walk_at "rdc"), fun l0 H5 s5 n5 h5 => ?_⟩
        have h45 := s5 _ _ h4
        refine ⟨l, us, _, rfl, rfl, h45, Nat.lt_of_le_of_lt (m := 5000) (by omega) (by decide), ?_⟩
        have r5 := ((r3.keep s4).keep s5).updL (o := .lst (us ++ [.ref l0])) h45
        have hd5 := dict_updL (o := .lst (us ++ [.ref l0])) h45 (s5 _ _ (s4 _ _ hd3))
        generalize upd H5 l (.lst (us ++ [.ref l0])) = H6 at r5 hd5 ⊢
        obtain ⟨x', dx', dd', e, hx', hdd'⟩ := id r5.at_
        cases e
        refine ⟨_, rfl, x, dx', _, rfl, hx', rfl, .ref x, lv, LL, rfl, r5, fun l7 us7 L7 H7 s7 n7 h7 pls pm asc7 => ?_⟩
        refine ⟨.inl ⟨rfl, _, SqL.of h7⟩, l7, us7, rfl, rfl, h7, ?_⟩
        have r8 := (r5.keep s7).updL (o := .lst []) h7
        have hd8 := dict_updL (o := .lst []) h7 (s7 _ _ hd5)
        generalize upd H7 l7 (.lst []) = H8 at r8 hd8 ⊢
        exact ⟨_, rfl, _, rfl, _, rfl, .ref x, lv, dl, LL, L', rfl, r8, hd8, nd, same, fun H9 s9 => k H9⟩
    -- the region is made
    obtain ⟨tr3, hrest3, hC3⟩ : ∃ tr', PSs (cxOf CX0 P w K mg base ["script", "level", "rows", "cell", "head", "k", "gone", "lines", "handed", "region", "row"] "law" (defScope s_law) t.f_law cdv A outer s H E).nox ((defBody s_law).drop 3) tr' ∧
        ∀ (lv : Nat) (lr : Addr) (us : List V) (xss : List (List Int)) (y0 y3 y4 y5 y6 y7 y8 y9 y10 : Option V) H1, lv ≤ 4 → H1 lr = some (.lst us) → HRows H1 us xss → FigsIn xss → (∀ xs ∈ xss, xs.length ≤ lv) → xss.length ≤ 20 →
          tr' { nx := fun _ H' => Q .non H', rt := Q } [y0, some (.int lv), some (.ref lr), y3, y4, y5, y6, y7, y8, y9, y10] H1 := by
      refine ⟨_, (pss_cons (ps_set (i := 7) sc_law.nd rfl (by first | exact Or.inl rfl | exact Or.inr rfl) (pcall T.d_law_all G_law_all (hr.mono (by decide)) (pa_cons (pv 2) (pa_cons (pv 1) pa_nil))))
      (pss_cons (ps_setLc (x := "row") (fr := []) (js := []) (i := 8) sc_law.nd rfl rfl ⟨rfl, by decide +kernel, by decide +kernel, rfl, rfl, by decide +kernel, by decide +kernel, by decide +kernel, by decide +kernel⟩ rfl rfl rfl (pi_list (pv 2)) (fun cl fp s H => (pe_callTy (call_listK (K := K) rfl) (by rfl) T.n_list bb_list (pa_cons (pv 0) pa_nil))))
      (pss_cons (ps_set (i := 9) sc_law.nd rfl (by first | exact Or.inl rfl | exact Or.inr rfl) (pmake T.m_Region T.k_Region T.d_Region_init G_Region_init (hr.mono (by decide)) (pa_cons (pv 1) (pa_cons (pv 8) pa_nil))))
      (pss_cons (ps_if (PW.pt (pw_or (pt_cmpR (op_neLL hu64) (pv 8) (pv 2) (nomark _)) (pw_or1 (pt_not (pt_val (pcall T.d_law_right G_law_right (hr.mono (by decide)) (pa_cons (pv 9) (pa_cons (pv 1) (pa_cons (pv 7) pa_nil)))))))))
        (pss_one (ps_ret pe_bl))
        pss_nil)
      hrest7)))), fun lv lr us xss y0 y3 y4 y5 y6 y7 y8 y9 y10 H1 lv4 h1 rr fg shn xl => ?_⟩
      refine ⟨_, rfl, _, rfl, lv, lr, us, xss, rfl, SqL.of h1, rr.rows, lv4, shn, by omega, fun dl H2 s2 n2 h2 => ?_⟩
      have h12 := s2 _ _ h1
      have rr2 := rr.keep s2
      have rl := rr.len
      refine ⟨_, rfl, lr, rfl, ⟨_, SqL.of h12⟩, fun D hD => ?_⟩
      refine lc_list (xs := us) (fun i ys H' => Same H2 H' ∧ H' D = some (.lst ys) ∧ HRows H' ys (xss.take i) ∧ ∀ u ∈ ys, u ≠ .ref D) ⟨same_upd hD, upd_same, .nil, by simp⟩ (fun i ys H' ⟨s', _⟩ => SqL.of (s' _ _ h12)) ?_ ?_
      · rintro i u ys H3 hu ⟨s3, h3, t3, n3⟩
        have hi : i < us.length := (List.getElem?_eq_some_iff.mp hu).1
        obtain ⟨b, hb⟩ : ∃ b, xss[i]? = some b := ⟨_, List.getElem?_eq_getElem (by rw [← rl]; exact hi)⟩
        obtain ⟨c, hc, hcb⟩ := rr2.get hb
        rw [hu] at hc
        cases hc
        have yl := t3.len
        rw [List.length_take] at yl
        refine ⟨_, rfl, c, _, rfl, .inl (SqL.of (s3 _ _ hcb)), fun l3 H4 s4 n4 h4 => ?_⟩
        have h34 := s4 _ _ h3
        have ne : ∀ u ∈ ys ++ [V.ref l3], u ≠ .ref D := fun u hu => by
          rcases List.mem_append.mp hu with z | z
          · exact n3 u z
          · rw [List.mem_singleton.mp z]
            exact fun w => ne_of_none h3 n4 (by injection w with w; exact w.symm)
        refine lc_nx h34 (small1000 (by omega)) hi ⟨(s3.trans s4).upd hD, upd_same, ?_, ne⟩
        rw [Rg.take_snoc hb]
        exact ((t3.keep s4).snoc h4).upd ne
      · rintro ys H3 ⟨s3, h3, t3, n3⟩
        rw [rl, List.take_length] at t3
        have yl := t3.len
        refine ⟨_, rfl, _, rfl, init_rows h3 t3 fg shn lv4 (by omega) fun v4 H4 s4 r4 => ?_⟩
        have s14 := (s2.trans s3).trans s4
        refine ⟨_, rfl, _, rfl, D, lr, ys, us, xss, xss, rfl, rfl, SqL.of (s4 _ _ h3), SqL.of (s14 _ _ h1), (t3.keep s4).rows, (rr.keep s14).rows, _, rfl, ?_⟩
        rw [decide_eq_true rfl]
        refine iteF ?_
        have nW : (lawLines lv xss).Nodup := Rg.puts_nodup (by simp)
        refine ⟨_, rfl, _, rfl, _, rfl, .ref v4, lv, dl, _, lawLines lv xss, rfl, r4, s4 _ _ (s3 _ _ h2), nW, fun x => mem_lawLines, fun H5 s5 => ⟨_, rfl, iteF ?_⟩⟩
        refine hC7 lv _ (lawLines lv xss) (.ref v4) dl D ys _ _ _ _ _ _ _ H5 (r4.keep s5) (s5 _ _ (s4 _ _ (s3 _ _ h2))) nW (fun x => mem_lawLines) (s5 _ _ (s4 _ _ h3)) (by omega) fun u hu => ?_
        obtain ⟨i, hi, hiu⟩ := List.mem_iff_getElem.mp hu
        obtain ⟨b, hb⟩ : ∃ b, xss[i]? = some b := ⟨_, List.getElem?_eq_getElem (by omega)⟩
        obtain ⟨c, hc, hcb⟩ := t3.get hb
        rw [List.getElem?_eq_getElem hi, hiu] at hc
        cases hc
        refine ⟨c, _, rfl, fun z => n3 _ hu (by rw [z]), s5 _ _ (s4 _ _ hcb), ?_⟩
        rw [List.length_map]
        have := shn b (List.mem_of_getElem? hb)
        omega
    refine ⟨_, (pss_cons (ps_set (i := 1) sc_law.nd rfl (by first | exact Or.inl rfl | exact Or.inr rfl) (pcall T.d_law_level G_law_level (hr.mono (by decide)) (pa_cons (pcall T.d_law_cell_at G_law_cell_at (hr.mono (by decide)) (pa_cons (pv 0) (pa_cons pe_int pa_nil))) pa_nil)))
      (pss_cons (ps_set (i := 2) sc_law.nd rfl (by first | exact Or.inl rfl | exact Or.inr rfl) (pcall T.d_law_rows G_law_rows (hr.mono (by decide)) (pa_cons (pv 0) (pa_cons pe_int (pa_cons (pv 1) pa_nil)))))
      (pss_cons (ps_if (PW.pt (pw_and (pt_cmpR op_gt (pv 1) pe_int (nomark _)) (pw_and1 (pt_cmpR op_gt (pe_op op_mod (pcall T.d_law_cell_at G_law_cell_at (hr.mono (by decide)) (pa_cons (pv 0) (pa_cons pe_int pa_nil))) pe_int) pe_int (nomark _)))))
        (pss_cons (ps_set (i := 3) sc_law.nd rfl (by first | exact Or.inl rfl | exact Or.inr rfl) (pcall T.d_law_cell_at G_law_cell_at (hr.mono (by decide)) (pa_cons (pv 0) (pa_cons pe_int pa_nil))))
        (pss_cons (ps_set (i := 4) sc_law.nd rfl (by first | exact Or.inl rfl | exact Or.inr rfl) (pe_lstN pa_nil))
        (pss_cons (ps_for PassesOwn.never rfl (pi_range1 rfl T.n_range (pa_cons (pe_op op_sub (pv 1) pe_int) pa_nil)) (pg_name (i := 5) sc_law.nd rfl (by first | exact Or.inl rfl | exact Or.inr rfl))
          (pss_cons (ps_expr (pe_bm PySem.F.plainAttrs_list PySem.F.slot_list_append PySem.F.type_list_append mt_append (pv 4) (pa_cons (pe_op op_mod (pv 3) pe_int) pa_nil)))
          (pss_one (ps_set (i := 3) sc_law.nd rfl (by first | exact Or.inl rfl | exact Or.inr rfl) (pe_op op_fdiv (pv 3) pe_int)))))
        (pss_cons (ps_set (i := 6) sc_law.nd rfl (by first | exact Or.inl rfl | exact Or.inr rfl) (pe_op op_mod (pcall T.d_law_cell_at G_law_cell_at (hr.mono (by decide)) (pa_cons (pv 0) (pa_cons pe_int pa_nil))) pe_int))
        (pss_one (ps_set (i := 2) sc_law.nd rfl (by first | exact Or.inl rfl | exact Or.inr rfl) (pe_op op_catN (pv 2) (pe_lcI (x := "figure") (fr := ["gone", "head"]) (js := [6, 4]) ⟨rfl, by decide +kernel, by decide +kernel, rfl, rfl, by decide +kernel, by decide +kernel, by decide +kernel, by decide +kernel⟩ rfl rfl rfl (pi_range1 rfl T.n_range (pa_cons pe_int pa_nil)) (fun cl fp s H => (pt_cmpR op_ne (pv 0) (pv 1) (nomark _))) (fun cl fp s H => (pe_op op_catN (pv 2) (pe_lstN (pa_cons (pv 0) pa_nil))))))))))))
        pss_nil)
      hrest3))), ?_⟩
    refine ⟨_, rfl, a, ns, 0, rfl, hS, by decide, _, rfl, fun lv H0 lv4 s0 => ?_⟩
    refine ⟨_, rfl, _, rfl, a, ns, 1, lv, rfl, s0.seq hS, by decide, by omega, by omega, fun lr us xss H1 s1 n1 h1 rr nl fg sh xl => ?_⟩
    have shn : ∀ xs ∈ xss, xs.length ≤ lv := fun xs hx => by have := sh xs hx; omega
    have hS1 := s1.seq (s0.seq hS)
    refine ⟨_, rfl, _, _, rfl, rfl, _, rfl, ite2 (fun c1 => ?_) (fun _ => iteF (hC3 lv lr us xss _ _ _ _ _ _ _ _ _ H1 lv4 h1 rr fg shn (by omega)))⟩
    have lv0 : (0 : Int) < lv := of_decide_eq_true c1
    refine ⟨_, rfl, a, ns, 10, rfl, hS1, by decide, _, _, rfl, rfl, (by show (0 : Int) < 3; decide), _, _, rfl, rfl, _, rfl, ite2 (fun _ => ?_) (fun _ => hC3 lv lr us xss _ _ _ _ _ _ _ _ _ H1 lv4 h1 rr fg shn (by omega))⟩
    -- lines of one head
    refine ⟨_, rfl, a, ns, 11, rfl, hS1, by decide, ?_⟩
    refine ⟨(by walk_at "rdc"), fun lh H2 s2 n2 h2 => ?_⟩
    refine ⟨_, rfl, _, _, rfl, rfl, _, rfl, by omega, by omega, ?_⟩
    have en : ((lv : Int) - 1).toNat = lv - 1 := by omega
    rw [en]
    refine for_range' (lo := 0) (fun j σ H' => ∃ x c zs, σ = [some (.ref a), some (.int lv), some (.ref lr), some (.int c), some (.ref lh), x, none, none, none, none, none] ∧ Same H1 H' ∧ H' lh = some (.lst (List.map V.int zs)) ∧ (∀ f ∈ zs, Fig f) ∧ zs.length = j)
      ⟨_, _, [], rfl, s2, h2, fun f hf => by simp at hf, rfl⟩ ?_ ?_
    · rintro j σ H3 hj ⟨x, c, zs, rfl, s3, h3, fz, lz⟩ D1 hN1
      refine ⟨_, rfl, .inl ⟨rfl, _, SqL.of h3⟩, _, rfl, _, _, rfl, rfl, (by show (0 : Int) < 7; decide), lh, _, _, rfl, rfl, h3, small1000 (by simp; omega), ?_⟩
      refine ⟨_, rfl, _, _, rfl, rfl, ⟨by decide, by decide⟩, ?_⟩
      refine hN1 _ _ ⟨_, _, zs ++ [_], rfl, s3.upd n2, by rw [upd_same, List.map_append]; rfl, fun f hf => ?_, by simp [lz]⟩
      rcases List.mem_append.mp hf with hf | hf
      · exact fz f hf
      · rw [List.mem_singleton.mp hf]; exact fig_mod _
    · rintro σ H3 ⟨x, c, zs, rfl, s3, h3, fz, lz⟩
      refine ⟨_, rfl, a, ns, 12, rfl, s3.seq hS1, by decide, _, _, rfl, rfl, (by show (0 : Int) < 8; decide), ?_⟩
      refine ⟨_, rfl, ?_⟩
      refine ⟨_, rfl, (by show (-(2 ^ 62) : Int) ≤ 7; decide), (by show (7 : Int) < 2 ^ 62; decide), fun D hD => ?_⟩
      refine lcS_range (lo := 0) (n := 7) (PvF H3 D zs (cl ns 12 % 8)) ⟨same_upd hD, upd_same, .nil, by simp⟩ ?_ ?_
      · rintro i ys H4 hi ⟨s4, h4, t4, n4⟩
        have hff : Rg.figs[i]? = some (0 + (i : Int)) := by
          have : i = 0 ∨ i = 1 ∨ i = 2 ∨ i = 3 ∨ i = 4 ∨ i = 5 ∨ i = 6 := by omega
          rcases this with rfl | rfl | rfl | rfl | rfl | rfl | rfl <;> rfl
        have yl := t4.len
        rw [List.length_map] at yl
        have fl := List.length_filter_le (fun f => !decide (f = cl ns 12 % 8)) (Rg.figs.take i)
        rw [List.length_take] at fl
        refine ⟨_, rfl, _, rfl, rfl, _, rfl, ?_⟩
        by_cases cg : 0 + (i : Int) = cl ns 12 % 8
        · rw [decide_eq_true (show V.int (0 + (i : Int)) = (fun i j => V.int (i % j)) (cl ns 12) 8 by show V.int _ = V.int (cl ns 12 % 8); rw [cg])]
          refine iteF (lcS_skip (Pv := PvF H3 D zs (cl ns 12 % 8)) hi ⟨s4, h4, ?_, n4⟩)
          rw [Rg.take_snoc hff, List.filter_append, List.filter_cons, if_neg (by simp [← cg])]
          simpa using t4
        · rw [decide_eq_false (show ¬ V.int (0 + (i : Int)) = (fun i j => V.int (i % j)) (cl ns 12) 8 from fun z => cg (by injection z))]
          refine iteT ⟨_, rfl, _, rfl, (by walk_at "rdc"), fun l5 H5 s5 n5 h5 => ?_⟩
          refine ⟨lh, l5, _, _, rfl, rfl, s5 _ _ (s4 _ _ h3), h5, Nat.le_of_lt (small1000 (by simp; omega)), fun l6 H6 s6 n6 h6 => ?_⟩
          have h6' : H6 l6 = some (.lst (List.map V.int (zs ++ [0 + (i : Int)]))) := by rw [List.map_append]; exact h6
          have h45 := s5 _ _ h4
          have h46 := s6 _ _ h45
          have ne : ∀ u ∈ ys ++ [V.ref l6], u ≠ .ref D := fun u hu => by
            rcases List.mem_append.mp hu with z | z
            · exact n4 u z
            · rw [List.mem_singleton.mp z]
              exact fun w => ne_of_none h45 n6 (by injection w with w; exact w.symm)
          refine lcS_put (Pv := PvF H3 D zs (cl ns 12 % 8)) h46 (small1000 (by omega)) hi ⟨((s4.trans s5).trans s6).upd hD, upd_same, ?_, ne⟩
          rw [Rg.take_snoc hff, List.filter_append, List.filter_cons, if_pos (by simpa using cg), List.map_append]
          exact (((t4.keep s5).keep s6).snoc h6').upd ne
      · rintro ys H4 ⟨s4, h4, t4, n4⟩
        have yl := t4.len
        rw [List.length_map] at yl
        have fl := List.length_filter_le (fun f => !decide (f = cl ns 12 % 8)) (Rg.figs.take 7)
        rw [List.length_take] at fl
        have rl := rr.len
        have s14 := s3.trans s4
        refine ⟨lr, D, us, ys, rfl, rfl, s14 _ _ h1, h4, Nat.le_of_lt (small1000 (by omega)), fun lc H5 s5 n5 h5 => ?_⟩
        refine hC3 lv lc (us ++ ys) (xss ++ _) _ _ _ _ _ _ _ _ _ H5 lv4 h5 (((rr.keep s14).keep s5).app (t4.keep s5)) (fun xs hx => ?_) (fun xs hx => ?_) ?_
        · rcases List.mem_append.mp hx with hx | hx
          · exact fg xs hx
          · obtain ⟨f, hf, rfl⟩ := List.mem_map.mp hx
            have hff := Rg.mem_figs.mp (List.mem_of_mem_take (List.mem_filter.mp hf).1)
            intro g hg
            rcases List.mem_append.mp hg with hg | hg
            · exact fz g hg
            · rw [List.mem_singleton.mp hg]; exact hff
        · rcases List.mem_append.mp hx with hx | hx
          · exact shn xs hx
          · obtain ⟨f, hf, rfl⟩ := List.mem_map.mp hx
            rw [List.length_append, List.length_singleton]
            omega
        · rw [List.length_append, List.length_map]
          omega
--CUT
end
set_option maxHeartbeats 0 in
theorem txt_mk {K : PySem.W.Frag} {h : Heap} {mg : Str → Option Value} (X : K.In h) (G : h.Ns mainGlobals mg)
    {cd_NoLevel : ClassData}
    {cd_NoFigure : ClassData}
    {cd_NoCell : ClassData}
    {c_NoFigure : Addr}
    {c_FloorError : Addr}
    {c_NoCell : Addr}
    {c_NoLevel : Addr}
    {c_Region : Addr}
    {f_added : Addr} {od_added an_added : Option Addr} {sl_added : Array (Option Value)} {oc_added kV_added dc_added pm_added cd_added ct_added : Value}
    {f_taken : Addr} {od_taken an_taken : Option Addr} {sl_taken : Array (Option Value)} {oc_taken kV_taken dc_taken pm_taken cd_taken ct_taken : Value}
    {f_turned : Addr} {od_turned an_turned : Option Addr} {sl_turned : Array (Option Value)} {oc_turned kV_turned dc_turned pm_turned cd_turned ct_turned : Value}
    {f_step : Addr} {od_step an_step : Option Addr} {sl_step : Array (Option Value)} {oc_step kV_step dc_step pm_step cd_step ct_step : Value}
    {f_great : Addr} {od_great an_great : Option Addr} {sl_great : Array (Option Value)} {oc_great kV_great dc_great pm_great cd_great ct_great : Value}
    {f_rest : Addr} {od_rest an_rest : Option Addr} {sl_rest : Array (Option Value)} {oc_rest kV_rest dc_rest pm_rest cd_rest ct_rest : Value}
    {f_place_of_rest : Addr} {od_place_of_rest an_place_of_rest : Option Addr} {sl_place_of_rest : Array (Option Value)} {oc_place_of_rest kV_place_of_rest dc_place_of_rest pm_place_of_rest cd_place_of_rest ct_place_of_rest : Value}
    {f_place_of : Addr} {od_place_of an_place_of : Option Addr} {sl_place_of : Array (Option Value)} {oc_place_of kV_place_of dc_place_of pm_place_of cd_place_of ct_place_of : Value}
    {f_refuse_no_level : Addr} {od_refuse_no_level an_refuse_no_level : Option Addr} {sl_refuse_no_level : Array (Option Value)} {oc_refuse_no_level kV_refuse_no_level dc_refuse_no_level pm_refuse_no_level cd_refuse_no_level ct_refuse_no_level : Value}
    {f_refuse_no_figures : Addr} {od_refuse_no_figures an_refuse_no_figures : Option Addr} {sl_refuse_no_figures : Array (Option Value)} {oc_refuse_no_figures kV_refuse_no_figures dc_refuse_no_figures pm_refuse_no_figures cd_refuse_no_figures ct_refuse_no_figures : Value}
    {f_refuse_too_long : Addr} {od_refuse_too_long an_refuse_too_long : Option Addr} {sl_refuse_too_long : Array (Option Value)} {oc_refuse_too_long kV_refuse_too_long dc_refuse_too_long pm_refuse_too_long cd_refuse_too_long ct_refuse_too_long : Value}
    {f_one_figure_longer : Addr} {od_one_figure_longer an_one_figure_longer : Option Addr} {sl_one_figure_longer : Array (Option Value)} {oc_one_figure_longer kV_one_figure_longer dc_one_figure_longer pm_one_figure_longer cd_one_figure_longer ct_one_figure_longer : Value}
    {f_lines_of : Addr} {od_lines_of an_lines_of : Option Addr} {sl_lines_of : Array (Option Value)} {oc_lines_of kV_lines_of dc_lines_of pm_lines_of cd_lines_of ct_lines_of : Value}
    {f_lines_of_all : Addr} {od_lines_of_all an_lines_of_all : Option Addr} {sl_lines_of_all : Array (Option Value)} {oc_lines_of_all kV_lines_of_all dc_lines_of_all pm_lines_of_all cd_lines_of_all ct_lines_of_all : Value}
    {f_by_heads : Addr} {od_by_heads an_by_heads : Option Addr} {sl_by_heads : Array (Option Value)} {oc_by_heads kV_by_heads dc_by_heads pm_by_heads cd_by_heads ct_by_heads : Value}
    {f_fewest : Addr} {od_fewest an_fewest : Option Addr} {sl_fewest : Array (Option Value)} {oc_fewest kV_fewest dc_fewest pm_fewest cd_fewest ct_fewest : Value}
    {f_Region_init : Addr} {od_Region_init an_Region_init : Option Addr} {sl_Region_init : Array (Option Value)} {oc_Region_init kV_Region_init dc_Region_init pm_Region_init cd_Region_init ct_Region_init : Value}
    {f_Region_told : Addr} {od_Region_told an_Region_told : Option Addr} {sl_Region_told : Array (Option Value)} {oc_Region_told kV_Region_told dc_Region_told pm_Region_told cd_Region_told ct_Region_told : Value}
    {f_Region_many : Addr} {od_Region_many an_Region_many : Option Addr} {sl_Region_many : Array (Option Value)} {oc_Region_many kV_Region_many dc_Region_many pm_Region_many cd_Region_many ct_Region_many : Value}
    {f_Region_cells : Addr} {od_Region_cells an_Region_cells : Option Addr} {sl_Region_cells : Array (Option Value)} {oc_Region_cells kV_Region_cells dc_Region_cells pm_Region_cells cd_Region_cells ct_Region_cells : Value}
    {f_law_cell_at : Addr} {od_law_cell_at an_law_cell_at : Option Addr} {sl_law_cell_at : Array (Option Value)} {oc_law_cell_at kV_law_cell_at dc_law_cell_at pm_law_cell_at cd_law_cell_at ct_law_cell_at : Value}
    {f_law_whole : Addr} {od_law_whole an_law_whole : Option Addr} {sl_law_whole : Array (Option Value)} {oc_law_whole kV_law_whole dc_law_whole pm_law_whole cd_law_whole ct_law_whole : Value}
    {f_law_place_alike : Addr} {od_law_place_alike an_law_place_alike : Option Addr} {sl_law_place_alike : Array (Option Value)} {oc_law_place_alike kV_law_place_alike dc_law_place_alike pm_law_place_alike cd_law_place_alike ct_law_place_alike : Value}
    {f_law_step : Addr} {od_law_step an_law_step : Option Addr} {sl_law_step : Array (Option Value)} {oc_law_step kV_law_step dc_law_step pm_law_step cd_law_step ct_law_step : Value}
    {f_law_place : Addr} {od_law_place an_law_place : Option Addr} {sl_law_place : Array (Option Value)} {oc_law_place kV_law_place dc_law_place pm_law_place cd_law_place ct_law_place : Value}
    {f_law_lines : Addr} {od_law_lines an_law_lines : Option Addr} {sl_law_lines : Array (Option Value)} {oc_law_lines kV_law_lines dc_law_lines pm_law_lines cd_law_lines ct_law_lines : Value}
    {f_law_level : Addr} {od_law_level an_law_level : Option Addr} {sl_law_level : Array (Option Value)} {oc_law_level kV_law_level dc_law_level pm_law_level cd_law_level ct_law_level : Value}
    {f_law_rows : Addr} {od_law_rows an_law_rows : Option Addr} {sl_law_rows : Array (Option Value)} {oc_law_rows kV_law_rows dc_law_rows pm_law_rows cd_law_rows ct_law_rows : Value}
    {f_law_all : Addr} {od_law_all an_law_all : Option Addr} {sl_law_all : Array (Option Value)} {oc_law_all kV_law_all dc_law_all pm_law_all cd_law_all ct_law_all : Value}
    {f_law_told : Addr} {od_law_told an_law_told : Option Addr} {sl_law_told : Array (Option Value)} {oc_law_told kV_law_told dc_law_told pm_law_told cd_law_told ct_law_told : Value}
    {f_law_cells : Addr} {od_law_cells an_law_cells : Option Addr} {sl_law_cells : Array (Option Value)} {oc_law_cells kV_law_cells dc_law_cells pm_law_cells cd_law_cells ct_law_cells : Value}
    {f_law_right : Addr} {od_law_right an_law_right : Option Addr} {sl_law_right : Array (Option Value)} {oc_law_right kV_law_right dc_law_right pm_law_right cd_law_right ct_law_right : Value}
    {f_law : Addr} {od_law an_law : Option Addr} {sl_law : Array (Option Value)} {oc_law kV_law dc_law pm_law cd_law ct_law : Value}
    {a_MIDDLE : Addr} {oc_MIDDLE : Value} {od_MIDDLE : Option Addr} {its_MIDDLE : Array Value} {n_MIDDLE : Nat} {sl_MIDDLE : Array (Option Value)}
    {a_FIRST_STEP : Addr} {oc_FIRST_STEP : Value} {od_FIRST_STEP : Option Addr} {its_FIRST_STEP : Array Value} {n_FIRST_STEP : Nat} {sl_FIRST_STEP : Array (Option Value)}
    {a_DIRECTIONS : Addr} {oc_DIRECTIONS : Value} {od_DIRECTIONS : Option Addr} {its_DIRECTIONS : Array Value} {n_DIRECTIONS : Nat} {sl_DIRECTIONS : Array (Option Value)}
    {a_FIGURES : Addr} {oc_FIGURES : Value} {od_FIGURES : Option Addr} {its_FIGURES : Array Value} {n_FIGURES : Nat} {sl_FIGURES : Array (Option Value)}
    {a_FIGURE_BY_REMAINDER : Addr} {oc_FIGURE_BY_REMAINDER : Value} {od_FIGURE_BY_REMAINDER : Option Addr} {its_FIGURE_BY_REMAINDER : Array Value} {n_FIGURE_BY_REMAINDER : Nat} {sl_FIGURE_BY_REMAINDER : Array (Option Value)}
    {a_LEVELS : Addr} {oc_LEVELS : Value} {od_LEVELS : Option Addr} {its_LEVELS : Array Value} {n_LEVELS : Nat} {sl_LEVELS : Array (Option Value)}
    (ec_NoFigure : PySem.W.nsIn K mainGlobals "NoFigure" = some (some (.ref c_NoFigure)))
    (ec_FloorError : PySem.W.nsIn K mainGlobals "FloorError" = some (some (.ref c_FloorError)))
    (ec_NoCell : PySem.W.nsIn K mainGlobals "NoCell" = some (some (.ref c_NoCell)))
    (ec_NoLevel : PySem.W.nsIn K mainGlobals "NoLevel" = some (some (.ref c_NoLevel)))
    (ec_Region : PySem.W.nsIn K mainGlobals "Region" = some (some (.ref c_Region)))
    (e_added : PySem.W.nsIn K mainGlobals "added" = some (some (.ref f_added)))
    (l_added : K.lookup f_added = some ⟨oc_added, od_added, .func (PySem.W.fnOf "added" "added" (defArgs s_added) (defBody s_added) (defScope s_added) .none kV_added dc_added pm_added an_added cd_added ct_added), sl_added⟩)
    (q_added : PySem.W.codeIn K cd_added "added" = true)
    (p_added : PySem.W.keepIn K (.ref f_added) = true)
    (e_taken : PySem.W.nsIn K mainGlobals "taken" = some (some (.ref f_taken)))
    (l_taken : K.lookup f_taken = some ⟨oc_taken, od_taken, .func (PySem.W.fnOf "taken" "taken" (defArgs s_taken) (defBody s_taken) (defScope s_taken) .none kV_taken dc_taken pm_taken an_taken cd_taken ct_taken), sl_taken⟩)
    (q_taken : PySem.W.codeIn K cd_taken "taken" = true)
    (p_taken : PySem.W.keepIn K (.ref f_taken) = true)
    (e_turned : PySem.W.nsIn K mainGlobals "turned" = some (some (.ref f_turned)))
    (l_turned : K.lookup f_turned = some ⟨oc_turned, od_turned, .func (PySem.W.fnOf "turned" "turned" (defArgs s_turned) (defBody s_turned) (defScope s_turned) .none kV_turned dc_turned pm_turned an_turned cd_turned ct_turned), sl_turned⟩)
    (q_turned : PySem.W.codeIn K cd_turned "turned" = true)
    (p_turned : PySem.W.keepIn K (.ref f_turned) = true)
    (e_step : PySem.W.nsIn K mainGlobals "step" = some (some (.ref f_step)))
    (l_step : K.lookup f_step = some ⟨oc_step, od_step, .func (PySem.W.fnOf "step" "step" (defArgs s_step) (defBody s_step) (defScope s_step) .none kV_step dc_step pm_step an_step cd_step ct_step), sl_step⟩)
    (q_step : PySem.W.codeIn K cd_step "step" = true)
    (p_step : PySem.W.keepIn K (.ref f_step) = true)
    (e_great : PySem.W.nsIn K mainGlobals "great" = some (some (.ref f_great)))
    (l_great : K.lookup f_great = some ⟨oc_great, od_great, .func (PySem.W.fnOf "great" "great" (defArgs s_great) (defBody s_great) (defScope s_great) .none kV_great dc_great pm_great an_great cd_great ct_great), sl_great⟩)
    (q_great : PySem.W.codeIn K cd_great "great" = true)
    (p_great : PySem.W.keepIn K (.ref f_great) = true)
    (e_rest : PySem.W.nsIn K mainGlobals "rest" = some (some (.ref f_rest)))
    (l_rest : K.lookup f_rest = some ⟨oc_rest, od_rest, .func (PySem.W.fnOf "rest" "rest" (defArgs s_rest) (defBody s_rest) (defScope s_rest) .none kV_rest dc_rest pm_rest an_rest cd_rest ct_rest), sl_rest⟩)
    (q_rest : PySem.W.codeIn K cd_rest "rest" = true)
    (p_rest : PySem.W.keepIn K (.ref f_rest) = true)
    (e_place_of_rest : PySem.W.nsIn K mainGlobals "place_of_rest" = some (some (.ref f_place_of_rest)))
    (l_place_of_rest : K.lookup f_place_of_rest = some ⟨oc_place_of_rest, od_place_of_rest, .func (PySem.W.fnOf "place_of_rest" "place_of_rest" (defArgs s_place_of_rest) (defBody s_place_of_rest) (defScope s_place_of_rest) .none kV_place_of_rest dc_place_of_rest pm_place_of_rest an_place_of_rest cd_place_of_rest ct_place_of_rest), sl_place_of_rest⟩)
    (q_place_of_rest : PySem.W.codeIn K cd_place_of_rest "place_of_rest" = true)
    (p_place_of_rest : PySem.W.keepIn K (.ref f_place_of_rest) = true)
    (e_place_of : PySem.W.nsIn K mainGlobals "place_of" = some (some (.ref f_place_of)))
    (l_place_of : K.lookup f_place_of = some ⟨oc_place_of, od_place_of, .func (PySem.W.fnOf "place_of" "place_of" (defArgs s_place_of) (defBody s_place_of) (defScope s_place_of) .none kV_place_of dc_place_of pm_place_of an_place_of cd_place_of ct_place_of), sl_place_of⟩)
    (q_place_of : PySem.W.codeIn K cd_place_of "place_of" = true)
    (p_place_of : PySem.W.keepIn K (.ref f_place_of) = true)
    (e_refuse_no_level : PySem.W.nsIn K mainGlobals "refuse_no_level" = some (some (.ref f_refuse_no_level)))
    (l_refuse_no_level : K.lookup f_refuse_no_level = some ⟨oc_refuse_no_level, od_refuse_no_level, .func (PySem.W.fnOf "refuse_no_level" "refuse_no_level" (defArgs s_refuse_no_level) (defBody s_refuse_no_level) (defScope s_refuse_no_level) .none kV_refuse_no_level dc_refuse_no_level pm_refuse_no_level an_refuse_no_level cd_refuse_no_level ct_refuse_no_level), sl_refuse_no_level⟩)
    (q_refuse_no_level : PySem.W.codeIn K cd_refuse_no_level "refuse_no_level" = true)
    (p_refuse_no_level : PySem.W.keepIn K (.ref f_refuse_no_level) = true)
    (e_refuse_no_figures : PySem.W.nsIn K mainGlobals "refuse_no_figures" = some (some (.ref f_refuse_no_figures)))
    (l_refuse_no_figures : K.lookup f_refuse_no_figures = some ⟨oc_refuse_no_figures, od_refuse_no_figures, .func (PySem.W.fnOf "refuse_no_figures" "refuse_no_figures" (defArgs s_refuse_no_figures) (defBody s_refuse_no_figures) (defScope s_refuse_no_figures) .none kV_refuse_no_figures dc_refuse_no_figures pm_refuse_no_figures an_refuse_no_figures cd_refuse_no_figures ct_refuse_no_figures), sl_refuse_no_figures⟩)
    (q_refuse_no_figures : PySem.W.codeIn K cd_refuse_no_figures "refuse_no_figures" = true)
    (p_refuse_no_figures : PySem.W.keepIn K (.ref f_refuse_no_figures) = true)
    (e_refuse_too_long : PySem.W.nsIn K mainGlobals "refuse_too_long" = some (some (.ref f_refuse_too_long)))
    (l_refuse_too_long : K.lookup f_refuse_too_long = some ⟨oc_refuse_too_long, od_refuse_too_long, .func (PySem.W.fnOf "refuse_too_long" "refuse_too_long" (defArgs s_refuse_too_long) (defBody s_refuse_too_long) (defScope s_refuse_too_long) .none kV_refuse_too_long dc_refuse_too_long pm_refuse_too_long an_refuse_too_long cd_refuse_too_long ct_refuse_too_long), sl_refuse_too_long⟩)
    (q_refuse_too_long : PySem.W.codeIn K cd_refuse_too_long "refuse_too_long" = true)
    (p_refuse_too_long : PySem.W.keepIn K (.ref f_refuse_too_long) = true)
    (e_one_figure_longer : PySem.W.nsIn K mainGlobals "one_figure_longer" = some (some (.ref f_one_figure_longer)))
    (l_one_figure_longer : K.lookup f_one_figure_longer = some ⟨oc_one_figure_longer, od_one_figure_longer, .func (PySem.W.fnOf "one_figure_longer" "one_figure_longer" (defArgs s_one_figure_longer) (defBody s_one_figure_longer) (defScope s_one_figure_longer) .none kV_one_figure_longer dc_one_figure_longer pm_one_figure_longer an_one_figure_longer cd_one_figure_longer ct_one_figure_longer), sl_one_figure_longer⟩)
    (q_one_figure_longer : PySem.W.codeIn K cd_one_figure_longer "one_figure_longer" = true)
    (p_one_figure_longer : PySem.W.keepIn K (.ref f_one_figure_longer) = true)
    (e_lines_of : PySem.W.nsIn K mainGlobals "lines_of" = some (some (.ref f_lines_of)))
    (l_lines_of : K.lookup f_lines_of = some ⟨oc_lines_of, od_lines_of, .func (PySem.W.fnOf "lines_of" "lines_of" (defArgs s_lines_of) (defBody s_lines_of) (defScope s_lines_of) .none kV_lines_of dc_lines_of pm_lines_of an_lines_of cd_lines_of ct_lines_of), sl_lines_of⟩)
    (q_lines_of : PySem.W.codeIn K cd_lines_of "lines_of" = true)
    (p_lines_of : PySem.W.keepIn K (.ref f_lines_of) = true)
    (e_lines_of_all : PySem.W.nsIn K mainGlobals "lines_of_all" = some (some (.ref f_lines_of_all)))
    (l_lines_of_all : K.lookup f_lines_of_all = some ⟨oc_lines_of_all, od_lines_of_all, .func (PySem.W.fnOf "lines_of_all" "lines_of_all" (defArgs s_lines_of_all) (defBody s_lines_of_all) (defScope s_lines_of_all) .none kV_lines_of_all dc_lines_of_all pm_lines_of_all an_lines_of_all cd_lines_of_all ct_lines_of_all), sl_lines_of_all⟩)
    (q_lines_of_all : PySem.W.codeIn K cd_lines_of_all "lines_of_all" = true)
    (p_lines_of_all : PySem.W.keepIn K (.ref f_lines_of_all) = true)
    (e_by_heads : PySem.W.nsIn K mainGlobals "by_heads" = some (some (.ref f_by_heads)))
    (l_by_heads : K.lookup f_by_heads = some ⟨oc_by_heads, od_by_heads, .func (PySem.W.fnOf "by_heads" "by_heads" (defArgs s_by_heads) (defBody s_by_heads) (defScope s_by_heads) .none kV_by_heads dc_by_heads pm_by_heads an_by_heads cd_by_heads ct_by_heads), sl_by_heads⟩)
    (q_by_heads : PySem.W.codeIn K cd_by_heads "by_heads" = true)
    (p_by_heads : PySem.W.keepIn K (.ref f_by_heads) = true)
    (e_fewest : PySem.W.nsIn K mainGlobals "fewest" = some (some (.ref f_fewest)))
    (l_fewest : K.lookup f_fewest = some ⟨oc_fewest, od_fewest, .func (PySem.W.fnOf "fewest" "fewest" (defArgs s_fewest) (defBody s_fewest) (defScope s_fewest) .none kV_fewest dc_fewest pm_fewest an_fewest cd_fewest ct_fewest), sl_fewest⟩)
    (q_fewest : PySem.W.codeIn K cd_fewest "fewest" = true)
    (p_fewest : PySem.W.keepIn K (.ref f_fewest) = true)
    (e_Region_init : PySem.W.findIn K (.ref c_Region) "__init__" = some (some (.ref f_Region_init)))
    (i_Region_init : PySem.W.isFn K (.ref f_Region_init) = true)
    (l_Region_init : K.lookup f_Region_init = some ⟨oc_Region_init, od_Region_init, .func (PySem.W.fnOf "__init__" "Region.__init__" (defArgs s_Region_init) (defBody s_Region_init) (defScope s_Region_init) .none kV_Region_init dc_Region_init pm_Region_init an_Region_init cd_Region_init ct_Region_init), sl_Region_init⟩)
    (q_Region_init : PySem.W.codeIn K cd_Region_init "Region.__init__" = true)
    (p_Region_init : PySem.W.keepIn K (.ref f_Region_init) = true)
    (e_Region_told : PySem.W.findIn K (.ref c_Region) "told" = some (some (.ref f_Region_told)))
    (i_Region_told : PySem.W.isFn K (.ref f_Region_told) = true)
    (l_Region_told : K.lookup f_Region_told = some ⟨oc_Region_told, od_Region_told, .func (PySem.W.fnOf "told" "Region.told" (defArgs s_Region_told) (defBody s_Region_told) (defScope s_Region_told) .none kV_Region_told dc_Region_told pm_Region_told an_Region_told cd_Region_told ct_Region_told), sl_Region_told⟩)
    (q_Region_told : PySem.W.codeIn K cd_Region_told "Region.told" = true)
    (p_Region_told : PySem.W.keepIn K (.ref f_Region_told) = true)
    (e_Region_many : PySem.W.findIn K (.ref c_Region) "many" = some (some (.ref f_Region_many)))
    (i_Region_many : PySem.W.isFn K (.ref f_Region_many) = true)
    (l_Region_many : K.lookup f_Region_many = some ⟨oc_Region_many, od_Region_many, .func (PySem.W.fnOf "many" "Region.many" (defArgs s_Region_many) (defBody s_Region_many) (defScope s_Region_many) .none kV_Region_many dc_Region_many pm_Region_many an_Region_many cd_Region_many ct_Region_many), sl_Region_many⟩)
    (q_Region_many : PySem.W.codeIn K cd_Region_many "Region.many" = true)
    (p_Region_many : PySem.W.keepIn K (.ref f_Region_many) = true)
    (e_Region_cells : PySem.W.findIn K (.ref c_Region) "cells" = some (some (.ref f_Region_cells)))
    (i_Region_cells : PySem.W.isFn K (.ref f_Region_cells) = true)
    (l_Region_cells : K.lookup f_Region_cells = some ⟨oc_Region_cells, od_Region_cells, .func (PySem.W.fnOf "cells" "Region.cells" (defArgs s_Region_cells) (defBody s_Region_cells) (defScope s_Region_cells) .none kV_Region_cells dc_Region_cells pm_Region_cells an_Region_cells cd_Region_cells ct_Region_cells), sl_Region_cells⟩)
    (q_Region_cells : PySem.W.codeIn K cd_Region_cells "Region.cells" = true)
    (p_Region_cells : PySem.W.keepIn K (.ref f_Region_cells) = true)
    (e_law_cell_at : PySem.W.nsIn K mainGlobals "_law_cell_at" = some (some (.ref f_law_cell_at)))
    (l_law_cell_at : K.lookup f_law_cell_at = some ⟨oc_law_cell_at, od_law_cell_at, .func (PySem.W.fnOf "_law_cell_at" "_law_cell_at" (defArgs s_law_cell_at) (defBody s_law_cell_at) (defScope s_law_cell_at) .none kV_law_cell_at dc_law_cell_at pm_law_cell_at an_law_cell_at cd_law_cell_at ct_law_cell_at), sl_law_cell_at⟩)
    (q_law_cell_at : PySem.W.codeIn K cd_law_cell_at "_law_cell_at" = true)
    (p_law_cell_at : PySem.W.keepIn K (.ref f_law_cell_at) = true)
    (e_law_whole : PySem.W.nsIn K mainGlobals "_law_whole" = some (some (.ref f_law_whole)))
    (l_law_whole : K.lookup f_law_whole = some ⟨oc_law_whole, od_law_whole, .func (PySem.W.fnOf "_law_whole" "_law_whole" (defArgs s_law_whole) (defBody s_law_whole) (defScope s_law_whole) .none kV_law_whole dc_law_whole pm_law_whole an_law_whole cd_law_whole ct_law_whole), sl_law_whole⟩)
    (q_law_whole : PySem.W.codeIn K cd_law_whole "_law_whole" = true)
    (p_law_whole : PySem.W.keepIn K (.ref f_law_whole) = true)
    (e_law_place_alike : PySem.W.nsIn K mainGlobals "_law_place_alike" = some (some (.ref f_law_place_alike)))
    (l_law_place_alike : K.lookup f_law_place_alike = some ⟨oc_law_place_alike, od_law_place_alike, .func (PySem.W.fnOf "_law_place_alike" "_law_place_alike" (defArgs s_law_place_alike) (defBody s_law_place_alike) (defScope s_law_place_alike) .none kV_law_place_alike dc_law_place_alike pm_law_place_alike an_law_place_alike cd_law_place_alike ct_law_place_alike), sl_law_place_alike⟩)
    (q_law_place_alike : PySem.W.codeIn K cd_law_place_alike "_law_place_alike" = true)
    (p_law_place_alike : PySem.W.keepIn K (.ref f_law_place_alike) = true)
    (e_law_step : PySem.W.nsIn K mainGlobals "_law_step" = some (some (.ref f_law_step)))
    (l_law_step : K.lookup f_law_step = some ⟨oc_law_step, od_law_step, .func (PySem.W.fnOf "_law_step" "_law_step" (defArgs s_law_step) (defBody s_law_step) (defScope s_law_step) .none kV_law_step dc_law_step pm_law_step an_law_step cd_law_step ct_law_step), sl_law_step⟩)
    (q_law_step : PySem.W.codeIn K cd_law_step "_law_step" = true)
    (p_law_step : PySem.W.keepIn K (.ref f_law_step) = true)
    (e_law_place : PySem.W.nsIn K mainGlobals "_law_place" = some (some (.ref f_law_place)))
    (l_law_place : K.lookup f_law_place = some ⟨oc_law_place, od_law_place, .func (PySem.W.fnOf "_law_place" "_law_place" (defArgs s_law_place) (defBody s_law_place) (defScope s_law_place) .none kV_law_place dc_law_place pm_law_place an_law_place cd_law_place ct_law_place), sl_law_place⟩)
    (q_law_place : PySem.W.codeIn K cd_law_place "_law_place" = true)
    (p_law_place : PySem.W.keepIn K (.ref f_law_place) = true)
    (e_law_lines : PySem.W.nsIn K mainGlobals "_law_lines" = some (some (.ref f_law_lines)))
    (l_law_lines : K.lookup f_law_lines = some ⟨oc_law_lines, od_law_lines, .func (PySem.W.fnOf "_law_lines" "_law_lines" (defArgs s_law_lines) (defBody s_law_lines) (defScope s_law_lines) .none kV_law_lines dc_law_lines pm_law_lines an_law_lines cd_law_lines ct_law_lines), sl_law_lines⟩)
    (q_law_lines : PySem.W.codeIn K cd_law_lines "_law_lines" = true)
    (p_law_lines : PySem.W.keepIn K (.ref f_law_lines) = true)
    (e_law_level : PySem.W.nsIn K mainGlobals "_law_level" = some (some (.ref f_law_level)))
    (l_law_level : K.lookup f_law_level = some ⟨oc_law_level, od_law_level, .func (PySem.W.fnOf "_law_level" "_law_level" (defArgs s_law_level) (defBody s_law_level) (defScope s_law_level) .none kV_law_level dc_law_level pm_law_level an_law_level cd_law_level ct_law_level), sl_law_level⟩)
    (q_law_level : PySem.W.codeIn K cd_law_level "_law_level" = true)
    (p_law_level : PySem.W.keepIn K (.ref f_law_level) = true)
    (e_law_rows : PySem.W.nsIn K mainGlobals "_law_rows" = some (some (.ref f_law_rows)))
    (l_law_rows : K.lookup f_law_rows = some ⟨oc_law_rows, od_law_rows, .func (PySem.W.fnOf "_law_rows" "_law_rows" (defArgs s_law_rows) (defBody s_law_rows) (defScope s_law_rows) .none kV_law_rows dc_law_rows pm_law_rows an_law_rows cd_law_rows ct_law_rows), sl_law_rows⟩)
    (q_law_rows : PySem.W.codeIn K cd_law_rows "_law_rows" = true)
    (p_law_rows : PySem.W.keepIn K (.ref f_law_rows) = true)
    (e_law_all : PySem.W.nsIn K mainGlobals "_law_all" = some (some (.ref f_law_all)))
    (l_law_all : K.lookup f_law_all = some ⟨oc_law_all, od_law_all, .func (PySem.W.fnOf "_law_all" "_law_all" (defArgs s_law_all) (defBody s_law_all) (defScope s_law_all) .none kV_law_all dc_law_all pm_law_all an_law_all cd_law_all ct_law_all), sl_law_all⟩)
    (q_law_all : PySem.W.codeIn K cd_law_all "_law_all" = true)
    (p_law_all : PySem.W.keepIn K (.ref f_law_all) = true)
    (e_law_told : PySem.W.nsIn K mainGlobals "_law_told" = some (some (.ref f_law_told)))
    (l_law_told : K.lookup f_law_told = some ⟨oc_law_told, od_law_told, .func (PySem.W.fnOf "_law_told" "_law_told" (defArgs s_law_told) (defBody s_law_told) (defScope s_law_told) .none kV_law_told dc_law_told pm_law_told an_law_told cd_law_told ct_law_told), sl_law_told⟩)
    (q_law_told : PySem.W.codeIn K cd_law_told "_law_told" = true)
    (p_law_told : PySem.W.keepIn K (.ref f_law_told) = true)
    (e_law_cells : PySem.W.nsIn K mainGlobals "_law_cells" = some (some (.ref f_law_cells)))
    (l_law_cells : K.lookup f_law_cells = some ⟨oc_law_cells, od_law_cells, .func (PySem.W.fnOf "_law_cells" "_law_cells" (defArgs s_law_cells) (defBody s_law_cells) (defScope s_law_cells) .none kV_law_cells dc_law_cells pm_law_cells an_law_cells cd_law_cells ct_law_cells), sl_law_cells⟩)
    (q_law_cells : PySem.W.codeIn K cd_law_cells "_law_cells" = true)
    (p_law_cells : PySem.W.keepIn K (.ref f_law_cells) = true)
    (e_law_right : PySem.W.nsIn K mainGlobals "_law_right" = some (some (.ref f_law_right)))
    (l_law_right : K.lookup f_law_right = some ⟨oc_law_right, od_law_right, .func (PySem.W.fnOf "_law_right" "_law_right" (defArgs s_law_right) (defBody s_law_right) (defScope s_law_right) .none kV_law_right dc_law_right pm_law_right an_law_right cd_law_right ct_law_right), sl_law_right⟩)
    (q_law_right : PySem.W.codeIn K cd_law_right "_law_right" = true)
    (p_law_right : PySem.W.keepIn K (.ref f_law_right) = true)
    (e_law : PySem.W.nsIn K mainGlobals "law" = some (some (.ref f_law)))
    (l_law : K.lookup f_law = some ⟨oc_law, od_law, .func (PySem.W.fnOf "law" "law" (defArgs s_law) (defBody s_law) (defScope s_law) .none kV_law dc_law pm_law an_law cd_law ct_law), sl_law⟩)
    (q_law : PySem.W.codeIn K cd_law "law" = true)
    (p_law : PySem.W.keepIn K (.ref f_law) = true)
    (eg_MIDDLE : PySem.W.nsIn K mainGlobals "MIDDLE" = some (some (.ref a_MIDDLE)))
    (lg_MIDDLE : K.lookup a_MIDDLE = some ⟨oc_MIDDLE, od_MIDDLE, .seq its_MIDDLE n_MIDDLE, sl_MIDDLE⟩)
    (hc_MIDDLE : oc_MIDDLE = .type "tuple")
    (hz_MIDDLE : its_MIDDLE.toList.length ≤ 1000)
    (hv_MIDDLE : relAll its_MIDDLE.toList = some [.int 0, .int 0])
    (eg_FIRST_STEP : PySem.W.nsIn K mainGlobals "FIRST_STEP" = some (some (.ref a_FIRST_STEP)))
    (lg_FIRST_STEP : K.lookup a_FIRST_STEP = some ⟨oc_FIRST_STEP, od_FIRST_STEP, .seq its_FIRST_STEP n_FIRST_STEP, sl_FIRST_STEP⟩)
    (hc_FIRST_STEP : oc_FIRST_STEP = .type "tuple")
    (hz_FIRST_STEP : its_FIRST_STEP.toList.length ≤ 1000)
    (hv_FIRST_STEP : relAll its_FIRST_STEP.toList = some [.int 1, .int 0])
    (eg_DIRECTIONS : PySem.W.nsIn K mainGlobals "DIRECTIONS" = some (some (.ref a_DIRECTIONS)))
    (lg_DIRECTIONS : K.lookup a_DIRECTIONS = some ⟨oc_DIRECTIONS, od_DIRECTIONS, .seq its_DIRECTIONS n_DIRECTIONS, sl_DIRECTIONS⟩)
    (hc_DIRECTIONS : oc_DIRECTIONS = .type "tuple")
    (hz_DIRECTIONS : its_DIRECTIONS.toList.length ≤ 1000)
    (hv_DIRECTIONS : relAll its_DIRECTIONS.toList = some [.int 1, .int 2, .int 3, .int 4, .int 5, .int 6])
    (eg_FIGURES : PySem.W.nsIn K mainGlobals "FIGURES" = some (some (.ref a_FIGURES)))
    (lg_FIGURES : K.lookup a_FIGURES = some ⟨oc_FIGURES, od_FIGURES, .seq its_FIGURES n_FIGURES, sl_FIGURES⟩)
    (hc_FIGURES : oc_FIGURES = .type "tuple")
    (hz_FIGURES : its_FIGURES.toList.length ≤ 1000)
    (hv_FIGURES : relAll its_FIGURES.toList = some [.int 0, .int 1, .int 2, .int 3, .int 4, .int 5, .int 6])
    (eg_FIGURE_BY_REMAINDER : PySem.W.nsIn K mainGlobals "FIGURE_BY_REMAINDER" = some (some (.ref a_FIGURE_BY_REMAINDER)))
    (lg_FIGURE_BY_REMAINDER : K.lookup a_FIGURE_BY_REMAINDER = some ⟨oc_FIGURE_BY_REMAINDER, od_FIGURE_BY_REMAINDER, .seq its_FIGURE_BY_REMAINDER n_FIGURE_BY_REMAINDER, sl_FIGURE_BY_REMAINDER⟩)
    (hc_FIGURE_BY_REMAINDER : oc_FIGURE_BY_REMAINDER = .type "tuple")
    (hz_FIGURE_BY_REMAINDER : its_FIGURE_BY_REMAINDER.toList.length ≤ 1000)
    (hv_FIGURE_BY_REMAINDER : relAll its_FIGURE_BY_REMAINDER.toList = some [.int 0, .int 1, .int 5, .int 6, .int 3, .int 2, .int 4])
    (eg_LEVELS : PySem.W.nsIn K mainGlobals "LEVELS" = some (some (.ref a_LEVELS)))
    (lg_LEVELS : K.lookup a_LEVELS = some ⟨oc_LEVELS, od_LEVELS, .seq its_LEVELS n_LEVELS, sl_LEVELS⟩)
    (hc_LEVELS : oc_LEVELS = .type "tuple")
    (hz_LEVELS : its_LEVELS.toList.length ≤ 1000)
    (hv_LEVELS : relAll its_LEVELS.toList = some [.int 0, .int 1, .int 2, .int 3, .int 4])
    (b_len : PySem.W.nsIn K mainGlobals "len" = some none)
    (b_range : PySem.W.nsIn K mainGlobals "range" = some none)
    (b_tuple : PySem.W.nsIn K mainGlobals "tuple" = some none)
    (b_list : PySem.W.nsIn K mainGlobals "list" = some none)
    (b_max : PySem.W.nsIn K mainGlobals "max" = some none)
    (b_sorted : PySem.W.nsIn K mainGlobals "sorted" = some none)
    (b_isinstance : PySem.W.nsIn K mainGlobals "isinstance" = some none)
    (b_int : PySem.W.nsIn K mainGlobals "int" = some none)
    (b_bool : PySem.W.nsIn K mainGlobals "bool" = some none)
    (b_dict : PySem.W.nsIn K mainGlobals "dict" = some none)
    (xc_NoLevel : PySem.W.excIn K c_NoLevel vmro "ValueError.__new__" = true)
    (ga_NoLevel : PySem.W.findIn K (.ref c_NoLevel) "__getattribute__" = some (some (.builtin "BaseException.__getattribute__")))
    (gt_NoLevel : PySem.W.findIn K (.ref c_NoLevel) "__getattr__" = some none)
    (cl_NoLevel : PySem.W.findIn K (.ref c_NoLevel) "__class__" = some (some (.builtin "object.__class__")))
    (ob_NoLevel : PySem.W.mroIn K c_NoLevel (.type "object") = some true)
    (be_NoLevel : PySem.W.mroIn K c_NoLevel (.type "BaseException") = some true)
    (cs_NoLevel : PySem.W.clsIn K c_NoLevel = some cd_NoLevel)
    (xc_NoFigure : PySem.W.excIn K c_NoFigure vmro "ValueError.__new__" = true)
    (ga_NoFigure : PySem.W.findIn K (.ref c_NoFigure) "__getattribute__" = some (some (.builtin "BaseException.__getattribute__")))
    (gt_NoFigure : PySem.W.findIn K (.ref c_NoFigure) "__getattr__" = some none)
    (cl_NoFigure : PySem.W.findIn K (.ref c_NoFigure) "__class__" = some (some (.builtin "object.__class__")))
    (ob_NoFigure : PySem.W.mroIn K c_NoFigure (.type "object") = some true)
    (be_NoFigure : PySem.W.mroIn K c_NoFigure (.type "BaseException") = some true)
    (cs_NoFigure : PySem.W.clsIn K c_NoFigure = some cd_NoFigure)
    (xc_NoCell : PySem.W.excIn K c_NoCell vmro "ValueError.__new__" = true)
    (ga_NoCell : PySem.W.findIn K (.ref c_NoCell) "__getattribute__" = some (some (.builtin "BaseException.__getattribute__")))
    (gt_NoCell : PySem.W.findIn K (.ref c_NoCell) "__getattr__" = some none)
    (cl_NoCell : PySem.W.findIn K (.ref c_NoCell) "__class__" = some (some (.builtin "object.__class__")))
    (ob_NoCell : PySem.W.mroIn K c_NoCell (.type "object") = some true)
    (be_NoCell : PySem.W.mroIn K c_NoCell (.type "BaseException") = some true)
    (cs_NoCell : PySem.W.clsIn K c_NoCell = some cd_NoCell)
    (mk_Region : PySem.W.makesIn K c_Region = true)
    (kc_Region : PySem.W.keepIn K (.ref c_Region) = true)
    (pg_Region : PySem.W.plainGet K c_Region Str.empty = true)
    (hd_Region : PySem.W.hasDictIn K c_Region = true)
    (po_Region : PySem.W.plainOver K c_Region = true)
    (sa_Region : PySem.W.findIn K (.ref c_Region) "__setattr__" = some (some (.builtin "object.__setattr__")))
    (na_Region_level : PySem.W.findIn K (.ref c_Region) "level" = some none)
    (na_Region_lines : PySem.W.findIn K (.ref c_Region) "lines" = some none)
    : ∃ t : Adr, Txt K mg t ∧ t.f_law = f_law ∧ t.x_law = PySem.W.fnOf "law" "law" (defArgs s_law) (defBody s_law) (defScope s_law) .none kV_law dc_law pm_law an_law cd_law ct_law := by
  exact ⟨⟨f_added, PySem.W.fnOf "added" "added" (defArgs s_added) (defBody s_added) (defScope s_added) .none kV_added dc_added pm_added an_added cd_added ct_added, f_taken, PySem.W.fnOf "taken" "taken" (defArgs s_taken) (defBody s_taken) (defScope s_taken) .none kV_taken dc_taken pm_taken an_taken cd_taken ct_taken, f_turned, PySem.W.fnOf "turned" "turned" (defArgs s_turned) (defBody s_turned) (defScope s_turned) .none kV_turned dc_turned pm_turned an_turned cd_turned ct_turned, f_step, PySem.W.fnOf "step" "step" (defArgs s_step) (defBody s_step) (defScope s_step) .none kV_step dc_step pm_step an_step cd_step ct_step, f_great, PySem.W.fnOf "great" "great" (defArgs s_great) (defBody s_great) (defScope s_great) .none kV_great dc_great pm_great an_great cd_great ct_great, f_rest, PySem.W.fnOf "rest" "rest" (defArgs s_rest) (defBody s_rest) (defScope s_rest) .none kV_rest dc_rest pm_rest an_rest cd_rest ct_rest, f_place_of_rest, PySem.W.fnOf "place_of_rest" "place_of_rest" (defArgs s_place_of_rest) (defBody s_place_of_rest) (defScope s_place_of_rest) .none kV_place_of_rest dc_place_of_rest pm_place_of_rest an_place_of_rest cd_place_of_rest ct_place_of_rest, f_place_of, PySem.W.fnOf "place_of" "place_of" (defArgs s_place_of) (defBody s_place_of) (defScope s_place_of) .none kV_place_of dc_place_of pm_place_of an_place_of cd_place_of ct_place_of, f_refuse_no_level, PySem.W.fnOf "refuse_no_level" "refuse_no_level" (defArgs s_refuse_no_level) (defBody s_refuse_no_level) (defScope s_refuse_no_level) .none kV_refuse_no_level dc_refuse_no_level pm_refuse_no_level an_refuse_no_level cd_refuse_no_level ct_refuse_no_level, f_refuse_no_figures, PySem.W.fnOf "refuse_no_figures" "refuse_no_figures" (defArgs s_refuse_no_figures) (defBody s_refuse_no_figures) (defScope s_refuse_no_figures) .none kV_refuse_no_figures dc_refuse_no_figures pm_refuse_no_figures an_refuse_no_figures cd_refuse_no_figures ct_refuse_no_figures, f_refuse_too_long, PySem.W.fnOf "refuse_too_long" "refuse_too_long" (defArgs s_refuse_too_long) (defBody s_refuse_too_long) (defScope s_refuse_too_long) .none kV_refuse_too_long dc_refuse_too_long pm_refuse_too_long an_refuse_too_long cd_refuse_too_long ct_refuse_too_long, f_one_figure_longer, PySem.W.fnOf "one_figure_longer" "one_figure_longer" (defArgs s_one_figure_longer) (defBody s_one_figure_longer) (defScope s_one_figure_longer) .none kV_one_figure_longer dc_one_figure_longer pm_one_figure_longer an_one_figure_longer cd_one_figure_longer ct_one_figure_longer, f_lines_of, PySem.W.fnOf "lines_of" "lines_of" (defArgs s_lines_of) (defBody s_lines_of) (defScope s_lines_of) .none kV_lines_of dc_lines_of pm_lines_of an_lines_of cd_lines_of ct_lines_of, f_lines_of_all, PySem.W.fnOf "lines_of_all" "lines_of_all" (defArgs s_lines_of_all) (defBody s_lines_of_all) (defScope s_lines_of_all) .none kV_lines_of_all dc_lines_of_all pm_lines_of_all an_lines_of_all cd_lines_of_all ct_lines_of_all, f_by_heads, PySem.W.fnOf "by_heads" "by_heads" (defArgs s_by_heads) (defBody s_by_heads) (defScope s_by_heads) .none kV_by_heads dc_by_heads pm_by_heads an_by_heads cd_by_heads ct_by_heads, f_fewest, PySem.W.fnOf "fewest" "fewest" (defArgs s_fewest) (defBody s_fewest) (defScope s_fewest) .none kV_fewest dc_fewest pm_fewest an_fewest cd_fewest ct_fewest, f_Region_init, PySem.W.fnOf "__init__" "Region.__init__" (defArgs s_Region_init) (defBody s_Region_init) (defScope s_Region_init) .none kV_Region_init dc_Region_init pm_Region_init an_Region_init cd_Region_init ct_Region_init, f_Region_told, PySem.W.fnOf "told" "Region.told" (defArgs s_Region_told) (defBody s_Region_told) (defScope s_Region_told) .none kV_Region_told dc_Region_told pm_Region_told an_Region_told cd_Region_told ct_Region_told, f_Region_many, PySem.W.fnOf "many" "Region.many" (defArgs s_Region_many) (defBody s_Region_many) (defScope s_Region_many) .none kV_Region_many dc_Region_many pm_Region_many an_Region_many cd_Region_many ct_Region_many, f_Region_cells, PySem.W.fnOf "cells" "Region.cells" (defArgs s_Region_cells) (defBody s_Region_cells) (defScope s_Region_cells) .none kV_Region_cells dc_Region_cells pm_Region_cells an_Region_cells cd_Region_cells ct_Region_cells, f_law_cell_at, PySem.W.fnOf "_law_cell_at" "_law_cell_at" (defArgs s_law_cell_at) (defBody s_law_cell_at) (defScope s_law_cell_at) .none kV_law_cell_at dc_law_cell_at pm_law_cell_at an_law_cell_at cd_law_cell_at ct_law_cell_at, f_law_whole, PySem.W.fnOf "_law_whole" "_law_whole" (defArgs s_law_whole) (defBody s_law_whole) (defScope s_law_whole) .none kV_law_whole dc_law_whole pm_law_whole an_law_whole cd_law_whole ct_law_whole, f_law_place_alike, PySem.W.fnOf "_law_place_alike" "_law_place_alike" (defArgs s_law_place_alike) (defBody s_law_place_alike) (defScope s_law_place_alike) .none kV_law_place_alike dc_law_place_alike pm_law_place_alike an_law_place_alike cd_law_place_alike ct_law_place_alike, f_law_step, PySem.W.fnOf "_law_step" "_law_step" (defArgs s_law_step) (defBody s_law_step) (defScope s_law_step) .none kV_law_step dc_law_step pm_law_step an_law_step cd_law_step ct_law_step, f_law_place, PySem.W.fnOf "_law_place" "_law_place" (defArgs s_law_place) (defBody s_law_place) (defScope s_law_place) .none kV_law_place dc_law_place pm_law_place an_law_place cd_law_place ct_law_place, f_law_lines, PySem.W.fnOf "_law_lines" "_law_lines" (defArgs s_law_lines) (defBody s_law_lines) (defScope s_law_lines) .none kV_law_lines dc_law_lines pm_law_lines an_law_lines cd_law_lines ct_law_lines, f_law_level, PySem.W.fnOf "_law_level" "_law_level" (defArgs s_law_level) (defBody s_law_level) (defScope s_law_level) .none kV_law_level dc_law_level pm_law_level an_law_level cd_law_level ct_law_level, f_law_rows, PySem.W.fnOf "_law_rows" "_law_rows" (defArgs s_law_rows) (defBody s_law_rows) (defScope s_law_rows) .none kV_law_rows dc_law_rows pm_law_rows an_law_rows cd_law_rows ct_law_rows, f_law_all, PySem.W.fnOf "_law_all" "_law_all" (defArgs s_law_all) (defBody s_law_all) (defScope s_law_all) .none kV_law_all dc_law_all pm_law_all an_law_all cd_law_all ct_law_all, f_law_told, PySem.W.fnOf "_law_told" "_law_told" (defArgs s_law_told) (defBody s_law_told) (defScope s_law_told) .none kV_law_told dc_law_told pm_law_told an_law_told cd_law_told ct_law_told, f_law_cells, PySem.W.fnOf "_law_cells" "_law_cells" (defArgs s_law_cells) (defBody s_law_cells) (defScope s_law_cells) .none kV_law_cells dc_law_cells pm_law_cells an_law_cells cd_law_cells ct_law_cells, f_law_right, PySem.W.fnOf "_law_right" "_law_right" (defArgs s_law_right) (defBody s_law_right) (defScope s_law_right) .none kV_law_right dc_law_right pm_law_right an_law_right cd_law_right ct_law_right, f_law, PySem.W.fnOf "law" "law" (defArgs s_law) (defBody s_law) (defScope s_law) .none kV_law dc_law pm_law an_law cd_law ct_law, a_MIDDLE, a_FIRST_STEP, a_DIRECTIONS, a_FIGURES, a_FIGURE_BY_REMAINDER, a_LEVELS, c_NoFigure, c_FloorError, c_NoCell, c_NoLevel, c_Region⟩, ⟨dn_mk (fun_mk (st := s_added) l_added q_added p_added) (PySem.W.mg_of X G e_added) (fun _ _ _ _ _ _ => len2 fun _ _ => rfl),
    dn_mk (fun_mk (st := s_taken) l_taken q_taken p_taken) (PySem.W.mg_of X G e_taken) (fun _ _ _ _ _ _ => len2 fun _ _ => rfl),
    dn_mk (fun_mk (st := s_turned) l_turned q_turned p_turned) (PySem.W.mg_of X G e_turned) (fun _ _ _ _ _ _ => len2 fun _ _ => rfl),
    dn_mk (fun_mk (st := s_step) l_step q_step p_step) (PySem.W.mg_of X G e_step) (fun _ _ _ _ _ _ => len1 fun _ => rfl),
    dn_mk (fun_mk (st := s_great) l_great q_great p_great) (PySem.W.mg_of X G e_great) (fun _ _ _ _ _ _ => len1 fun _ => rfl),
    dn_mk (fun_mk (st := s_rest) l_rest q_rest p_rest) (PySem.W.mg_of X G e_rest) (fun _ _ _ _ _ _ => len1 fun _ => rfl),
    dn_mk (fun_mk (st := s_place_of_rest) l_place_of_rest q_place_of_rest p_place_of_rest) (PySem.W.mg_of X G e_place_of_rest) (fun _ _ _ _ _ _ => len1 fun _ => rfl),
    dn_mk (fun_mk (st := s_place_of) l_place_of q_place_of p_place_of) (PySem.W.mg_of X G e_place_of) (fun _ _ _ _ _ _ => len1 fun _ => rfl),
    dn_mk (fun_mk (st := s_refuse_no_level) l_refuse_no_level q_refuse_no_level p_refuse_no_level) (PySem.W.mg_of X G e_refuse_no_level) (fun _ _ _ _ _ _ => len1 fun _ => rfl),
    dn_mk (fun_mk (st := s_refuse_no_figures) l_refuse_no_figures q_refuse_no_figures p_refuse_no_figures) (PySem.W.mg_of X G e_refuse_no_figures) (fun _ _ _ _ _ _ => len1 fun _ => rfl),
    dn_mk (fun_mk (st := s_refuse_too_long) l_refuse_too_long q_refuse_too_long p_refuse_too_long) (PySem.W.mg_of X G e_refuse_too_long) (fun _ _ _ _ _ _ => len2 fun _ _ => rfl),
    dn_mk (fun_mk (st := s_one_figure_longer) l_one_figure_longer q_one_figure_longer p_one_figure_longer) (PySem.W.mg_of X G e_one_figure_longer) (fun _ _ _ _ _ _ => len1 fun _ => rfl),
    dn_mk (fun_mk (st := s_lines_of) l_lines_of q_lines_of p_lines_of) (PySem.W.mg_of X G e_lines_of) (fun _ _ _ _ _ _ => len2 fun _ _ => rfl),
    dn_mk (fun_mk (st := s_lines_of_all) l_lines_of_all q_lines_of_all p_lines_of_all) (PySem.W.mg_of X G e_lines_of_all) (fun _ _ _ _ _ _ => len2 fun _ _ => rfl),
    dn_mk (fun_mk (st := s_by_heads) l_by_heads q_by_heads p_by_heads) (PySem.W.mg_of X G e_by_heads) (fun _ _ _ _ _ _ => len1 fun _ => rfl),
    dn_mk (fun_mk (st := s_fewest) l_fewest q_fewest p_fewest) (PySem.W.mg_of X G e_fewest) (fun _ _ _ _ _ _ => len2 fun _ _ => rfl),
    dm_mk (fun_mk (st := s_Region_init) l_Region_init q_Region_init p_Region_init) e_Region_init i_Region_init (fun _ _ _ _ _ _ => len3 fun _ _ _ => rfl),
    dm_mk (fun_mk (st := s_Region_told) l_Region_told q_Region_told p_Region_told) e_Region_told i_Region_told (fun _ _ _ _ _ _ => len1 fun _ => rfl),
    dm_mk (fun_mk (st := s_Region_many) l_Region_many q_Region_many p_Region_many) e_Region_many i_Region_many (fun _ _ _ _ _ _ => len1 fun _ => rfl),
    dm_mk (fun_mk (st := s_Region_cells) l_Region_cells q_Region_cells p_Region_cells) e_Region_cells i_Region_cells (fun _ _ _ _ _ _ => len1 fun _ => rfl),
    dn_mk (fun_mk (st := s_law_cell_at) l_law_cell_at q_law_cell_at p_law_cell_at) (PySem.W.mg_of X G e_law_cell_at) (fun _ _ _ _ _ _ => len2 fun _ _ => rfl),
    dn_mk (fun_mk (st := s_law_whole) l_law_whole q_law_whole p_law_whole) (PySem.W.mg_of X G e_law_whole) (fun _ _ _ _ _ _ => len1 fun _ => rfl),
    dn_mk (fun_mk (st := s_law_place_alike) l_law_place_alike q_law_place_alike p_law_place_alike) (PySem.W.mg_of X G e_law_place_alike) (fun _ _ _ _ _ _ => len2 fun _ _ => rfl),
    dn_mk (fun_mk (st := s_law_step) l_law_step q_law_step p_law_step) (PySem.W.mg_of X G e_law_step) (fun _ _ _ _ _ _ => len1 fun _ => rfl),
    dn_mk (fun_mk (st := s_law_place) l_law_place q_law_place p_law_place) (PySem.W.mg_of X G e_law_place) (fun _ _ _ _ _ _ => len1 fun _ => rfl),
    dn_mk (fun_mk (st := s_law_lines) l_law_lines q_law_lines p_law_lines) (PySem.W.mg_of X G e_law_lines) (fun _ _ _ _ _ _ => len2 fun _ _ => rfl),
    dn_mk (fun_mk (st := s_law_level) l_law_level q_law_level p_law_level) (PySem.W.mg_of X G e_law_level) (fun _ _ _ _ _ _ => len1 fun _ => rfl),
    dn_mk (fun_mk (st := s_law_rows) l_law_rows q_law_rows p_law_rows) (PySem.W.mg_of X G e_law_rows) (fun _ _ _ _ _ _ => len3 fun _ _ _ => rfl),
    dn_mk (fun_mk (st := s_law_all) l_law_all q_law_all p_law_all) (PySem.W.mg_of X G e_law_all) (fun _ _ _ _ _ _ => len2 fun _ _ => rfl),
    dn_mk (fun_mk (st := s_law_told) l_law_told q_law_told p_law_told) (PySem.W.mg_of X G e_law_told) (fun _ _ _ _ _ _ => len3 fun _ _ _ => rfl),
    dn_mk (fun_mk (st := s_law_cells) l_law_cells q_law_cells p_law_cells) (PySem.W.mg_of X G e_law_cells) (fun _ _ _ _ _ _ => len2 fun _ _ => rfl),
    dn_mk (fun_mk (st := s_law_right) l_law_right q_law_right p_law_right) (PySem.W.mg_of X G e_law_right) (fun _ _ _ _ _ _ => len3 fun _ _ _ => rfl),
    dn_mk (fun_mk (st := s_law) l_law q_law p_law) (PySem.W.mg_of X G e_law) (fun _ _ _ _ _ _ => len1 fun _ => rfl),
    PySem.W.mg_of X G eg_MIDDLE,
    fun H => tup_of lg_MIDDLE hc_MIDDLE hz_MIDDLE hv_MIDDLE,
    PySem.W.mg_of X G eg_FIRST_STEP,
    fun H => tup_of lg_FIRST_STEP hc_FIRST_STEP hz_FIRST_STEP hv_FIRST_STEP,
    PySem.W.mg_of X G eg_DIRECTIONS,
    fun H => tup_of lg_DIRECTIONS hc_DIRECTIONS hz_DIRECTIONS hv_DIRECTIONS,
    PySem.W.mg_of X G eg_FIGURES,
    fun H => tup_of lg_FIGURES hc_FIGURES hz_FIGURES hv_FIGURES,
    PySem.W.mg_of X G eg_FIGURE_BY_REMAINDER,
    fun H => tup_of lg_FIGURE_BY_REMAINDER hc_FIGURE_BY_REMAINDER hz_FIGURE_BY_REMAINDER hv_FIGURE_BY_REMAINDER,
    PySem.W.mg_of X G eg_LEVELS,
    fun H => tup_of lg_LEVELS hc_LEVELS hz_LEVELS hv_LEVELS,
    PySem.W.mg_none_of X G b_len,
    PySem.W.mg_none_of X G b_range,
    PySem.W.mg_none_of X G b_tuple,
    PySem.W.mg_none_of X G b_list,
    PySem.W.mg_none_of X G b_max,
    PySem.W.mg_none_of X G b_sorted,
    PySem.W.mg_none_of X G b_isinstance,
    PySem.W.mg_none_of X G b_int,
    PySem.W.mg_none_of X G b_bool,
    PySem.W.mg_none_of X G b_dict,
    PySem.W.mg_of X G ec_NoFigure,
    PySem.W.mg_of X G ec_FloorError,
    PySem.W.mg_of X G ec_NoCell,
    PySem.W.mg_of X G ec_NoLevel,
    PySem.W.mg_of X G ec_Region,
    xc_NoLevel,
    ⟨ga_NoLevel, gt_NoLevel, cl_NoLevel, ob_NoLevel, be_NoLevel, by rw [cs_NoLevel]; rfl⟩,
    xc_NoFigure,
    ⟨ga_NoFigure, gt_NoFigure, cl_NoFigure, ob_NoFigure, be_NoFigure, by rw [cs_NoFigure]; rfl⟩,
    xc_NoCell,
    ⟨ga_NoCell, gt_NoCell, cl_NoCell, ob_NoCell, be_NoCell, by rw [cs_NoCell]; rfl⟩,
    ⟨mk_Region, e_Region_init, i_Region_init, kc_Region⟩,
    ⟨pg_Region, hd_Region, po_Region, sa_Region⟩,
    na_Region_level,
    na_Region_lines⟩, rfl, rfl⟩
theorem walk {l : PySem.W.OpenLaw} {q : Program} {loose : List Str} {XP : (Str → Option Value) → Heap → Prop} {YP : World → Heap → Prop} {d : DefRec} {K : Params → PySem.W.Frag} (hn : l.most = some 63) (hdf : d.params.defaults = [])
    (hY : ∀ (w : World) (h : Heap), YP w h → (K w.params).In h)
    (F : ∀ (w : World) (mg : Str → Option Value) (fa : Addr) (h : Heap), (K w.params).In h → h.Ns mainGlobals mg → mg d.name = some (.ref fa) →
      ∃ fd : FuncData, (∀ (s : Shared) (u : Value), BindsTo s fd ⟨[u], []⟩ [("script", u)]) ∧ ∀ base : Heap, (K w.params).In base → base.Ns mainGlobals mg → FnOk l.prog w (K w.params) mg base CX0 7 fa fd ["script"] (sp_law (K w.params))) :
    PySem.W.WalkO q loose XP YP l.row.toRowW d [] (fun f vs => PySem.call f vs) :=
  L2.walk_of (n := 63) (k := 7) (x := "script") (CX := fun _ => CX0) (sp := fun w => sp_law (K w.params)) hn (by decide) hdf ⟨rfl, by decide, by decide⟩ hY F (fun _ _ a ns hl _ hS => ⟨a, ns, rfl, hS, hl, fun _ => rfl⟩) fun _ _ _ _ _ z => z
end My
theorem PySem.W.Fast.te13556428377502468012 : True := trivial
theorem PySem.W.Fast.te11001492808987559224 : True := trivial
open PySem PySem.W PyProof.Rows
set_option maxRecDepth 100000 in
set_option maxHeartbeats 0 in
theorem PySem.Challenge.cw_hexaddress_k14_a_region_told_holds : PySem.Challenge.rw_hexaddress_k14_a_region_told.Holds := by
  w_on; o_law; k_head; (case hw => w_witness2)
  k_fill
  refine My.walk (l := PySem.Challenge.rw_hexaddress_k14_a_region_told) rfl rfl (fun w h Y => PySem.W.kIn_of Y) ?F
  case F =>
    intro w mg fa h KX G hmg
    have T : ∃ t : My.Adr, My.Txt (L2.KOf KX) mg t := by
      dsimp only [L2.KOf]
      refine' My.txt_ex (My.txt_mk KX G ?ec_NoFigure ?ec_FloorError ?ec_NoCell ?ec_NoLevel ?ec_Region ?e_added ?l_added ?q_added ?p_added ?e_taken ?l_taken ?q_taken ?p_taken ?e_turned ?l_turned ?q_turned ?p_turned ?e_step ?l_step ?q_step ?p_step ?e_great ?l_great ?q_great ?p_great ?e_rest ?l_rest ?q_rest ?p_rest ?e_place_of_rest ?l_place_of_rest ?q_place_of_rest ?p_place_of_rest ?e_place_of ?l_place_of ?q_place_of ?p_place_of ?e_refuse_no_level ?l_refuse_no_level ?q_refuse_no_level ?p_refuse_no_level ?e_refuse_no_figures ?l_refuse_no_figures ?q_refuse_no_figures ?p_refuse_no_figures ?e_refuse_too_long ?l_refuse_too_long ?q_refuse_too_long ?p_refuse_too_long ?e_one_figure_longer ?l_one_figure_longer ?q_one_figure_longer ?p_one_figure_longer ?e_lines_of ?l_lines_of ?q_lines_of ?p_lines_of ?e_lines_of_all ?l_lines_of_all ?q_lines_of_all ?p_lines_of_all ?e_by_heads ?l_by_heads ?q_by_heads ?p_by_heads ?e_fewest ?l_fewest ?q_fewest ?p_fewest ?e_Region_init ?i_Region_init ?l_Region_init ?q_Region_init ?p_Region_init ?e_Region_told ?i_Region_told ?l_Region_told ?q_Region_told ?p_Region_told ?e_Region_many ?i_Region_many ?l_Region_many ?q_Region_many ?p_Region_many ?e_Region_cells ?i_Region_cells ?l_Region_cells ?q_Region_cells ?p_Region_cells ?e_law_cell_at ?l_law_cell_at ?q_law_cell_at ?p_law_cell_at ?e_law_whole ?l_law_whole ?q_law_whole ?p_law_whole ?e_law_place_alike ?l_law_place_alike ?q_law_place_alike ?p_law_place_alike ?e_law_step ?l_law_step ?q_law_step ?p_law_step ?e_law_place ?l_law_place ?q_law_place ?p_law_place ?e_law_lines ?l_law_lines ?q_law_lines ?p_law_lines ?e_law_level ?l_law_level ?q_law_level ?p_law_level ?e_law_rows ?l_law_rows ?q_law_rows ?p_law_rows ?e_law_all ?l_law_all ?q_law_all ?p_law_all ?e_law_told ?l_law_told ?q_law_told ?p_law_told ?e_law_cells ?l_law_cells ?q_law_cells ?p_law_cells ?e_law_right ?l_law_right ?q_law_right ?p_law_right ?e_law ?l_law ?q_law ?p_law ?eg_MIDDLE ?lg_MIDDLE ?hc_MIDDLE ?hz_MIDDLE ?hv_MIDDLE ?eg_FIRST_STEP ?lg_FIRST_STEP ?hc_FIRST_STEP ?hz_FIRST_STEP ?hv_FIRST_STEP ?eg_DIRECTIONS ?lg_DIRECTIONS ?hc_DIRECTIONS ?hz_DIRECTIONS ?hv_DIRECTIONS ?eg_FIGURES ?lg_FIGURES ?hc_FIGURES ?hz_FIGURES ?hv_FIGURES ?eg_FIGURE_BY_REMAINDER ?lg_FIGURE_BY_REMAINDER ?hc_FIGURE_BY_REMAINDER ?hz_FIGURE_BY_REMAINDER ?hv_FIGURE_BY_REMAINDER ?eg_LEVELS ?lg_LEVELS ?hc_LEVELS ?hz_LEVELS ?hv_LEVELS ?b_len ?b_range ?b_tuple ?b_list ?b_max ?b_sorted ?b_isinstance ?b_int ?b_bool ?b_dict ?xc_NoLevel ?ga_NoLevel ?gt_NoLevel ?cl_NoLevel ?ob_NoLevel ?be_NoLevel ?cs_NoLevel ?xc_NoFigure ?ga_NoFigure ?gt_NoFigure ?cl_NoFigure ?ob_NoFigure ?be_NoFigure ?cs_NoFigure ?xc_NoCell ?ga_NoCell ?gt_NoCell ?cl_NoCell ?ob_NoCell ?be_NoCell ?cs_NoCell ?mk_Region ?kc_Region ?pg_Region ?hd_Region ?po_Region ?sa_Region ?na_Region_level ?na_Region_lines)
      (case ec_NoFigure => k_is)
      (case ec_FloorError => k_is)
      (case ec_NoCell => k_is)
      (case ec_NoLevel => k_is)
      (case ec_Region => k_is)
      (case e_added => k_is)
      (case l_added => k_is)
      (case q_added => k_is)
      (case p_added => k_is)
      (case e_taken => k_is)
      (case l_taken => k_is)
      (case q_taken => k_is)
      (case p_taken => k_is)
      (case e_turned => k_is)
      (case l_turned => k_is)
      (case q_turned => k_is)
      (case p_turned => k_is)
      (case e_step => k_is)
      (case l_step => k_is)
      (case q_step => k_is)
      (case p_step => k_is)
      (case e_great => k_is)
      (case l_great => k_is)
      (case q_great => k_is)
      (case p_great => k_is)
      (case e_rest => k_is)
      (case l_rest => k_is)
      (case q_rest => k_is)
      (case p_rest => k_is)
      (case e_place_of_rest => k_is)
      (case l_place_of_rest => k_is)
      (case q_place_of_rest => k_is)
      (case p_place_of_rest => k_is)
      (case e_place_of => k_is)
      (case l_place_of => k_is)
      (case q_place_of => k_is)
      (case p_place_of => k_is)
      (case e_refuse_no_level => k_is)
      (case l_refuse_no_level => k_is)
      (case q_refuse_no_level => k_is)
      (case p_refuse_no_level => k_is)
      (case e_refuse_no_figures => k_is)
      (case l_refuse_no_figures => k_is)
      (case q_refuse_no_figures => k_is)
      (case p_refuse_no_figures => k_is)
      (case e_refuse_too_long => k_is)
      (case l_refuse_too_long => k_is)
      (case q_refuse_too_long => k_is)
      (case p_refuse_too_long => k_is)
      (case e_one_figure_longer => k_is)
      (case l_one_figure_longer => k_is)
      (case q_one_figure_longer => k_is)
      (case p_one_figure_longer => k_is)
      (case e_lines_of => k_is)
      (case l_lines_of => k_is)
      (case q_lines_of => k_is)
      (case p_lines_of => k_is)
      (case e_lines_of_all => k_is)
      (case l_lines_of_all => k_is)
      (case q_lines_of_all => k_is)
      (case p_lines_of_all => k_is)
      (case e_by_heads => k_is)
      (case l_by_heads => k_is)
      (case q_by_heads => k_is)
      (case p_by_heads => k_is)
      (case e_fewest => k_is)
      (case l_fewest => k_is)
      (case q_fewest => k_is)
      (case p_fewest => k_is)
      (case e_Region_init => k_is)
      (case i_Region_init => k_is)
      (case l_Region_init => k_is)
      (case q_Region_init => k_is)
      (case p_Region_init => k_is)
      (case e_Region_told => k_is)
      (case i_Region_told => k_is)
      (case l_Region_told => k_is)
      (case q_Region_told => k_is)
      (case p_Region_told => k_is)
      (case e_Region_many => k_is)
      (case i_Region_many => k_is)
      (case l_Region_many => k_is)
      (case q_Region_many => k_is)
      (case p_Region_many => k_is)
      (case e_Region_cells => k_is)
      (case i_Region_cells => k_is)
      (case l_Region_cells => k_is)
      (case q_Region_cells => k_is)
      (case p_Region_cells => k_is)
      (case e_law_cell_at => k_is)
      (case l_law_cell_at => k_is)
      (case q_law_cell_at => k_is)
      (case p_law_cell_at => k_is)
      (case e_law_whole => k_is)
      (case l_law_whole => k_is)
      (case q_law_whole => k_is)
      (case p_law_whole => k_is)
      (case e_law_place_alike => k_is)
      (case l_law_place_alike => k_is)
      (case q_law_place_alike => k_is)
      (case p_law_place_alike => k_is)
      (case e_law_step => k_is)
      (case l_law_step => k_is)
      (case q_law_step => k_is)
      (case p_law_step => k_is)
      (case e_law_place => k_is)
      (case l_law_place => k_is)
      (case q_law_place => k_is)
      (case p_law_place => k_is)
      (case e_law_lines => k_is)
      (case l_law_lines => k_is)
      (case q_law_lines => k_is)
      (case p_law_lines => k_is)
      (case e_law_level => k_is)
      (case l_law_level => k_is)
      (case q_law_level => k_is)
      (case p_law_level => k_is)
      (case e_law_rows => k_is)
      (case l_law_rows => k_is)
      (case q_law_rows => k_is)
      (case p_law_rows => k_is)
      (case e_law_all => k_is)
      (case l_law_all => k_is)
      (case q_law_all => k_is)
      (case p_law_all => k_is)
      (case e_law_told => k_is)
      (case l_law_told => k_is)
      (case q_law_told => k_is)
      (case p_law_told => k_is)
      (case e_law_cells => k_is)
      (case l_law_cells => k_is)
      (case q_law_cells => k_is)
      (case p_law_cells => k_is)
      (case e_law_right => k_is)
      (case l_law_right => k_is)
      (case q_law_right => k_is)
      (case p_law_right => k_is)
      (case e_law => k_is)
      (case l_law => k_is)
      (case q_law => k_is)
      (case p_law => k_is)
      (case eg_MIDDLE => k_is)
      (case lg_MIDDLE => k_is)
      (case hc_MIDDLE => rfl)
      (case hz_MIDDLE => decide)
      (case hv_MIDDLE => rfl)
      (case eg_FIRST_STEP => k_is)
      (case lg_FIRST_STEP => k_is)
      (case hc_FIRST_STEP => rfl)
      (case hz_FIRST_STEP => decide)
      (case hv_FIRST_STEP => rfl)
      (case eg_DIRECTIONS => k_is)
      (case lg_DIRECTIONS => k_is)
      (case hc_DIRECTIONS => rfl)
      (case hz_DIRECTIONS => decide)
      (case hv_DIRECTIONS => rfl)
      (case eg_FIGURES => k_is)
      (case lg_FIGURES => k_is)
      (case hc_FIGURES => rfl)
      (case hz_FIGURES => decide)
      (case hv_FIGURES => rfl)
      (case eg_FIGURE_BY_REMAINDER => k_is)
      (case lg_FIGURE_BY_REMAINDER => k_is)
      (case hc_FIGURE_BY_REMAINDER => rfl)
      (case hz_FIGURE_BY_REMAINDER => decide)
      (case hv_FIGURE_BY_REMAINDER => rfl)
      (case eg_LEVELS => k_is)
      (case lg_LEVELS => k_is)
      (case hc_LEVELS => rfl)
      (case hz_LEVELS => decide)
      (case hv_LEVELS => rfl)
      (case b_len => k_is)
      (case b_range => k_is)
      (case b_tuple => k_is)
      (case b_list => k_is)
      (case b_max => k_is)
      (case b_sorted => k_is)
      (case b_isinstance => k_is)
      (case b_int => k_is)
      (case b_bool => k_is)
      (case b_dict => k_is)
      (case xc_NoLevel => k_exc)
      (case ga_NoLevel => k_is)
      (case gt_NoLevel => k_is)
      (case cl_NoLevel => k_is)
      (case ob_NoLevel => k_is)
      (case be_NoLevel => k_is)
      (case cs_NoLevel => k_is)
      (case xc_NoFigure => k_exc)
      (case ga_NoFigure => k_is)
      (case gt_NoFigure => k_is)
      (case cl_NoFigure => k_is)
      (case ob_NoFigure => k_is)
      (case be_NoFigure => k_is)
      (case cs_NoFigure => k_is)
      (case xc_NoCell => k_exc)
      (case ga_NoCell => k_is)
      (case gt_NoCell => k_is)
      (case cl_NoCell => k_is)
      (case ob_NoCell => k_is)
      (case be_NoCell => k_is)
      (case cs_NoCell => k_is)
      (case mk_Region => k_is)
      (case kc_Region => k_is)
      (case pg_Region => k_is)
      (case hd_Region => k_is)
      (case po_Region => k_is)
      (case sa_Region => k_is)
      (case na_Region_level => k_is)
      (case na_Region_lines => k_is)
    obtain ⟨t, T⟩ := T
    have e0 := hmg.symm.trans T.d_law.m
    cases e0
    exact ⟨_, T.d_law.bind1, fun base _ _ => My.ok_law T⟩


