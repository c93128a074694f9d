import PyProof.Rows.All
import Wide.All
import OpenK.AllK
import Wide.FinOn
import Lean
import PyProof.EqAt
import PyProof.EqKinds
import PyProof.TupleCall
import PySem.Challenge.RW_hexaddress_k20_whole_a_way
set_option Elab.async false
set_option linter.all false
set_option maxRecDepth 100000
namespace L2
open PySem PySem.Spec PyProof.Rows

abbrev Key := Sum Int Str
def keyIs : Key → Value → Bool
  | .inl k, v => Value.isInt k v
  | .inr x, v => Value.isStrOf x v
def keyH (w : World) : Key → Int
  | .inl k => hashInt k
  | .inr x => hashStr w x
theorem keyIs_shape : ∀ {k : Key} {v : Value}, keyIs k v = true → (∃ i t, k = Sum.inl i ∧ v = Value.int i t) ∨ (∃ x t, k = Sum.inr x ∧ v = Value.str x t)
  | .inl i, v, h => by
    obtain ⟨t, e⟩ := Value.isInt_shape (k := i) (v := v) h
    exact .inl ⟨i, t, rfl, e⟩
  | .inr x, v, h => by
    obtain ⟨t, e⟩ := Value.isStrOf_shape (x := x) (v := v) h
    exact .inr ⟨x, t, rfl, e⟩
theorem keyIs_int (i : Int) (t : Tok) : keyIs (.inl i) (.int i t) = true := by simp [keyIs, Value.isInt]
theorem keyIs_str (x : Str) (t : Tok) : keyIs (.inr x) (.str x t) = true := by simp [keyIs, Value.isStrOf]
theorem key_ll (a b : Int) : decide ((Sum.inl a : Key) = Sum.inl b) = (a == b) := by
  by_cases e : a = b
  · subst e; simp
  · have h : ¬ (Sum.inl a : Key) = Sum.inl b := fun q => e (Sum.inl.inj q)
    rw [decide_eq_false h]
    exact (beq_eq_false_iff_ne.mpr e).symm
theorem key_rr (a b : Str) : decide ((Sum.inr a : Key) = Sum.inr b) = decide (a = b) := by
  by_cases e : a = b
  · subst e; simp
  · have h : ¬ (Sum.inr a : Key) = Sum.inr b := fun q => e (Sum.inr.inj q)
    rw [decide_eq_false h, decide_eq_false e]
theorem key_lr (a : Int) (b : Str) : decide ((Sum.inl a : Key) = Sum.inr b) = false := decide_eq_false (fun q => nomatch q)
theorem key_rl (a : Str) (b : Int) : decide ((Sum.inr a : Key) = Sum.inl b) = false := decide_eq_false (fun q => nomatch q)

def mixKind (prog : Program) (w : World) : PySem.KeyKind prog w Key where
  is := keyIs
  hash := keyH w
  inj := fun v a b ha hb => by
    rcases keyIs_shape ha with ⟨i, t, rfl, rfl⟩ | ⟨x, t, rfl, rfl⟩
    · rcases keyIs_shape hb with ⟨j, u, rfl, e⟩ | ⟨y, u, rfl, e⟩
      · injection e with e1 _; rw [e1]
      · exact nomatch e
    · rcases keyIs_shape hb with ⟨j, u, rfl, e⟩ | ⟨y, u, rfl, e⟩
      · exact nomatch e
      · injection e with e1 _; rw [e1]
  byValue := fun k v h => by
    rcases keyIs_shape h with ⟨i, t, rfl, rfl⟩ | ⟨x, t, rfl, rfl⟩ <;> rfl
  pyHash := fun hv h => by
    rcases keyIs_shape hv with ⟨i, t, rfl, rfl⟩ | ⟨x, t, rfl, rfl⟩
    · exact wpAny_pyHash_int h
    · exact wpAny_pyHash_str h
  eqBool := fun hu hv h => by
    rcases keyIs_shape hu with ⟨i, t, rfl, rfl⟩ | ⟨x, t, rfl, rfl⟩
    · rcases keyIs_shape hv with ⟨j, u, rfl, rfl⟩ | ⟨y, u, rfl, rfl⟩
      · rw [key_ll] at h; exact wpAny_eqBool_int h
      · rw [key_lr] at h; exact SeqAt.EqAt.int_str i t y u _ _ _ _ h
    · rcases keyIs_shape hv with ⟨j, u, rfl, rfl⟩ | ⟨y, u, rfl, rfl⟩
      · rw [key_rl] at h; exact SeqAt.EqAt.str_int x t j u _ _ _ _ h
      · rw [key_rr] at h; exact wpAny_eqBool_str h
  «strs» := fun k x t v h => by
    rcases keyIs_shape h with ⟨i, u, rfl, e⟩ | ⟨y, u, rfl, e⟩
    · exact nomatch e
    · injection e with e1 _
      subst e1
      cases v <;> rfl

theorem mixKind_int (prog : Program) (w : World) (i : Int) (t : Tok) : (mixKind prog w).is (.inl i) (.int i t) = true := keyIs_int i t
theorem mixKind_str (prog : Program) (w : World) (x : Str) (t : Tok) : (mixKind prog w).is (.inr x) (.str x t) = true := keyIs_str x t
end L2

namespace L2
open PySem PySem.Spec PyProof.Rows

inductive V where
  | non | bl (b : Bool) | int (i : Int) | str (x : Str) | byt (b : Array UInt8) | flt (b : UInt64) | ref (a : Addr) | ty (n : String)
  deriving DecidableEq

def RelV : V → Value → Prop
  | .non, u => u = Value.none
  | .bl b, u => u = Value.bool b
  | .int i, u => ∃ t, u = Value.int i t
  | .str x, u => ∃ t, u = Value.str x t
  | .byt b, u => ∃ t, u = Value.bytes b t
  | .flt b, u => ∃ t, u = Value.float b t
  | .ref a, u => u = Value.ref a
  | .ty n, u => u = Value.type n

abbrev Vals : List V → List Value → Prop := Paired RelV
theorem Vals.length {xs : List V} {us : List Value} (r : Vals xs us) : xs.length = us.length := Paired.length r
theorem Vals.get : ∀ {xs : List V} {us : List Value} {i : Nat} {x : V}, Vals xs us → xs[i]? = some x → ∃ u, us[i]? = some u ∧ RelV x u
  | _, _, _, _, .nil, e => by simp at e
  | _, _, 0, _, .cons r _, e => by simp at e; subst e; exact ⟨_, rfl, r⟩
  | _, _, i + 1, x, .cons _ t, e => by
    obtain ⟨u, h1, h2⟩ := Vals.get (i := i) (x := x) t (by simpa using e)
    exact ⟨u, by simpa using h1, h2⟩
theorem Vals.append : ∀ {xs ys : List V} {us ws : List Value}, Vals xs us → Vals ys ws → Vals (xs ++ ys) (us ++ ws)
  | _, _, _, _, .nil, s => s
  | _, _, _, _, .cons r t, s => .cons r (Vals.append t s)
def RelO : Option V → Option Value → Prop
  | some v, some u => RelV v u
  | none, none => True
  | _, _ => False
def KV {κ : Type} : List (κ × V) → List (κ × Value) → Prop := Paired fun (p : κ × V) (q : κ × Value) => p.1 = q.1 ∧ RelV p.2 q.2

def kV : Key → V
  | .inl i => .int i
  | .inr x => .str x

inductive HO where
  /-- a list -/
  | lst (xs : List V)
  /-- a tuple (never changes) -/
  | tup (xs : List V)
  /-- a dict whose keys are ints and texts; one whose keys are tuples of ints and texts (the empty one is both) -/
  | dK (kvs : List (Key × V)) | dT (kvs : List (List Key × V))
  /-- a set of ints: its members, its size -/
  | set (S : Int → Bool) (n : Nat)
  /-- an instance of the class at C, its dict at dx, its attributes -/
  | ins (C dx : Addr) (fs : List (Str × V))
  /-- the dict of the instance at x -/
  | own (x : Addr)
  /-- the dict of an exception -/
  | xd (fs : List (Str × V))
  /-- a bound method, f of x -/
  | met (f x : Addr)
  /-- a range object lo, lo + 1, .. below hi -/
  | rng (lo hi : Int)
  /-- a thing that is known to the object (the script; a dict while a loop walks it): read, never written while it is so -/
  | frz (o : Obj) (u : HO)
  /-- a code object's table -/
  | tbl (ps : Array Value)
  /-- any other thing, by what is true of its one object (a def of one's own: SetO a S n := HO.ext fun h => ..) -/
  | ext (φ : Heap → Prop)

abbrev Hp := Addr → Option HO
def upd (H : Hp) (a : Addr) (o : HO) : Hp := fun b => if b = a then some o else H b
theorem upd_same {H : Hp} {a : Addr} {o : HO} : upd H a o a = some o := by unfold upd; rw [if_pos rfl]
theorem upd_ne {H : Hp} {a b : Addr} {o : HO} (h : b ≠ a) : upd H a o b = H b := by unfold upd; rw [if_neg h]
theorem ne_of {H : Hp} {a b : Addr} {o u : HO} (h : H a = some o) (h' : H b = some u) (d : o ≠ u) : a ≠ b := by
  intro e; subst e; rw [h] at h'; exact d (Option.some.inj h')
theorem ne_of_none {H : Hp} {a b : Addr} {o : HO} (h : H a = some o) (h' : H b = none) : a ≠ b := by
  intro e; subst e; rw [h] at h'; cases h'

section
variable (P : Program) (w : World)
def ObjOk (H : Hp) (h : Heap) (a : Addr) : HO → Prop
  | .lst xs => xs.length ≤ sizeLine ∧ ∃ (its : List Value) (n : Nat), Vals xs its ∧ h.get? a = some { cls := .type "list", data := .seq its.toArray n }
  | .tup xs => xs.length ≤ sizeLine ∧ ∃ its : List Value, Vals xs its ∧ IsTup h a its.toArray
  | .dK kvs => kvs.length ≤ sizeLine ∧ (a == sysModules) = false ∧ ∃ vs, KV kvs vs ∧ h.DictOf (mixKind P w) a vs
  | .dT kvs => kvs.length ≤ sizeLine ∧ (a == sysModules) = false ∧ ∃ xs : List (List Key × Addr × Value),
      Paired (fun (p : List Key × V) (q : List Key × Addr × Value) => p.1 = q.1 ∧ H q.2.1 = some (.tup (p.1.map kV)) ∧ RelV p.2 q.2.2) kvs xs ∧
      ∃ o es ep, h.get? a = some o ∧ o.ExactDict ∧ o.data = .dict es ep ∧ es.toList = xs.map (entryOfKey (tupleKind (mixKind P w))) ∧ (xs.map (·.1)).Nodup
  | .set S n => h.SetOf (intKind P w) a S n
  | .ins C dx fs => H dx = some (.own a) ∧ fs.length ≤ 1000 ∧ dx ≠ a ∧ h.get? a = some (PySem.W.instObj C dx) ∧
      ∃ mA, h.Ns1 dx mA ∧ (∀ f, RelO (fs.lookup f) (mA f)) ∧ PySem.Within mA (fs.map (·.1))
  | .own _ => ∃ o, h.get? a = some o
  | .xd fs => ∃ mA, h.Ns1 a mA ∧ ∀ f, RelO (fs.lookup f) (mA f)
  | .rng lo hi => ∃ t u v, h.get? a = some { cls := .type "range", data := .fields #[.int lo t, .int hi u, .int 1 v] }
  | .frz o u => h.get? a = some o ∧ ObjOk H h a u
  | .tbl ps => h.get? a = some { cls := .none, data := .fields ps }
  | .met f x => h.get? a = some (PySem.W.methodObj (.ref f) (.ref x))
  | .ext φ => φ h ∧ (∃ o, h.get? a = some o) ∧ ∀ h1 h2 : Heap, φ h1 → (∀ o, h1.get? a = some o → h2.get? a = some o) → φ h2
def HOk (H : Hp) (h : Heap) : Prop := ∀ a o, H a = some o → ObjOk P w H h a o
end

section
variable {P : Program} {w : World} {H H' : Hp} {h h' : Heap} {a : Addr} {o : HO}
theorem ObjOk.lt (x : ObjOk P w H h a o) : a < h.objs.size := by
  cases o with
  | lst xs => obtain ⟨_, _, _, _, e⟩ := x; exact Heap.lt_size e
  | tup xs => obtain ⟨_, _, _, p⟩ := x; exact p.lt
  | dK kvs => obtain ⟨_, _, _, _, o, _, _, e, _⟩ := x; exact Heap.lt_size e
  | dT kvs => obtain ⟨_, _, _, _, o, _, _, e, _⟩ := x; exact Heap.lt_size e
  | set S n => obtain ⟨o, _, _, _, e, _⟩ := x; exact Heap.lt_size e
  | ins C dx fs => obtain ⟨_, _, _, e, _⟩ := x; exact Heap.lt_size e
  | own y => obtain ⟨_, e⟩ := x; exact Heap.lt_size e
  | xd fs => obtain ⟨_, ⟨_, _, _, e, _⟩, _⟩ := x; exact Heap.lt_size e
  | rng lo hi => obtain ⟨_, _, _, e⟩ := x; exact Heap.lt_size e
  | frz ob u => obtain ⟨e, _⟩ := x; exact Heap.lt_size e
  | tbl ps => exact Heap.lt_size (show h.get? a = some _ from x)
  | met f y => exact Heap.lt_size (show h.get? a = some _ from x)
  | ext φ => obtain ⟨_, ⟨_, e⟩, _⟩ := x; exact Heap.lt_size e
theorem Paired.mapP {α β : Type} {F G : α → β → Prop} : ∀ {l₁ : List α} {l₂ : List β}, Paired F l₁ l₂ → (∀ a b, F a b → G a b) → Paired G l₁ l₂
  | _, _, .nil, _ => .nil
  | _, _, .cons r t, f => .cons (f _ _ r) (Paired.mapP t f)
theorem ObjOk.stay (x : ObjOk P w H h a o) (k : ∀ b u, (b = a ∨ H b = some (.own a)) → h.get? b = some u → h'.get? b = some u)
    (ho : ∀ b, H b = some (.own a) → H' b = some (.own a)) (ht : ∀ b xs, H b = some (.tup xs) → H' b = some (.tup xs)) : ObjOk P w H' h' a o := by
  induction o with
  | lst xs => obtain ⟨z, its, n, r, e⟩ := x; exact ⟨z, its, n, r, k _ _ (.inl rfl) e⟩
  | tup xs => obtain ⟨z, its, r, ob, e, c⟩ := x; exact ⟨z, its, r, ob, k _ _ (.inl rfl) e, c⟩
  | dK kvs => obtain ⟨z, y, vs, r, ob, es, ep, e, c⟩ := x; exact ⟨z, y, vs, r, ob, es, ep, k _ _ (.inl rfl) e, c⟩
  | dT kvs =>
    obtain ⟨z, y, xs, r, ob, es, ep, e, c⟩ := x
    exact ⟨z, y, xs, Paired.mapP r fun p q z => ⟨z.1, ht _ _ z.2.1, z.2.2⟩, ob, es, ep, k _ _ (.inl rfl) e, c⟩
  | set S n => obtain ⟨ob, es, ep, t, e, c⟩ := x; exact ⟨ob, es, ep, t, k _ _ (.inl rfl) e, c⟩
  | ins C dx fs =>
    obtain ⟨d, z, ne, e, mA, ⟨od, es, ep, e2, c⟩, r⟩ := x
    exact ⟨ho _ d, z, ne, k _ _ (.inl rfl) e, mA, ⟨od, es, ep, k _ _ (.inr d) e2, c⟩, r⟩
  | own y => obtain ⟨ob, e⟩ := x; exact ⟨ob, k _ _ (.inl rfl) e⟩
  | xd fs => obtain ⟨mA, ⟨od, es, ep, e, c⟩, r⟩ := x; exact ⟨mA, ⟨od, es, ep, k _ _ (.inl rfl) e, c⟩, r⟩
  | rng lo hi => obtain ⟨t, u, v, e⟩ := x; exact ⟨t, u, v, k _ _ (.inl rfl) e⟩
  | frz ob u ih => obtain ⟨e, q⟩ := x; exact ⟨k _ _ (.inl rfl) e, ih q⟩
  | tbl ps =>
    have e : h.get? a = some { cls := .none, data := .fields ps } := x
    show h'.get? a = some { cls := .none, data := .fields ps }
    exact k a _ (.inl rfl) e
  | met f y =>
    have e : h.get? a = some (PySem.W.methodObj (.ref f) (.ref y)) := x
    show h'.get? a = some (PySem.W.methodObj (.ref f) (.ref y))
    exact k a _ (.inl rfl) e
  | ext φ => obtain ⟨p, ⟨o, e⟩, st⟩ := x; exact ⟨st _ _ p fun o q => k _ _ (.inl rfl) q, ⟨o, k _ _ (.inl rfl) e⟩, st⟩
theorem HOk.lt (x : HOk P w H h) (e : H a = some o) : a < h.objs.size := (x a o e).lt
theorem HOk.fresh (x : HOk P w H h) (e : h.objs.size ≤ a) : H a = none := by
  cases q : H a with
  | none => rfl
  | some u => exact absurd (Nat.lt_of_lt_of_le (x.lt q) e) (Nat.lt_irrefl _)
theorem HOk.kept (x : HOk P w H h) (k : ∀ b u, h.get? b = some u → h'.get? b = some u) : HOk P w H h' := fun a o e =>
  (x a o e).stay (fun b u _ q => k b u q) (fun _ q => q) fun _ _ q => q
theorem HOk.laid (x : HOk P w H h) (k : ∀ b u, h.get? b = some u → h'.get? b = some u) (hp : h.objs.size ≤ a) (new : ObjOk P w (upd H a o) h' a o) : HOk P w (upd H a o) h' := fun b u e => by
  have hn := x.fresh hp
  by_cases hb : b = a
  · subst hb; rw [upd_same] at e; cases e; exact new
  · rw [upd_ne hb] at e
    exact (x b u e).stay (fun c v _ q => k c v q) (fun c q => by rw [upd_ne (ne_of_none q hn)]; exact q) fun c xs q => by rw [upd_ne (ne_of_none q hn)]; exact q
end

def Rd (H : Hp) (a : Addr) (u : HO) : Prop := H a = some u ∨ ∃ o, H a = some (.frz o u)
theorem Rd.ok {P : Program} {w : World} {H : Hp} {h : Heap} {a : Addr} {u : HO} (r : Rd H a u) (x : HOk P w H h) : ObjOk P w H h a u := by
  rcases r with r | ⟨o, r⟩
  · exact x a u r
  · obtain ⟨_, q⟩ := x a _ r
    exact q
def Mut : Option HO → Prop
  | some (.lst _) => True
  | some (.dK _) => True
  | some (.dT _) => True
  | some (.set _ _) => True
  | some (.ins _ _ _) => True
  | some (.ext _) => True
  | _ => False
section
variable {P : Program} {w : World} {H : Hp} {h h' : Heap} {x e : Addr} {o' : HO}
theorem HOk.write (ok : HOk P w H h) (mu : Mut (H x)) (he : e = x ∨ H e = some (.own x)) (k : ∀ b u, b ≠ e → h.get? b = some u → h'.get? b = some u) (heo : ∃ u, h'.get? e = some u)
    (new : ObjOk P w (upd H x o') h' x o') : HOk P w (upd H x o') h' := fun b u q => by
  have nown : ∀ c y, H c = some (.own y) → c ≠ x := fun c y r z => by subst z; rw [r] at mu; exact mu
  have ntup : ∀ c xs, H c = some (.tup xs) → c ≠ x := fun c xs r z => by subst z; rw [r] at mu; exact mu
  by_cases hb : b = x
  · subst hb; rw [upd_same] at q; cases q; exact new
  · rw [upd_ne hb] at q
    by_cases hbe : b = e
    · have q' : H b = some (.own x) := by
        rcases he with z | z
        · exact absurd (hbe.trans z) hb
        · rw [hbe]; exact z
      rw [q] at q'; cases q'
      obtain ⟨v, hv⟩ := heo
      exact ⟨v, by rw [hbe]; exact hv⟩
    · refine (ok b u q).stay (fun c v hc r => k c v ?_ r) (fun c r => by rw [upd_ne (nown c b r)]; exact r) fun c xs r => by rw [upd_ne (ntup c xs r)]; exact r
      rcases hc with rfl | hc
      · exact hbe
      · rintro rfl
        rcases he with z | z
        · exact nown c b hc z
        · rw [hc] at z; cases z; exact hb rfl
end

structure Un (fs ex : List Addr) (H H' : Hp) (h h' : Heap) : Prop where
  keep : ∀ b o, h.get? b = some o → H b = none → b ∉ fs → b ∉ ex → h'.get? b = some o
  slot : ∀ b o, h.get? b = some o → H b = none → b ∈ fs → b ∉ ex → ∃ sl, h'.get? b = some { o with slots := sl }
  free : ∀ b o, h.get? b = some o → H b = none → b ∉ ex → H' b = none
  there : ∀ b o, h.get? b = some o → b ∉ ex → ∃ o', h'.get? b = some o'
  tups : ∀ b xs, H b = some (.tup xs) → H' b = some (.tup xs)
  frzs : ∀ b o u, H b = some (.frz o u) → H' b = some (.frz o u)
  tbls : ∀ b ps, H b = some (.tbl ps) → ∃ more, H' b = some (.tbl (ps ++ more))
section
variable {fs fs' ex ex' : List Addr} {H H1 H2 : Hp} {h h1 h2 h' : Heap} {a x e : Addr} {o : HO}
theorem Un.any (u : Un fs ex H H1 h h1) {b : Addr} {ob : Obj} (q : h.get? b = some ob) (n : H b = none) (hx : b ∉ ex) : ∃ sl, h1.get? b = some { ob with slots := sl } := by
  by_cases hb : b ∈ fs
  · exact u.slot b ob q n hb hx
  · exact ⟨ob.slots, u.keep b ob q n hb hx⟩
theorem Un.kept (k : ∀ b u, h.get? b = some u → h'.get? b = some u) : Un fs ex H H h h' :=
  ⟨fun b ob q _ _ _ => k b ob q, fun b ob q _ _ _ => ⟨ob.slots, k b ob q⟩, fun _ _ _ n _ => n, fun b ob q _ => ⟨ob, k b ob q⟩, fun _ _ q => q, fun _ _ _ q => q, fun _ ps q => ⟨#[], by rw [q]; simp⟩⟩
theorem Un.refl : Un fs ex H H h h := Un.kept fun _ _ q => q
theorem Un.laid (k : ∀ b u, h.get? b = some u → h'.get? b = some u) (hp : h.objs.size ≤ a) (hn : H a = none) : Un fs ex H (upd H a o) h h' where
  keep := fun b u q _ _ _ => k b u q
  slot := fun b u q _ _ _ => ⟨u.slots, k b u q⟩
  free := fun b u q n _ => by rw [upd_ne (Nat.ne_of_lt (Nat.lt_of_lt_of_le (Heap.lt_size q) hp))]; exact n
  there := fun b u q _ => ⟨u, k b u q⟩
  tups := fun b xs q => by rw [upd_ne (ne_of_none q hn)]; exact q
  frzs := fun b u xs q => by rw [upd_ne (ne_of_none q hn)]; exact q
  tbls := fun b ps q => ⟨#[], by rw [upd_ne (ne_of_none q hn), q]; simp⟩
theorem Un.write (mu : Mut (H x)) (he : e = x ∨ H e = some (.own x)) (k : ∀ b u, b ≠ e → h.get? b = some u → h'.get? b = some u) (heo : ∃ u, h'.get? e = some u) : Un fs ex H (upd H x o) h h' := by
  have hx : ∀ b, H b = none → b ≠ x := fun b n z => by subst z; rw [n] at mu; exact mu
  have hb : ∀ b, H b = none → b ≠ e := fun b n z => by
    subst z
    rcases he with r | r
    · exact hx b n r
    · rw [n] at r; cases r
  have hm : ∀ b u, H b = some u → ¬ Mut (some u) → b ≠ x := fun b u q nm z => by subst z; rw [q] at mu; exact nm mu
  refine ⟨fun b u q n _ _ => k b u (hb b n) q, fun b u q n _ _ => ⟨u.slots, k b u (hb b n) q⟩, fun b u q n _ => by rw [upd_ne (hx b n)]; exact n, fun b u q _ => ?_,
    fun b xs q => by rw [upd_ne (hm b _ q fun z => z)]; exact q, fun b u xs q => by rw [upd_ne (hm b _ q fun z => z)]; exact q, fun b ps q => ⟨#[], by rw [upd_ne (hm b _ q fun z => z), q]; simp⟩⟩
  by_cases hbe : b = e
  · subst hbe; exact heo
  · exact ⟨u, k b u hbe q⟩
end

def trk (h : Heap) (H : Hp) : List Addr := (List.range h.objs.size).filter fun a => (H a).isSome
def hidT (h : Heap) (H : Hp) : Heap := PySem.W.hideAll h (trk h H)
theorem hidT_size (h : Heap) (H : Hp) : (hidT h H).objs.size = h.objs.size := PySem.W.hideAll_size _ _
theorem hidT_get {h : Heap} {H : Hp} {b : Addr} {o : Obj} (e : h.get? b = some o) (n : H b = none) : (hidT h H).get? b = some o :=
  PySem.W.hideAll_get _ e fun hm => by
    have q : (H b).isSome = true := (List.mem_filter.mp hm).2
    rw [n] at q; simp at q
theorem of_hidT {h : Heap} {H : Hp} {b : Addr} {o : Obj} (e : (hidT h H).get? b = some o) : h.get? b = some o ∧ H b = none := by
  have e' : h.get? b = some o := PySem.W.of_hideAll (trk h H) e
  refine ⟨e', ?_⟩
  cases q : H b with
  | none => rfl
  | some x =>
    have hm : b ∈ trk h H := List.mem_filter.mpr ⟨List.mem_range.mpr (Heap.lt_size e'), by simp [q]⟩
    have z : (hidT h H).get? b = none := PySem.W.hideAll_none (trk h H) hm
    rw [z] at e; cases e

def allNews (g h : Heap) (L : Addr) : List (Addr × Obj) := (List.range h.objs.size).filterMap fun a => if a = L ∨ (g.get? a).isSome = true then none else (h.get? a).map fun o => (a, o)
def rest (g h : Heap) (L d : Addr) : List (Addr × Obj) := (allNews g h L).filter fun p => decide (p.1 ≠ d)
end L2

namespace L2
open PySem PySem.Spec PyProof.Rows

structure Mod (K : PySem.W.Frag) (mg : Str → Option Value) (base : Heap) : Prop where
  kin : K.In base
  glob : base.Ns mainGlobals mg
  blt : ∃ mb, base.Ns builtinsNs mb ∧ ∀ x : Str, x ≠ "__name__" → mb x = bootBuiltins x
  nolimit : base.NoLimit

structure Cx where
  prog : Program
  w : World
  K : PySem.W.Frag
  mg : Str → Option Value
  base : Heap
  A : Around
  N : List Str
  s₀ : Shared
  H₀ : Hp
  env : Env
  outer : List Env
  stack : List Env
  ex : List Addr
  fn : Str → Bool
  calm : Bool
  pn : List (Addr × Obj)
  xe : Value → Shared → Prop
def frs (l : List Env) : List Addr := l.filterMap (·.frame)
abbrev Cx.fs (X : Cx) : List Addr := frs X.outer

def Vis (sc : Scope) (x : Str) : Prop := sc.names.lookup x = some .local ∨ sc.names.lookup x = some .cell ∨ sc.names.lookup x = some .free
def Loc (sc : Scope) (x : Str) : Prop := sc.names.lookup x = some .local ∨ sc.names.lookup x = some .cell
def Look (env : Env) (h : Heap) (m : Str → Option Value) (x : Str) (u : Value) : Prop :=
  (env.kindOf x = some .local ∧ m x = some u) ∨ ((env.kindOf x = some .cell ∨ env.kindOf x = some .free) ∧ ∃ c, env.cells.lookup x = some c ∧ h.IsCell c (some u))

structure Cx.Ok (X : Cx) : Prop where
  mod : Mod X.K X.mg X.base
  kind : X.env.scope.kind = .function
  glob : X.env.globals = mainGlobals
  blt : X.env.builtins = builtinsNs
  above : X.s₀.heap.objs.size ≤ X.env.locals
  inj : ∀ x y c, X.env.cells.lookup x = some c → X.env.cells.lookup y = some c → x = y
  has : ∀ x, (X.env.kindOf x = some .cell ∨ X.env.kindOf x = some .free) → ∃ c, X.env.cells.lookup x = some c
  cab : ∀ x c, X.fn x = true → X.env.cells.lookup x = some c → X.s₀.heap.objs.size ≤ c
  hd : X.calm = true → X.A.handled = none
  frames : X.A.frames = some X.stack
  stk : X.stack = X.outer ∨ (X.stack = X.env :: X.outer ∧ X.env.frame = some X.env.locals)
  exf : ∀ b ∈ X.ex, b ≠ X.env.locals ∧ ∀ x c, X.env.cells.lookup x = some c → c ≠ b
  bs : ∀ b o, X.base.get? b = some o → X.s₀.heap.get? b = some o ∧ X.H₀ b = none
  bsz : X.base.objs.size ≤ X.s₀.heap.objs.size
  noex : ∀ b o, X.base.get? b = some o → b ∉ X.ex
  exfs : ∀ b ∈ X.ex, b ∉ X.fs
  funs : X.s₀.heap.FunFrames X.base X.outer
  frf : ∀ b ∈ X.fs, X.H₀ b = none

structure Inv (X : Cx) (pins : List (Addr × Obj)) (σ : List (Option V)) (H : Hp) (s : Shared) : Prop where
  ok : X.Ok
  os : s.os = X.s₀.os
  bare : AllBare s.gens
  base : Un X.fs X.ex X.H₀ H X.s₀.heap s.heap
  loc : ∃ m, s.heap.Ns X.env.locals m ∧ ∀ (i : Nat) (x : Str) (v : V), X.N[i]? = some x → σ[i]? = some (some v) → Vis X.env.scope x → ∃ u, RelV v u ∧ Look X.env s.heap m x u
  cell : ∀ x c, X.env.cells.lookup x = some c → ∃ v, s.heap.IsCell c v
  free : H X.env.locals = none
  freeC : ∀ x c, X.env.cells.lookup x = some c → H c = none
  pin : ∀ p ∈ X.pn ++ pins, s.heap.get? p.1 = some p.2 ∧ H p.1 = none ∧ p.1 ≠ X.env.locals ∧ p.1 ∉ X.fs ∧ ∀ v, p.2.data ≠ .cell v
  hok : HOk X.prog X.w H s.heap
  len : σ.length = X.N.length

section
variable {X : Cx} {pins : List (Addr × Obj)} {σ : List (Option V)} {H H' : Hp} {s : Shared} {h' : Heap}

theorem Cx.Ok.nofr (ok : X.Ok) {b : Addr} {o : Obj} (e : X.base.get? b = some o) : b ∉ X.fs := fun hb => by
  have := (ok.funs.mem hb).1
  rw [e] at this; cases this
theorem Inv.bs (I : Inv X pins σ H s) : ∀ b o, X.base.get? b = some o → s.heap.get? b = some o ∧ H b = none := fun b o e =>
  ⟨I.base.keep b o (I.ok.bs b o e).1 (I.ok.bs b o e).2 (I.ok.nofr e) (I.ok.noex b o e), I.base.free b o (I.ok.bs b o e).1 (I.ok.bs b o e).2 (I.ok.noex b o e)⟩
theorem Inv.bk (I : Inv X pins σ H s) : ∀ b o, X.base.get? b = some o → s.heap.get? b = some o := fun b o e => (I.bs b o e).1
theorem Inv.mod (I : Inv X pins σ H s) : Mod X.K X.mg X.base := I.ok.mod
theorem Inv.kIn (I : Inv X pins σ H s) : X.K.In s.heap := I.ok.mod.kin.keeps I.bk
theorem Inv.lt (I : Inv X pins σ H s) : X.env.locals < s.heap.objs.size := let ⟨_, hn, _⟩ := I.loc; hn.lt
theorem Inv.sz (I : Inv X pins σ H s) : X.s₀.heap.objs.size ≤ s.heap.objs.size := Nat.le_trans I.ok.above (Nat.le_of_lt I.lt)
theorem Inv.nofs (I : Inv X pins σ H s) {a : Addr} (h : s.heap.objs.size ≤ a) : a ∉ X.fs := fun hb => by
  obtain ⟨_, o, ho, _⟩ := I.ok.funs.mem hb
  exact absurd (Nat.lt_of_lt_of_le (Heap.lt_size ho) (Nat.le_trans I.sz h)) (Nat.lt_irrefl _)
theorem Inv.cne (I : Inv X pins σ H s) : ∀ x c, X.env.cells.lookup x = some c → c ≠ X.env.locals := fun x c e z => by
  obtain ⟨v, o, ho, hd⟩ := I.cell x c e
  obtain ⟨m, ⟨o', es, ep, ho', hd', _⟩, _⟩ := I.loc
  rw [z, ho'] at ho; cases ho; rw [hd'] at hd; cases hd
theorem Inv.funs (I : Inv X pins σ H s) : s.heap.FunFrames X.base X.outer := by
  have all : ∀ (l : List Env), (∀ b ∈ frs l, b ∈ X.fs) → X.s₀.heap.FunFrames X.base l → s.heap.FunFrames X.base l := by
    intro l
    induction l with
    | nil => intro _ _; trivial
    | cons env r ih =>
      intro hs hl
      obtain ⟨hk, ⟨L, o, hf, hn, ho, hd⟩, hr⟩ := hl
      have hL : L ∈ X.fs := hs L (by unfold frs; rw [List.filterMap_cons, hf]; exact List.mem_cons_self)
      obtain ⟨sl, e⟩ := I.base.slot L o ho (I.ok.frf L hL) hL fun z => I.ok.exfs L z hL
      exact ⟨hk, ⟨L, _, hf, hn, e, hd⟩, ih (fun b hb => hs b (by unfold frs; rw [List.filterMap_cons, hf]; exact List.mem_cons_of_mem _ hb)) hr⟩
  exact all X.outer (fun _ hb => hb) I.ok.funs

theorem Inv.stack (I : Inv X pins σ H s) : s.heap.FunFrames X.base X.stack := by
  rcases I.ok.stk with e | ⟨e, hf⟩
  · rw [e]; exact I.funs
  · rw [e]
    obtain ⟨m, hn, _⟩ := I.loc
    refine .cons (by rw [I.ok.kind]; decide) hf hn ?_ I.funs
    exact Heap.get?_none_of_le (Nat.le_trans I.ok.bsz I.ok.above)
theorem Inv.stkSub (I : Inv X pins σ H s) : ∀ b ∈ frs X.stack, b ∈ X.env.locals :: X.fs := fun b hb => by
  rcases I.ok.stk with e | ⟨e, hf⟩
  · rw [e] at hb; exact List.mem_cons_of_mem _ hb
  · rw [e] at hb
    unfold frs at hb
    rw [List.filterMap_cons, hf] at hb
    exact hb
theorem Inv.stkFree (I : Inv X pins σ H s) : ∀ b ∈ frs X.stack, H b = none := fun b hb => by
  rcases List.mem_cons.mp (I.stkSub b hb) with e | hb
  · rw [e]; exact I.free
  · obtain ⟨_, o, ho, _⟩ := I.ok.funs.mem hb
    exact I.base.free b o ho (I.ok.frf b hb) fun z => I.ok.exfs b z hb

theorem Inv.step {g' : Array GenState} {t' : Nat} {d' : Drawn} {ch : List Addr} (I : Inv X pins σ H s)
    (hch : ∀ b ∈ ch, (b ∈ X.ex ∨ X.s₀.heap.objs.size ≤ b) ∧ b ≠ X.env.locals ∧ (∀ x c, X.env.cells.lookup x = some c → c ≠ b) ∧ ∀ p ∈ X.pn ++ pins, p.1 ≠ b)
    (keep : ∀ b o, b ≠ X.env.locals → b ∉ X.fs → b ∉ ch → s.heap.get? b = some o → H b = none → h'.get? b = some o)
    (slot : ∀ b o, b ≠ X.env.locals → b ∈ X.fs → b ∉ ch → s.heap.get? b = some o → H b = none → ∃ sl, h'.get? b = some { o with slots := sl }) (free : ∀ b o, b ∉ ch → s.heap.get? b = some o → H b = none → H' b = none)
    (there : ∀ b o, b ∉ ch → s.heap.get? b = some o → ∃ o', h'.get? b = some o')
    (tups : ∀ b xs, H b = some (.tup xs) → H' b = some (.tup xs)) (frzs : ∀ b o u, H b = some (.frz o u) → H' b = some (.frz o u)) (tbls : ∀ b ps, H b = some (.tbl ps) → ∃ more, H' b = some (.tbl (ps ++ more)))
    (ns : ∀ m, s.heap.Ns X.env.locals m → h'.Ns X.env.locals m) (hok : HOk X.prog X.w H' h') (hg : AllBare g') :
    Inv X pins σ H' { s with heap := h', gens := g', drawn := d', toks := t' } := by
  have neL : ∀ b o, X.s₀.heap.get? b = some o → b ≠ X.env.locals := fun b o e => Nat.ne_of_lt (Nat.lt_of_lt_of_le (Heap.lt_size e) I.ok.above)
  have neC : ∀ b o, X.s₀.heap.get? b = some o → b ∉ X.ex → b ∉ ch := fun b o e hx hb => by
    rcases (hch b hb).1 with z | z
    · exact hx z
    · exact absurd (Nat.lt_of_lt_of_le (Heap.lt_size e) z) (Nat.lt_irrefl _)
  have cellK : ∀ x c, X.env.cells.lookup x = some c → ∀ v, s.heap.IsCell c v → h'.IsCell c v := fun x c e v ⟨o, ho, hd⟩ => by
    have nch : c ∉ ch := fun z => (hch c z).2.2.1 x c e rfl
    by_cases hc : c ∈ X.fs
    · obtain ⟨sl, q⟩ := slot c o (I.cne x c e) hc nch ho (I.freeC x c e)
      exact ⟨_, q, hd⟩
    · exact ⟨o, keep c o (I.cne x c e) hc nch ho (I.freeC x c e), hd⟩
  refine ⟨I.ok, I.os, hg, ⟨fun b o e n hb hx => ?_, fun b o e n hb hx => ?_, fun b o e n hx => ?_, fun b o e hx => ?_, fun b xs e => tups b xs (I.base.tups b xs e), fun b o xs e => frzs b o xs (I.base.frzs b o xs e), fun b ps e => ?_⟩, ?_, fun x c e => ?_, ?_, fun x c e => ?_, fun p hp => ?_, hok, I.len⟩
  · exact keep b o (neL b o e) hb (neC b o e hx) (I.base.keep b o e n hb hx) (I.base.free b o e n hx)
  · obtain ⟨sl, e1⟩ := I.base.slot b o e n hb hx
    obtain ⟨sl', e2⟩ := slot b _ (neL b o e) hb (neC b o e hx) e1 (I.base.free b o e n hx)
    exact ⟨sl', e2⟩
  · obtain ⟨o', e1⟩ := I.base.there b o e hx
    exact free b o' (neC b o e hx) e1 (I.base.free b o e n hx)
  · obtain ⟨o', e1⟩ := I.base.there b o e hx
    exact there b o' (neC b o e hx) e1
  · obtain ⟨m1, e1⟩ := I.base.tbls b ps e
    obtain ⟨m2, e2⟩ := tbls b _ e1
    exact ⟨m1 ++ m2, by rw [e2, Array.append_assoc]⟩
  · obtain ⟨m, hn, hl⟩ := I.loc
    refine ⟨m, ns m hn, fun i x v e1 e2 e3 => ?_⟩
    obtain ⟨u, r, l⟩ := hl i x v e1 e2 e3
    refine ⟨u, r, ?_⟩
    rcases l with l | ⟨k, c, e, z⟩
    · exact .inl l
    · exact .inr ⟨k, c, e, cellK x c e _ z⟩
  · obtain ⟨v, z⟩ := I.cell x c e
    exact ⟨v, cellK x c e v z⟩
  · obtain ⟨m, ⟨o, _, _, ho, _⟩, _⟩ := I.loc
    exact free _ o (fun z => (hch _ z).2.1 rfl) ho I.free
  · obtain ⟨v, o, ho, hd⟩ := I.cell x c e
    exact free c o (fun z => (hch c z).2.2.1 x c e rfl) ho (I.freeC x c e)
  · obtain ⟨e, n, ne, nf, d⟩ := I.pin p hp
    have nch : p.1 ∉ ch := fun z => (hch p.1 z).2.2.2 p hp rfl
    exact ⟨keep p.1 p.2 ne nf nch e n, free p.1 p.2 nch e n, ne, nf, d⟩
theorem Inv.un {t' : Nat} (I : Inv X pins σ H s) (u : Un X.fs [] H H' s.heap h') (hok : HOk X.prog X.w H' h') : Inv X pins σ H' { s with heap := h', toks := t' } := by
  obtain ⟨m, ⟨o, es, ep, ho, r⟩, _⟩ := id I.loc
  obtain ⟨sl, hL⟩ := u.any ho I.free (by simp)
  exact I.step (g' := s.gens) (d' := s.drawn) (ch := []) (fun _ z => nomatch z) (fun b o _ hb _ e n => u.keep b o e n hb (by simp)) (fun b o _ hb _ e n => u.slot b o e n hb (by simp)) (fun b o _ e n => u.free b o e n (by simp)) (fun b o _ e => u.there b o e (by simp)) u.tups u.frzs u.tbls (fun m' hm => by
    obtain ⟨o', es', ep', ho', r'⟩ := hm
    rw [ho] at ho'; cases ho'
    exact ⟨_, es', ep', hL, r'⟩) hok I.bare
theorem Inv.call {g' : Array GenState} {t' : Nat} {d' : Drawn} {ch : List Addr} (I : Inv X pins σ H s) (u : Un (frs X.stack) ch H H' s.heap h') (hok : HOk X.prog X.w H' h') (hg : AllBare g')
    (hch : ∀ b ∈ ch, (b ∈ X.ex ∨ X.s₀.heap.objs.size ≤ b) ∧ b ≠ X.env.locals ∧ (∀ x c, X.env.cells.lookup x = some c → c ≠ b) ∧ ∀ p ∈ X.pn ++ pins, p.1 ≠ b) :
    Inv X pins σ H' { s with heap := h', gens := g', drawn := d', toks := t' } := by
  obtain ⟨m, ⟨o, es, ep, ho, r⟩, _⟩ := id I.loc
  obtain ⟨sl, hL⟩ := u.any ho I.free fun z => (hch _ z).2.1 rfl
  exact I.step (ch := ch) hch (fun b o hL hb hc e n => u.keep b o e n (fun z => (List.mem_cons.mp (I.stkSub b z)).elim hL hb) hc) (fun b o _ _ hc e n => u.any e n hc) (fun b o hc e n => u.free b o e n hc) (fun b o hc e => u.there b o e hc) u.tups u.frzs u.tbls (fun m' hm => by
    obtain ⟨o', es', ep', ho', r'⟩ := hm
    rw [ho] at ho'; cases ho'
    exact ⟨_, es', ep', hL, r'⟩) hok hg
theorem Inv.turned {t' : Nat} {it : Addr} (I : Inv X pins σ H s) (k : ∀ b o, b ≠ it → s.heap.get? b = some o → h'.get? b = some o) (hn : H it = none) (hL : it ≠ X.env.locals)
    (h1 : it ∈ X.ex ∨ X.s₀.heap.objs.size ≤ it) (h2 : ∀ x c, X.env.cells.lookup x = some c → c ≠ it) (h3 : ∀ p ∈ X.pn ++ pins, p.1 ≠ it) : Inv X pins σ H { s with heap := h', toks := t' } := by
  have nit : ∀ b u, H b = some u → b ≠ it := fun b u e z => by rw [z, hn] at e; cases e
  refine I.step (g' := s.gens) (d' := s.drawn) (ch := [it]) (fun b hb => ?_) (fun b o _ _ hc e _ => k b o (fun z => hc (by simp [z])) e) (fun b o _ _ hc e _ => ⟨o.slots, k b o (fun z => hc (by simp [z])) e⟩) (fun _ _ _ _ n => n)
    (fun b o hc e => ⟨o, k b o (fun z => hc (by simp [z])) e⟩) (fun _ _ e => e) (fun _ _ _ e => e) (fun b ps e => ⟨#[], by rw [e]; simp⟩) (fun m hm => ?_) (fun b u e => ?_) I.bare
  · have e : b = it := by simpa using hb
    subst e
    exact ⟨h1, hL, h2, h3⟩
  · obtain ⟨o, es, ep, ho, r⟩ := hm
    exact ⟨o, es, ep, k _ o (Ne.symm hL) ho, r⟩
  · refine (I.hok b u e).stay (fun c v hc q => k c v ?_ q) (fun _ q => q) fun _ _ q => q
    rcases hc with z | z
    · rw [z]; exact nit b u e
    · exact nit c _ z
theorem Inv.tok (I : Inv X pins σ H s) (t : Nat) : Inv X pins σ H { s with toks := t } := I.un (h' := s.heap) (t' := t) Un.refl I.hok
theorem Inv.kept {t' : Nat} (I : Inv X pins σ H s) (k : ∀ b u, s.heap.get? b = some u → h'.get? b = some u) : Inv X pins σ H { s with heap := h', toks := t' } := I.un (Un.kept k) (I.hok.kept k)
theorem Inv.laid {a : Addr} {o : HO} {t' : Nat} (I : Inv X pins σ H s) (k : ∀ b u, s.heap.get? b = some u → h'.get? b = some u) (hp : s.heap.objs.size ≤ a) (new : ObjOk X.prog X.w (upd H a o) h' a o) :
    Inv X pins σ (upd H a o) { s with heap := h', toks := t' } := I.un (Un.laid k hp (I.hok.fresh hp)) (I.hok.laid k hp new)
theorem Inv.write {x e : Addr} {o : HO} {t' : Nat} (I : Inv X pins σ H s) (mu : Mut (H x)) (he : e = x ∨ H e = some (.own x)) (k : ∀ b u, b ≠ e → s.heap.get? b = some u → h'.get? b = some u) (heo : ∃ u, h'.get? e = some u)
    (new : ObjOk X.prog X.w (upd H x o) h' x o) : Inv X pins σ (upd H x o) { s with heap := h', toks := t' } := I.un (Un.write mu he k heo) (I.hok.write mu he k heo new)
theorem Inv.weak {σ' : List (Option V)} (I : Inv X pins σ H s) (hl : σ'.length = σ.length) (w : ∀ (i : Nat) v, σ'[i]? = some (some v) → σ[i]? = some (some v)) : Inv X pins σ' H s :=
  ⟨I.ok, I.os, I.bare, I.base, let ⟨m, hn, hl'⟩ := I.loc; ⟨m, hn, fun i x v e1 e2 e3 => hl' i x v e1 (w i v e2) e3⟩, I.cell, I.free, I.freeC, I.pin, I.hok, hl.trans I.len⟩
theorem Inv.pins_of {pins' : List (Addr × Obj)} (I : Inv X pins σ H s) (h : ∀ p ∈ pins', s.heap.get? p.1 = some p.2 ∧ H p.1 = none ∧ p.1 ≠ X.env.locals ∧ p.1 ∉ X.fs ∧ ∀ v, p.2.data ≠ .cell v) : Inv X pins' σ H s :=
  ⟨I.ok, I.os, I.bare, I.base, I.loc, I.cell, I.free, I.freeC, fun p hp => (List.mem_append.mp hp).elim (fun z => I.pin p (List.mem_append_left _ z)) (h p), I.hok, I.len⟩

theorem nodup_ix {N : List Str} (hN : N.Nodup) {i j : Nat} {x : Str} (a : N[i]? = some x) (b : N[j]? = some x) : i = j := by
  obtain ⟨h1, e1⟩ := List.getElem?_eq_some_iff.mp a
  obtain ⟨h2, e2⟩ := List.getElem?_eq_some_iff.mp b
  exact (List.getElem_inj hN).mp (e1.trans e2.symm)

theorem store_ok2 {M : Model} {A : Around} {E : Value → Shared → Prop} {i : Nat} {x : Str} {v : V} {u : Value} {Q : Unit → Shared → Prop} (I : Inv X pins σ H s) (hN : X.N.Nodup) (hi : X.N[i]? = some x) (hx : Loc X.env.scope x) (r : RelV v u)
    (h : ∀ s', Inv X pins (σ.set i (some v)) H s' → (∃ a, Heap.SameBut a s.heap s'.heap ∧ (a = X.env.locals ∨ X.env.cells.lookup x = some a)) → Q () s') (hf : X.fn x = true ∨ X.env.scope.names.lookup x = some .local := by first | exact .inl rfl | exact .inr rfl | assumption) : wpAny M A (storeName X.env x u) Q E s := by
  obtain ⟨m, hn, hl⟩ := id I.loc
  have hcls : (X.env.scope.kind == .class || (X.env.scope.kind == .module && X.env.locals != X.env.globals)) = false := by rw [I.ok.kind]; rfl
  have hiσ : i < σ.length := by rw [I.len]; exact (List.getElem?_eq_some_iff.mp hi).1
  have cne := I.cne
  have tracked : ∀ {a : Addr} {h' : Heap}, (∃ o, s.heap.get? a = some o ∧ H a = none) → Heap.SameBut a s.heap h' → HOk X.prog X.w H h' := fun {a h'} ha hs b ob e => by
    obtain ⟨_, _, hfree⟩ := ha
    refine (I.hok b ob e).stay (fun c w' hc q => (hs.2 c ?_).trans q) (fun _ q => q) fun _ _ q => q
    rintro rfl
    rcases hc with rfl | hc
    · rw [hfree] at e; cases e
    · rw [hfree] at hc; cases hc
  rcases hx with hk | hk
  · refine wpAny_storeName_local hk hn (fun h' hn' hs => ?_) hcls
    obtain ⟨oL, _, _, hoL, _⟩ := id hn
    refine h _ ⟨I.ok, I.os, I.bare, ⟨fun b o e n hb hx => ?_, fun b o e n hb hx => ?_, I.base.free, fun b o e hx => ?_, I.base.tups, I.base.frzs, I.base.tbls⟩, ⟨_, hn', fun j y v' e1 e2 e3 => ?_⟩, fun y c e => ?_, I.free, I.freeC, fun p hp => ?_, tracked ⟨oL, hoL, I.free⟩ hs, by simpa using I.len⟩ ⟨_, hs, .inl rfl⟩
    · exact (hs.2 b (Nat.ne_of_lt (Nat.lt_of_lt_of_le (Heap.lt_size e) I.ok.above))).trans (I.base.keep b o e n hb hx)
    · obtain ⟨sl, e1⟩ := I.base.slot b o e n hb hx
      exact ⟨sl, (hs.2 b (Nat.ne_of_lt (Nat.lt_of_lt_of_le (Heap.lt_size e) I.ok.above))).trans e1⟩
    · obtain ⟨o', e1⟩ := I.base.there b o e hx
      exact ⟨o', (hs.2 b (Nat.ne_of_lt (Nat.lt_of_lt_of_le (Heap.lt_size e) I.ok.above))).trans e1⟩
    · by_cases hj : j = i
      · subst hj
        rw [hi] at e1; cases e1
        rw [List.getElem?_set_self hiσ] at e2
        cases e2
        exact ⟨u, r, .inl ⟨hk, by simp⟩⟩
      · rw [List.getElem?_set_ne (Ne.symm hj)] at e2
        obtain ⟨u', r', q⟩ := hl j y v' e1 e2 e3
        refine ⟨u', r', ?_⟩
        rcases q with ⟨k, e⟩ | ⟨k, c, e, z⟩
        · refine .inl ⟨k, ?_⟩
          have : y ≠ x := fun e => hj (nodup_ix hN e1 (e ▸ hi))
          simp [this, e]
        · exact .inr ⟨k, c, e, z.sameBut hs (cne y c e)⟩
    · obtain ⟨w', z⟩ := I.cell y c e
      exact ⟨w', z.sameBut hs (cne y c e)⟩
    · obtain ⟨e, n, ne, nf, d⟩ := I.pin p hp
      exact ⟨(hs.2 p.1 ne).trans e, n, ne, nf, d⟩
  · have hfn : X.fn x = true := by
      rcases hf with z | z
      · exact z
      · rw [z] at hk; cases hk
    obtain ⟨c, hc⟩ := I.ok.has x (.inl hk)
    obtain ⟨w', z⟩ := I.cell x c hc
    refine wpAny_storeName_cell I.ok.kind hk hc z (fun h' hc' hs => ?_)
    obtain ⟨oc, hoc, hocd⟩ := id z
    refine h { s with heap := h' } ⟨I.ok, I.os, I.bare, ⟨fun b o e n hb hx => ?_, fun b o e n hb hx => ?_, I.base.free, fun b o e hx => ?_, I.base.tups, I.base.frzs, I.base.tbls⟩, ⟨m, hn.sameBut hs (Ne.symm (cne x c hc)), fun j y v' e1 e2 e3 => ?_⟩, fun y c' e => ?_, I.free, I.freeC, fun p hp => ?_, tracked ⟨oc, hoc, I.freeC x c hc⟩ hs, by simpa using I.len⟩ ⟨c, hs, .inr hc⟩
    · exact (hs.2 b (Nat.ne_of_lt (Nat.lt_of_lt_of_le (Heap.lt_size e) (I.ok.cab x c hfn hc)))).trans (I.base.keep b o e n hb hx)
    · obtain ⟨sl, e1⟩ := I.base.slot b o e n hb hx
      exact ⟨sl, (hs.2 b (Nat.ne_of_lt (Nat.lt_of_lt_of_le (Heap.lt_size e) (I.ok.cab x c hfn hc)))).trans e1⟩
    · obtain ⟨o', e1⟩ := I.base.there b o e hx
      exact ⟨o', (hs.2 b (Nat.ne_of_lt (Nat.lt_of_lt_of_le (Heap.lt_size e) (I.ok.cab x c hfn hc)))).trans e1⟩
    · by_cases hj : j = i
      · subst hj
        rw [hi] at e1; cases e1
        rw [List.getElem?_set_self hiσ] at e2
        cases e2
        exact ⟨u, r, .inr ⟨.inl hk, c, hc, hc'⟩⟩
      · rw [List.getElem?_set_ne (Ne.symm hj)] at e2
        obtain ⟨u', r', q⟩ := hl j y v' e1 e2 e3
        refine ⟨u', r', ?_⟩
        rcases q with q | ⟨k, c', e, z'⟩
        · exact .inl q
        · refine .inr ⟨k, c', e, z'.sameBut hs ?_⟩
          rintro rfl
          exact hj (nodup_ix hN e1 (I.ok.inj _ _ _ e hc ▸ hi))
    · by_cases hcc : c' = c
      · subst hcc; exact ⟨_, hc'⟩
      · obtain ⟨w2, z2⟩ := I.cell y c' e
        exact ⟨w2, z2.sameBut hs hcc⟩
    · obtain ⟨e, n, ne, nf, d⟩ := I.pin p hp
      refine ⟨(hs.2 p.1 ?_).trans e, n, ne, nf, d⟩
      intro q
      rw [q, hoc] at e
      have q' : oc = p.2 := Option.some.inj e
      exact d w' (by rw [← q']; exact hocd)
theorem store_ok {M : Model} {A : Around} {E : Value → Shared → Prop} {i : Nat} {x : Str} {v : V} {u : Value} {Q : Unit → Shared → Prop} (I : Inv X pins σ H s) (hN : X.N.Nodup) (hi : X.N[i]? = some x) (hx : Loc X.env.scope x) (r : RelV v u)
    (h : ∀ s', Inv X pins (σ.set i (some v)) H s' → Q () s') (hf : X.fn x = true ∨ X.env.scope.names.lookup x = some .local := by first | exact .inl rfl | exact .inr rfl | assumption) : wpAny M A (storeName X.env x u) Q E s :=
  store_ok2 I hN hi hx r (fun s' I' _ => h s' I') hf
theorem Inv.call' {s' : Shared} {ch : List Addr} (I : Inv X pins σ H s) (ho : s'.os = s.os) (u : Un (frs X.stack) ch H H' s.heap s'.heap) (hok : HOk X.prog X.w H' s'.heap) (hg : AllBare s'.gens)
    (hch : ∀ b ∈ ch, (b ∈ X.ex ∨ X.s₀.heap.objs.size ≤ b) ∧ b ≠ X.env.locals ∧ (∀ x c, X.env.cells.lookup x = some c → c ≠ b) ∧ ∀ p ∈ X.pn ++ pins, p.1 ≠ b) : Inv X pins σ H' s' := by
  obtain ⟨h', g', d', t', o'⟩ := s'
  have e : o' = s.os := ho
  subst e
  exact I.call (g' := g') (t' := t') (d' := d') u hok hg hch
end

abbrev XK := Value → Option Addr → Hp → Prop
abbrev St := List (Option V)
abbrev VK := V → Hp → Prop
abbrev TE := St → Hp → VK → Prop
abbrev TT := St → Hp → (Bool → Hp → Prop) → Prop
abbrev TA := St → Hp → (List V → Hp → Prop) → Prop
structure Ends where
  nx : St → Hp → Prop
  rt : VK
  bk : St → Hp → Prop := fun _ _ => False
  ct : St → Hp → Prop := fun _ _ => False
abbrev TS := Ends → St → Hp → Prop

def EP (X : Cx) (pins : List (Addr × Obj)) (σ : St) (Q : VK) (u : Value) (s' : Shared) : Prop := ∃ v H', Inv X pins σ H' s' ∧ RelV v u ∧ Q v H'
def TP (X : Cx) (pins : List (Addr × Obj)) (σ : St) (Q : Bool → Hp → Prop) (b : Bool) (s' : Shared) : Prop := ∃ H', Inv X pins σ H' s' ∧ Q b H'
def AP (X : Cx) (pins : List (Addr × Obj)) (σ : St) (Q : List V → Hp → Prop) (us : List Value) (s' : Shared) : Prop := ∃ vs H', Inv X pins σ H' s' ∧ Vals vs us ∧ Q vs H'
def SP (X : Cx) (pins : List (Addr × Obj)) (D : Ends) (f : Flow) (s' : Shared) : Prop :=
  match f with
  | .next => ∃ σ' H', Inv X pins σ' H' s' ∧ D.nx σ' H'
  | .brk => ∃ σ' H', Inv X pins σ' H' s' ∧ D.bk σ' H'
  | .cont => ∃ σ' H', Inv X pins σ' H' s' ∧ D.ct σ' H'
  | .ret u => ∃ v σ' H', Inv X pins σ' H' s' ∧ RelV v u ∧ D.rt v H'

def PE (X : Cx) (e : Expr) (t : TE) : Prop :=
  ∀ (pins : List (Addr × Obj)) (s : Shared) (σ : St) (H : Hp) (Q : VK), Inv X pins σ H s → t σ H Q → wpAny (model X.prog X.w) X.A (eval e X.env) (EP X pins σ Q) X.xe s
def PT (X : Cx) (e : Expr) (t : TT) : Prop :=
  ∀ (pins : List (Addr × Obj)) (s : Shared) (σ : St) (H : Hp) (Q : Bool → Hp → Prop), Inv X pins σ H s → t σ H Q → wpAny (model X.prog X.w) X.A (isTrue e X.env (eval e X.env)) (TP X pins σ Q) X.xe s
def PW (X : Cx) (e : Expr) (t : TT) : Prop :=
  ∀ (whole : Sem Value) (pins : List (Addr × Obj)) (s : Shared) (σ : St) (H : Hp) (Q : Bool → Hp → Prop), Inv X pins σ H s → t σ H Q → wpAny (model X.prog X.w) X.A (isTrue e X.env whole) (TP X pins σ Q) X.xe s
theorem PW.pt {X : Cx} {e : Expr} {t : TT} (h : PW X e t) : PT X e t := h _
def PA (X : Cx) (es : List Expr) (t : TA) : Prop :=
  ∀ (pos : Pos) (pins : List (Addr × Obj)) (s : Shared) (σ : St) (H : Hp) (Q : List V → Hp → Prop), Inv X pins σ H s → t σ H Q → wpAny (model X.prog X.w) X.A (spliced (backTo pos (starEach es X.env))) (AP X pins σ Q) X.xe s
def PS (X : Cx) (st : Stmt) (t : TS) : Prop :=
  ∀ (pins : List (Addr × Obj)) (s : Shared) (σ : St) (H : Hp) (D : Ends), Inv X pins σ H s → t D σ H → wpAny (model X.prog X.w) X.A (exec st X.env) (SP X pins D) X.xe s
def PSs (X : Cx) (st : List Stmt) (t : TS) : Prop :=
  ∀ (pins : List (Addr × Obj)) (s : Shared) (σ : St) (H : Hp) (D : Ends), Inv X pins σ H s → t D σ H → wpAny (model X.prog X.w) X.A (execs st X.env) (SP X pins D) X.xe s
theorem thn {α : Type} {t : Sem α} {Q Q' : α → Shared → Prop} {M : Model} {A : Around} {E : Value → Shared → Prop} {s : Shared} (h : wpAny M A t Q E s) (hQ : ∀ a s, Q a s → Q' a s) : wpAny M A t Q' E s := wpAny_mono h hQ fun _ _ x => x
end L2

namespace L2
open PySem PySem.Spec PyProof.Rows
section
variable {X : Cx}

def tVar (i : Nat) : TE := fun σ H Q => ∃ v, σ[i]? = some (some v) ∧ Q v H
def tC (v : V) : TE := fun _ H Q => Q v H
theorem pe_var {i : Nat} {x : Str} {pos : Pos} (hN : X.N[i]? = some x) (hv : Vis X.env.scope x) (hd : (x == ("__debug__" : Str)) = false := by decide) (hcd : (x == ("__classdict__" : Str)) = false := by decide) : PE X (.Name x pos) (tVar i) := by
  intro pins s σ H Q I h
  obtain ⟨v, e, h⟩ := h
  obtain ⟨m, hn, hl⟩ := I.loc
  obtain ⟨u, r, l⟩ := hl i x v hN e hv
  have fin : EP X pins σ Q u s := ⟨v, H, I, r, h⟩
  rcases l with ⟨hk, hm⟩ | ⟨hk, c, hc, hcell⟩
  · exact wpAny_Name (wpAny_loadName_local I.ok.kind hk hn hm fin) hd
  · rcases hk with hk | hk
    · exact wpAny_Name (wpAny_loadName_cell I.ok.kind hk hc hcell fin) hd
    · exact wpAny_Name (wpAny_loadName_free I.ok.kind hk hc hcell fin hcd) hd
theorem pe_int {i j pos} : PE X (.Constant (.int i) j pos) (tC (.int i)) := fun _ _ _ H _ I h => wpAny_Constant_int ⟨.int i, H, I.tok _, ⟨_, rfl⟩, h⟩
theorem pe_bl {b j pos} : PE X (.Constant (.bool b) j pos) (tC (.bl b)) := fun _ _ _ H _ I h => Constant_bool ⟨.bl b, H, I, rfl, h⟩
theorem pe_non {j pos} : PE X (.Constant .none j pos) (tC .non) := fun _ _ _ H _ I h => Constant_none ⟨.non, H, I, rfl, h⟩
theorem pe_str {x j pos} : PE X (.Constant (.str x) j pos) (tC (.str x)) := fun _ _ _ H _ I h => Calls.Constant_str ⟨.str x, H, I.tok _, ⟨_, rfl⟩, h⟩

def Gl (X : Cx) (x : Str) : Prop := X.env.kindOf x = some .globalImplicit
theorem ld_glob {E : Value → Shared → Prop} {pins : List (Addr × Obj)} {s : Shared} {σ : St} {H : Hp} {x : Str} {u : Value} {pos : Pos} {Q : Value → Shared → Prop} (I : Inv X pins σ H s) (hg : Gl X x) (hm : X.mg x = some u) (h : Q u s)
    (hd : (x == ("__debug__" : Str)) = false := by decide) : wpAny (model X.prog X.w) X.A (eval (.Name x pos) X.env) Q E s :=
  Calls.Name_function_global I.ok.kind hg (Calls.loadGlobal_global (by rw [I.ok.glob]; exact I.mod.glob.keeps I.bk) hm h) hd
theorem ld_blt {E : Value → Shared → Prop} {pins : List (Addr × Obj)} {s : Shared} {σ : St} {H : Hp} {x : Str} {u : Value} {pos : Pos} {Q : Value → Shared → Prop} (I : Inv X pins σ H s) (hg : Gl X x) (hm : X.mg x = none) (hv : bootBuiltins x = some u) (h : Q u s)
    (hn : x ≠ "__name__" := by decide) (hd : (x == ("__debug__" : Str)) = false := by decide) : wpAny (model X.prog X.w) X.A (eval (.Name x pos) X.env) Q E s := by
  obtain ⟨mb, h1, h2⟩ := I.mod.blt
  exact Calls.Name_function_global I.ok.kind hg (Calls.loadGlobal_builtin (by rw [I.ok.glob]; exact I.mod.glob.keeps I.bk) hm (by rw [I.ok.blt]; exact h1.keeps I.bk) ((h2 x hn).trans hv) h) hd
theorem pe_glob {x : Str} {v : V} {u : Value} {pos : Pos} (hg : Gl X x) (hm : X.mg x = some u) (r : RelV v u) (hd : (x == ("__debug__" : Str)) = false := by decide) : PE X (.Name x pos) (tC v) :=
  fun _ _ _ H _ I h => ld_glob I hg hm ⟨v, H, I, r, h⟩ hd
theorem pe_bltn {x : Str} {v : V} {u : Value} {pos : Pos} (hg : Gl X x) (hm : X.mg x = none) (hv : bootBuiltins x = some u) (r : RelV v u) (hn : x ≠ "__name__" := by decide) (hd : (x == ("__debug__" : Str)) = false := by decide) : PE X (.Name x pos) (tC v) :=
  fun _ _ _ H _ I h => ld_blt I hg hm hv ⟨v, H, I, r, h⟩ hn hd

variable {a b : Expr} {ta tb : TE} {pos : Pos}
def PC (X : Cx) (op : CmpOp) (a b : Expr) (t : TE) : Prop :=
  ∀ (pins : List (Addr × Obj)) (s : Shared) (σ : St) (H : Hp) (Q : VK), Inv X pins σ H s → t σ H Q →
    wpAny (model X.prog X.w) X.A (eval a X.env) (fun v s₁ => wpAny (model X.prog X.w) X.A (eval b X.env) (fun u s₂ => wpAny (model X.prog X.w) X.A (compareOp op v u) (EP X pins σ Q) X.xe s₂) X.xe s₁) X.xe s
def tB (t : TE) : TT := fun σ H Q => t σ H fun x H1 => ∃ c, x = .bl c ∧ Q c H1
theorem pe_cmp {op : CmpOp} {t : TE} (h : PC X op a b t) (h1 : behindInMarks op b = false := by first | exact nobehind _ (by decide) (by decide) | rfl) : PE X (.Compare a [op] [b] pos) t := fun pins s σ H Q I hw => wpAny_Compare1 (h pins s σ H Q I hw) h1
theorem pt_cmp {op : CmpOp} {t : TE} (h : PC X op a b t) (h1 : behindInMarks op b = false := by first | exact nobehind _ (by decide) (by decide) | rfl) : PT X (.Compare a [op] [b] pos) (tB t) := by
  intro pins s σ H Q I hw
  refine wpAny_isTrue_Compare1 (thn (h pins s σ H _ I hw) fun v s1 h1 => thn h1 fun u s2 h2 => thn h2 fun c s3 ⟨x, H1, I1, r1, q1⟩ => ?_) h1
  obtain ⟨d, rfl, q⟩ := q1
  cases r1
  exact wpAny_truthy_bool ⟨H1, I1, q⟩
theorem pt_val {e : Expr} {t : TE} (h : PE X e t) (he : ∀ whole, isTrue e X.env whole = (do let v ← whole; standAt e.pos; holding [v] (truthy v)) := by intro _; rfl) : PT X e (tB t) := by
  intro pins s σ H Q I hw
  refine isTrue_plain (thn (h pins s σ H _ I hw) fun v s1 ⟨x, H1, I1, r1, q1⟩ => ?_) (he _)
  obtain ⟨d, rfl, q⟩ := q1
  cases r1
  exact wpAny_truthy_bool ⟨H1, I1, q⟩

variable {tA tB' : TT} {rest : List Expr}
def tAnd (t u : TT) : TT := fun σ H Q => t σ H fun c H1 => if c = true then u σ H1 Q else Q false H1
def tOr (t u : TT) : TT := fun σ H Q => t σ H fun c H1 => if c = true then Q true H1 else u σ H1 Q
def tNot (t : TT) : TT := fun σ H Q => t σ H fun c H1 => Q (!c) H1
theorem pw_and1 (ha : PT X a tA) : PW X (.BoolOp .And [a] pos) tA := by
  intro wh pins s σ H Q I h
  refine isTrue_and (thn (ha pins s σ H Q I h) fun c s1 e => ?_)
  cases c with
  | true => exact isTrue_and_nil e
  | false => exact e
theorem pw_or1 (ha : PT X a tA) : PW X (.BoolOp .Or [a] pos) tA := by
  intro wh pins s σ H Q I h
  refine isTrue_or (thn (ha pins s σ H Q I h) fun c s1 e => ?_)
  cases c with
  | false => exact isTrue_or_nil e
  | true => exact e
theorem pw_and (ha : PT X a tA) (hb : PW X (.BoolOp .And (b :: rest) pos) tB') : PW X (.BoolOp .And (a :: b :: rest) pos) (tAnd tA tB') := by
  intro wh pins s σ H Q I h
  refine isTrue_and (thn (ha pins s σ H _ I h) fun c s1 ⟨H1, I1, q1⟩ => ?_)
  cases c with
  | true => exact hb wh pins s1 σ H1 Q I1 q1
  | false => exact ⟨H1, I1, q1⟩
theorem pw_or (ha : PT X a tA) (hb : PW X (.BoolOp .Or (b :: rest) pos) tB') : PW X (.BoolOp .Or (a :: b :: rest) pos) (tOr tA tB') := by
  intro wh pins s σ H Q I h
  refine isTrue_or (thn (ha pins s σ H _ I h) fun c s1 ⟨H1, I1, q1⟩ => ?_)
  cases c with
  | true => exact ⟨H1, I1, q1⟩
  | false => exact hb wh pins s1 σ H1 Q I1 q1
theorem pt_not (ha : PT X a tA) : PT X (.UnaryOp .Not a pos) (tNot tA) := by
  intro pins s σ H Q I h
  exact isTrue_not (ha pins s σ H (fun c H1 => Q (!c) H1) I h)
def tAndV (ta tb : TE) : TE := fun σ H Q => ta σ H fun x H1 => ∃ c, x = .bl c ∧ if c = true then tb σ H1 Q else Q (.bl false) H1
def tNotV (ta : TE) : TE := fun σ H Q => ta σ H fun x H1 => ∃ c, x = .bl c ∧ Q (.bl (!c)) H1
theorem pe_one {op} {t : TE} (h : PE X a t) : PE X (.BoolOp op [a] pos) t := fun pins s σ H Q I hw => BoolOp_one (h pins s σ H Q I hw)
theorem pe_and (ha : PE X a ta) (hb : PE X (.BoolOp .And (b :: rest) pos) tb) : PE X (.BoolOp .And (a :: b :: rest) pos) (tAndV ta tb) := by
  intro pins s σ H Q I h
  refine BoolOp_and (thn (ha pins s σ H _ I h) fun v s1 ⟨x, H1, I1, r1, q1⟩ => ?_)
  obtain ⟨c, rfl, q1⟩ := q1
  cases r1
  refine wpAny_truthy_bool ?_
  cases c with
  | true => exact hb pins s1 σ H1 Q I1 q1
  | false => exact ⟨.bl false, H1, I1, rfl, q1⟩
theorem pe_not (ha : PE X a ta) : PE X (.UnaryOp .Not a pos) (tNotV ta) := by
  intro pins s σ H Q I h
  refine UnaryOp_ (thn (ha pins s σ H _ I h) fun v s1 ⟨x, H1, I1, r1, q1⟩ => ?_)
  obtain ⟨c, rfl, q1⟩ := q1
  cases r1
  exact not_of (wpAny_truthy_bool ⟨.bl (!c), H1, I1, rfl, q1⟩)
end
end L2

namespace L2
open PySem PySem.Spec PyProof.Rows

def SqL (K : PySem.W.Frag) (H : Hp) (a : Addr) (xs : List V) : Prop :=
  Rd H a (.lst xs) ∨
    ∃ (o : Obj) (its : Array Value) (n : Nat), K.lookup a = some o ∧ o.cls = .type "list" ∧ o.dict = none ∧ o.data = .seq its n ∧ its.size ≤ sizeLine ∧ Vals xs its.toList
def SqT (K : PySem.W.Frag) (H : Hp) (a : Addr) (xs : List V) : Prop :=
  Rd H a (.tup xs) ∨
    ∃ (o : Obj) (its : Array Value) (n : Nat), K.lookup a = some o ∧ o.cls = .type "tuple" ∧ o.data = .seq its n ∧ its.size ≤ sizeLine ∧ Vals xs its.toList
def absV : Value → Option V
  | .none => some .non
  | .bool b => some (.bl b)
  | .int i _ => some (.int i)
  | .str x _ => some (.str x)
  | .bytes b _ => some (.byt b)
  | .float b _ => some (.flt b)
  | .ref a => some (.ref a)
  | .type n => some (.ty n)
  | _ => none
theorem RelV.abs {x : V} {u : Value} (r : RelV x u) : absV u = some x := by
  cases x with
  | non => cases r; rfl
  | bl _ => cases r; rfl
  | int _ => obtain ⟨t, rfl⟩ := r; rfl
  | str _ => obtain ⟨t, rfl⟩ := r; rfl
  | byt _ => obtain ⟨t, rfl⟩ := r; rfl
  | flt _ => obtain ⟨t, rfl⟩ := r; rfl
  | ref _ => cases r; rfl
  | ty _ => cases r; rfl
theorem RelV.inj {x y : V} {u : Value} (r : RelV x u) (q : RelV y u) : x = y := Option.some.inj (r.abs.symm.trans q.abs)
theorem Vals.inj : ∀ {xs ys : List V} {us : List Value}, Vals xs us → Vals ys us → xs = ys
  | _, _, _, .nil, .nil => rfl
  | _, _, _, .cons r t, .cons r' t' => by rw [r.inj r', Vals.inj t t']
section
variable {X : Cx} {pins : List (Addr × Obj)} {σ : St} {H : Hp} {s : Shared} {a : Addr} {xs ys : List V}
theorem SqL.of {K : PySem.W.Frag} (h : H a = some (.lst xs)) : SqL K H a xs := .inl (.inl h)
theorem SqT.of {K : PySem.W.Frag} (h : H a = some (.tup xs)) : SqT K H a xs := .inl (.inl h)
theorem Inv.list (I : Inv X pins σ H s) (h : SqL X.K H a xs) : ∃ its : List Value, Vals xs its ∧ PlainL s.heap a its.toArray ∧ xs.length ≤ sizeLine := by
  rcases h with h | ⟨o, its, n, hk, hc, hd, hs, hz, r⟩
  · obtain ⟨z, its, n, r, e⟩ := h.ok I.hok
    exact ⟨its, r, ⟨_, n, e, rfl, rfl, rfl⟩, z⟩
  · refine ⟨its.toList, r, ⟨o, n, I.kIn a o hk, hc, hd, by simpa using hs⟩, ?_⟩
    have e := r.length
    simp only [Array.length_toList] at e
    omega
theorem Inv.tuple (I : Inv X pins σ H s) (h : SqT X.K H a xs) : ∃ its : List Value, Vals xs its ∧ IsTup s.heap a its.toArray ∧ xs.length ≤ sizeLine := by
  rcases h with h | ⟨o, its, n, hk, hc, hs, hz, r⟩
  · obtain ⟨z, its, r, p⟩ := h.ok I.hok
    exact ⟨its, r, p, z⟩
  · refine ⟨its.toList, r, ⟨o, I.kIn a o hk, hc, n, by simpa using hs⟩, ?_⟩
    have e := r.length
    simp only [Array.length_toList] at e
    omega
theorem Inv.list_inj (I : Inv X pins σ H s) (h : SqL X.K H a xs) (h' : SqL X.K H a ys) : xs = ys := by
  obtain ⟨its, r, ⟨o, n, e, _, _, d⟩, _⟩ := I.list h
  obtain ⟨its', r', ⟨o', n', e', _, _, d'⟩, _⟩ := I.list h'
  rw [e] at e'; cases e'
  rw [d] at d'
  injection d' with d1 _
  have : its = its' := by simpa using congrArg Array.toList d1
  subst this
  exact r.inj r'
theorem Inv.tuple_inj (I : Inv X pins σ H s) (h : SqT X.K H a xs) (h' : SqT X.K H a ys) : xs = ys := by
  obtain ⟨its, r, ⟨o, e, _, n, d⟩, _⟩ := I.tuple h
  obtain ⟨its', r', ⟨o', e', _, n', d'⟩, _⟩ := I.tuple h'
  rw [e] at e'; cases e'
  rw [d] at d'
  injection d' with d1 _
  have : its = its' := by simpa using congrArg Array.toList d1
  subst this
  exact r.inj r'
end

abbrev Cx.wish (X : Cx) (E : Value → Shared → Prop) : Cx := { X with xe := E }
abbrev Cx.nox (X : Cx) : Cx := X.wish fun _ _ => False
theorem Cx.Ok.wish {X : Cx} (ok : X.Ok) (E : Value → Shared → Prop) : (X.wish E).Ok :=
  ⟨ok.mod, ok.kind, ok.glob, ok.blt, ok.above, ok.inj, ok.has, ok.cab, ok.hd, ok.frames, ok.stk, ok.exf, ok.bs, ok.bsz, ok.noex, ok.exfs, ok.funs, ok.frf⟩
theorem Cx.Ok.unwish {X : Cx} {E : Value → Shared → Prop} (ok : (X.wish E).Ok) : X.Ok :=
  ⟨ok.mod, ok.kind, ok.glob, ok.blt, ok.above, ok.inj, ok.has, ok.cab, ok.hd, ok.frames, ok.stk, ok.exf, ok.bs, ok.bsz, ok.noex, ok.exfs, ok.funs, ok.frf⟩
section
variable {X : Cx} {pins : List (Addr × Obj)} {σ : St} {H : Hp} {s : Shared} {E : Value → Shared → Prop}
theorem Inv.wish (I : Inv X pins σ H s) (E : Value → Shared → Prop) : Inv (X.wish E) pins σ H s := ⟨I.ok.wish E, I.os, I.bare, I.base, I.loc, I.cell, I.free, I.freeC, I.pin, I.hok, I.len⟩
theorem Inv.unwish (I : Inv (X.wish E) pins σ H s) : Inv X pins σ H s := ⟨I.ok.unwish, I.os, I.bare, I.base, I.loc, I.cell, I.free, I.freeC, I.pin, I.hok, I.len⟩
theorem SP.unwish {D : Ends} {f : Flow} {s' : Shared} (h : SP (X.wish E) pins D f s') : SP X pins D f s' := by
  cases f with
  | next => obtain ⟨σ', H', I, q⟩ := h; exact ⟨σ', H', I.unwish, q⟩
  | brk => obtain ⟨σ', H', I, q⟩ := h; exact ⟨σ', H', I.unwish, q⟩
  | cont => obtain ⟨σ', H', I, q⟩ := h; exact ⟨σ', H', I.unwish, q⟩
  | ret u => obtain ⟨v, σ', H', I, r, q⟩ := h; exact ⟨v, σ', H', I.unwish, r, q⟩
theorem PSs.nox {st : List Stmt} {t : TS} (h : PSs X.nox st t) : PSs X st t := fun pins s σ H D I hw =>
  wpAny_mono (h pins s σ H D (I.wish _) hw) (fun _ _ q => q.unwish) fun _ _ z => False.elim z
end

section
variable {X : Cx} {st : Stmt} {rest : List Stmt} {t u : TS} {e : Expr} {te : TE} {pos : Pos}
def tNext : TS := fun D σ H => D.nx σ H
def tSeq (t u : TS) : TS := fun D σ H => t { D with nx := u D } σ H
theorem pss_nil : PSs X [] tNext := fun _ _ σ H _ I h => wpAny_execs_nil ⟨σ, H, I, h⟩
theorem pss_cons (h1 : PS X st t) (h2 : PSs X rest u) : PSs X (st :: rest) (tSeq t u) := by
  intro pins s σ H D I h
  refine wpAny_execs_cons (thn (h1 pins s σ H { D with nx := u D } I h) fun f s1 q => ?_)
  cases f with
  | next =>
    obtain ⟨σ', H', I', q⟩ := q
    exact h2 pins s1 σ' H' D I' q
  | ret v => exact q
  | brk => exact q
  | cont => exact q
theorem pss_one (h1 : PS X st t) : PSs X [st] t := by
  intro pins s σ H D I h
  refine wpAny_execs_cons (thn (h1 pins s σ H D I h) fun f s1 q => ?_)
  cases f with
  | next => exact wpAny_execs_nil q
  | ret v => exact q
  | brk => exact q
  | cont => exact q
theorem Inv.quiet {pins : List (Addr × Obj)} {σ : St} {H : Hp} {s : Shared} (I : Inv X pins σ H s) : interactive X.env = false := by simp [interactive, I.ok.kind]
def tDrop (te : TE) : TS := fun D σ H => te σ H fun _ H1 => D.nx σ H1
theorem ps_expr (he : PE X e te) (hs : swapsWith e none pos.line X.env = pure false := by rfl) : PS X (.Expr e pos) (tDrop te) := by
  intro pins s σ H D I h
  exact wpAny_Expr_any (thn (he pins s σ H _ I h) fun v s1 ⟨x, H1, I1, r1, q1⟩ => ⟨σ, H1, I1, q1⟩) I.quiet hs
def tRet (te : TE) : TS := fun D σ H => te σ H D.rt
theorem ps_ret (he : PE X e te) : PS X (.Return (some e) pos) (tRet te) := by
  intro pins s σ H D I h
  exact wpAny_Return_some (thn (he pins s σ H _ I h) fun v s1 ⟨x, H1, I1, r1, q1⟩ => ⟨x, σ, H1, I1, r1, q1⟩)
def tIfS (c : TT) (t u : TS) : TS := fun D σ H => c σ H fun b H1 => if b = true then t D σ H1 else u D σ H1
theorem ps_if {c : Expr} {a b : List Stmt} {tc : TT} (hc : PT X c tc) (ha : PSs X a t) (hb : PSs X b u) : PS X (.If c a b pos) (tIfS tc t u) := by
  intro pins s σ H D I h
  refine wpAny_If (thn (hc pins s σ H _ I h) fun d s1 ⟨H1, I1, q1⟩ => ?_)
  cases d with
  | true => exact ha pins s1 σ H1 D I1 q1
  | false => exact hb pins s1 σ H1 D I1 q1
def tNever : TS := fun _ _ _ => False
theorem ps_never : PS X st tNever := fun _ _ _ _ _ _ h => h.elim
end

abbrev TG := V → St → Hp → (St → Hp → Prop) → Prop
def PG (X : Cx) (target : Expr) (t : TG) : Prop :=
  ∀ (pins : List (Addr × Obj)) (s : Shared) (σ : St) (H : Hp) (v : V) (u : Value) (Q : St → Hp → Prop), Inv X pins σ H s → RelV v u → t v σ H Q →
    wpAny (model X.prog X.w) X.A (assign target X.env u) (fun _ s' => ∃ σ' H', Inv X pins σ' H' s' ∧ Q σ' H') X.xe s
abbrev TIp := V → V → Hp → VK → Prop
def PIp (X : Cx) (op : Operator) (t : TIp) : Prop :=
  ∀ (pins : List (Addr × Obj)) (s : Shared) (σ : St) (H : Hp) (x y : V) (v u : Value) (Q : VK), Inv X pins σ H s → RelV x v → RelV y u → t x y H Q →
    wpAny (model X.prog X.w) X.A (inplaceOp op v u) (EP X pins σ Q) X.xe s
section
variable {X : Cx} {pos : Pos}
def gName (i : Nat) : TG := fun v σ H Q => Q (σ.set i (some v)) H
theorem pg_name {i : Nat} {x : Str} (hN : X.N.Nodup) (hi : X.N[i]? = some x) (hx : Loc X.env.scope x) (hf : X.fn x = true ∨ X.env.scope.names.lookup x = some .local := by first | exact .inl rfl | exact .inr rfl | assumption) : PG X (.Name x pos) (gName i) := by
  intro pins s σ H v u Q I r h
  exact wpAny_assign_Name (store_ok I hN hi hx r (fun s' I' => ⟨_, H, I', h⟩) hf)
def tAsg (te : TE) (g : TG) : TS := fun D σ H => te σ H fun x H1 => g x σ H1 D.nx
theorem ps_set {i : Nat} {x : Str} {e : Expr} {te : TE} {pos' : Pos} (hN : X.N.Nodup) (hi : X.N[i]? = some x) (hx : Loc X.env.scope x) (he : PE X e te) (hs : swapsWith e (some (.Name x pos')) pos.line X.env = pure false := by rfl) (hf : X.fn x = true ∨ X.env.scope.names.lookup x = some .local := by first | exact .inl rfl | exact .inr rfl | assumption) :
    PS X (.Assign [.Name x pos'] e pos) (tAsg te (gName i)) := by
  intro pins s σ H D I h
  refine wpAny_Assign_Name (thn (he pins s σ H _ I h) fun v s1 ⟨y, H1, I1, r1, q1⟩ => ?_) hs
  exact store_ok I1 hN hi hx r1 (fun s2 I2 => ⟨_, H1, I2, q1⟩) hf
def tAug (i : Nat) (te : TE) (ti : TIp) : TS := fun D σ H => ∃ x, σ[i]? = some (some x) ∧ te σ H fun y H1 => ti x y H1 fun z H2 => D.nx (σ.set i (some z)) H2
theorem ps_aug {i : Nat} {x : Str} {e : Expr} {te : TE} {op : Operator} {ti : TIp} {pos' : Pos} (hN : X.N.Nodup) (hi : X.N[i]? = some x) (hx : Loc X.env.scope x) (he : PE X e te) (ho : PIp X op ti) (hf : X.fn x = true ∨ X.env.scope.names.lookup x = some .local := by first | exact .inl rfl | exact .inr rfl | assumption) :
    PS X (.AugAssign (.Name x pos') op e pos) (tAug i te ti) := by
  intro pins s σ H D I h
  obtain ⟨v, e1, h⟩ := h
  obtain ⟨m, hn, hl⟩ := I.loc
  have vis : Vis X.env.scope x := by rcases hx with k | k; exact .inl k; exact .inr (.inl k)
  obtain ⟨u, r, l⟩ := hl i x v hi e1 vis
  refine wpAny_AugAssign_Name ?_
  have go : wpAny (model X.prog X.w) X.A (eval e X.env) (fun w s₂ => wpAny (model X.prog X.w) X.A (inplaceOp op u w) (fun r s₃ => wpAny (model X.prog X.w) X.A (storeName X.env x r) (fun _ => SP X pins D .next) X.xe s₃) X.xe s₂) X.xe s := by
    refine thn (he pins s σ H _ I h) fun w s1 ⟨y, H1, I1, r1, q1⟩ => ?_
    refine thn (ho pins s1 σ H1 v y u w _ I1 r r1 q1) fun z s2 ⟨zv, H2, I2, r2, q2⟩ => ?_
    exact store_ok I2 hN hi hx r2 (fun s3 I3 => ⟨_, H2, I3, q2⟩) hf
  rcases l with ⟨hk, hm⟩ | ⟨hk, c, hc, hcell⟩
  · exact wpAny_loadName_local I.ok.kind hk hn hm go
  · rcases hk with hk | hk
    · exact wpAny_loadName_cell I.ok.kind hk hc hcell go
    · rcases hx with k | k
      · have : X.env.scope.names.lookup x = some .free := hk
        rw [k] at this; cases this
      · have : X.env.scope.names.lookup x = some .free := hk
        rw [k] at this; cases this
def ipI (f : Int → Int → Int) : TIp := fun x y H Q => ∃ i j, x = .int i ∧ y = .int j ∧ Q (.int (f i j)) H
theorem ip_add : PIp X .Add (ipI fun i j => i + j) := by
  intro pins s σ H x y v u Q I r1 r2 h
  obtain ⟨i, j, e1, e2, q⟩ := h
  subst e1; subst e2
  obtain ⟨t, rfl⟩ := r1
  obtain ⟨t', rfl⟩ := r2
  exact iadd_int ⟨.int _, H, I.tok _, ⟨_, rfl⟩, q⟩
end

section
variable {X : Cx} {pos : Pos}
def tWhile (c : TT) (tb : TS) : TS := fun D σ H => ∃ W : Nat → St → Hp → Prop, (∃ m, W m σ H) ∧ ∀ m σ H, W m σ H →
  c σ H fun b H1 => if b = true then ∃ N : St → Hp → Prop, (∀ σ' H', N σ' H' → ∃ m', m' < m ∧ W m' σ' H') ∧ tb { D with nx := N, ct := N, bk := D.nx } σ H1 else D.nx σ H1
theorem ps_while {c : Expr} {body : List Stmt} {tc : TT} {tb : TS} (hp : PassesOwn (model X.prog X.w) X.A X.env X.xe) (hc : PT X c tc) (hb : PSs X body tb) : PS X (.While c body [] pos) (tWhile tc tb) := by
  intro pins s σ H D I h
  obtain ⟨W, ⟨m0, w0⟩, turn⟩ := h
  refine wpAny_While (codeAny_whileLoop (fun n s' => ∃ σ' H', Inv X pins σ' H' s' ∧ W n σ' H') ?_ m0 ⟨σ, H, I, w0⟩)
  rintro n s1 ⟨σ1, H1, I1, w1⟩
  refine wpAny_passesOwn hp (thn (hc pins s1 σ1 H1 _ I1 (turn n σ1 H1 w1)) fun b s2 ⟨H2, I2, q2⟩ => ?_)
  cases b with
  | true =>
    obtain ⟨N, hN, q2⟩ := q2
    rw [if_pos rfl]
    refine wpAny_passesOwn hp (thn (hb pins s2 σ1 H2 _ I2 q2) fun f s3 q3 => ?_)
    cases f with
    | next =>
      obtain ⟨σ3, H3, I3, n3⟩ := q3
      obtain ⟨m', hm, w3⟩ := hN σ3 H3 n3
      exact ⟨m', hm, σ3, H3, I3, w3⟩
    | cont =>
      obtain ⟨σ3, H3, I3, n3⟩ := q3
      obtain ⟨m', hm, w3⟩ := hN σ3 H3 n3
      exact ⟨m', hm, σ3, H3, I3, w3⟩
    | brk => exact q3
    | ret v => exact q3
  | false =>
    rw [if_neg Bool.false_ne_true]
    exact wpAny_execs_nil ⟨σ1, H2, I2, q2⟩
end

structure It where
  go : Nat → Hp → Prop
  yld : Nat → Hp → V → Hp → Prop
  stop : Nat → Hp → Prop
def FpOk (X : Cx) (pins : List (Addr × Obj)) (H : Hp) (b : Addr) : Prop :=
  H b = none ∧ b ≠ X.env.locals ∧ b ∉ X.fs ∧ (b ∈ X.ex ∨ X.s₀.heap.objs.size ≤ b) ∧ (∀ x c, X.env.cells.lookup x = some c → c ≠ b) ∧ ∀ p ∈ X.pn ++ pins, p.1 ≠ b
theorem Inv.fpOk {X : Cx} {pins : List (Addr × Obj)} {σ : St} {H H' : Hp} {s : Shared} {b : Addr} (I : Inv X pins σ H s) (hb : s.heap.objs.size ≤ b) (hn : H' b = none) : FpOk X pins H' b := by
  refine ⟨hn, Nat.ne_of_gt (Nat.lt_of_lt_of_le I.lt hb), I.nofs hb, .inr (Nat.le_trans I.sz hb), fun x c e z => ?_, fun p hp z => ?_⟩
  · obtain ⟨v, q⟩ := I.cell x c e
    exact absurd (Nat.lt_of_lt_of_le q.lt (by rw [z]; exact hb)) (Nat.lt_irrefl _)
  · exact absurd (Nat.lt_of_lt_of_le (Heap.lt_size (I.pin p hp).1) (by rw [z]; exact hb)) (Nat.lt_irrefl _)
structure Turn (P : Program) (w : World) (K : PySem.W.Frag) (tg : Expr) (J : It) (fp : List Addr) (it : Addr) (tn : Nat → Heap → Prop) : Prop where
  mem : it ∈ fp
  obj : ∀ i h, tn i h → ∀ b ∈ fp, ∃ o, h.get? b = some o ∧ ∀ v, o.data ≠ .cell v
  keep : ∀ i h h', tn i h → (∀ b ∈ fp, ∀ o, h.get? b = some o → h'.get? b = some o) → tn i h'
  item : ∀ (X : Cx), X.prog = P → X.w = w → X.K = K → X.calm = true → ∀ (i : Nat) (pins : List (Addr × Obj)) (s : Shared) (σ : St) (H : Hp) (E : Value → Shared → Prop), Inv X pins σ H s → (∀ b ∈ fp, FpOk X pins H b) → tn i s.heap → J.go i H →
    wpAny (model P w) X.A (pyNext (.ref it)) (fun r s1 => ∃ u, r = some u ∧
      wpAny (model P w) X.A (letOwnedTupleGo tg (.ref it) u) (fun _ s2 => ∃ x H', Inv X pins σ H' s2 ∧ RelV x u ∧ J.yld i H x H' ∧ tn (i + 1) s2.heap ∧ ∀ b ∈ fp, H' b = none) E s1) E s
  done : ∀ (X : Cx), X.prog = P → X.w = w → X.K = K → X.calm = true → ∀ (i : Nat) (pins : List (Addr × Obj)) (s : Shared) (σ : St) (H : Hp) (E : Value → Shared → Prop), Inv X pins σ H s → (∀ b ∈ fp, FpOk X pins H b) → tn i s.heap → J.stop i H →
    wpAny (model P w) X.A (pyNext (.ref it)) (fun r s1 => r = none ∧ Inv X pins σ H s1) E s
  self : ∀ (A : Around) (i : Nat) (s : Shared) (Q : Value → Shared → Prop) (E : Value → Shared → Prop), tn i s.heap → Q (.ref it) s → wpAny (model P w) A (pyIter (.ref it)) Q E s
abbrev TI := St → Hp → (It → Hp → Prop) → Prop
def PIE (X : Cx) (pins : List (Addr × Obj)) (σ : St) (tg : Expr) (R : It → Hp → Prop) (itv : Value) (s2 : Shared) : Prop :=
  ∃ (it : Addr) (fp : List Addr) (tn : Nat → Heap → Prop) (J : It) (H' : Hp), itv = .ref it ∧ Inv X pins σ H' s2 ∧ Turn X.prog X.w X.K tg J fp it tn ∧ tn 0 s2.heap ∧ (∀ b ∈ fp, FpOk X pins H' b) ∧ R J H'
def PI (X : Cx) (tg iter : Expr) (wi : TI) : Prop :=
  ∀ (pins : List (Addr × Obj)) (s : Shared) (σ : St) (H : Hp) (R : It → Hp → Prop), Inv X pins σ H s → wi σ H R →
    wpAny (model X.prog X.w) X.A (eval iter X.env) (fun v s1 => wpAny (model X.prog X.w) X.A (pyIter v) (PIE X pins σ tg R) X.xe s1) X.xe s

theorem go_of {M : Model} {A : Around} {E : Value → Shared → Prop} {s : Shared} {tg : Expr} {it : Addr} {u : Value} {o : Obj} {n : String} {vs : Array Value} {Q : Unit → Shared → Prop} (ho : s.heap.get? it = some o) (hc : o.cls = .type n) (hd : o.data = .fields vs)
    (hn : ["enumerate", "zip", "dict_itemiterator", "dict_reverseitemiterator", "odict_iterator", "itertools.zip_longest", "itertools.pairwise"].contains n = false) (hQ : Q () s) : wpAny M A (letOwnedTupleGo tg (.ref it) u) Q E s := by
  unfold letOwnedTupleGo
  cases tg <;> first
    | exact wpAny_pure hQ
    | (cases u <;> first
        | exact wpAny_pure hQ
        | (refine wpAny_bind (wpAny_load ho ?_)
           rw [hc, hd]
           show wpAny M A (if (["enumerate", "zip", "dict_itemiterator", "dict_reverseitemiterator", "odict_iterator", "itertools.zip_longest", "itertools.pairwise"].contains n && vs[0]? == some (rawInt _)) = true then _ else _) Q E s
           rw [if_neg (by intro h; rw [hn, Bool.false_and] at h; cases h)]
           exact wpAny_pure hQ))

def Itl (K : PySem.W.Frag) (a : Addr) : It :=
  ⟨fun i H => ∃ xs x, SqL K H a xs ∧ xs[i]? = some x, fun i H x H' => H' = H ∧ ∀ xs, SqL K H a xs → xs[i]? = some x, fun i H => ∃ xs, SqL K H a xs ∧ xs.length ≤ i⟩
def Itt (K : PySem.W.Frag) (a : Addr) : It :=
  ⟨fun i H => ∃ xs x, SqT K H a xs ∧ xs[i]? = some x, fun i H x H' => H' = H ∧ ∀ xs, SqT K H a xs → xs[i]? = some x, fun i H => ∃ xs, SqT K H a xs ∧ xs.length ≤ i⟩
def Itr (lo : Int) (n : Nat) : It := ⟨fun i _ => i < n, fun i H x H' => H' = H ∧ x = .int (lo + i), fun i _ => n ≤ i⟩
theorem turn_list {P : Program} {w : World} {K : PySem.W.Frag} {tg : Expr} (a it : Addr) : Turn P w K tg (Itl K a) [it] it (fun i h => h.IsListIter it a i) where
  mem := by simp
  obj := fun i h st b hb => by
    have e : b = it := by simpa using hb
    subst e
    obtain ⟨o, e, c, d⟩ := st
    exact ⟨o, e, fun v z => by rw [d] at z; cases z⟩
  keep := fun i h h' st k => st.at fun o e => k it (by simp) o e
  item := by
    intro X hP hw hK hc i pins s σ H E I hf st hg
    subst hP hw hK
    obtain ⟨xs, x, hq, hx⟩ := hg
    obtain ⟨its, rv, p, hz⟩ := I.list hq
    obtain ⟨u, hu, ru⟩ := rv.get hx
    obtain ⟨f0, f1, f2, f3, f4, f5⟩ := hf it (by simp)
    refine wpAny_pyNext_list_item st p.isList (x := u) (by simpa using hu) fun h' st' sb => ?_
    have I1 : Inv X pins σ H { s with heap := h' } := I.turned (t' := s.toks) (fun b o hb e => (sb.2 b hb).trans e) f0 f1 f3 f4 f5
    obtain ⟨o, e, c, d⟩ := id st'
    exact ⟨u, rfl, go_of (s := { s with heap := h' }) e c d (by decide) ⟨x, H, I1, ru, ⟨rfl, fun ys hy => by rw [I.list_inj hy hq]; exact hx⟩, st', fun b hb => (hf b hb).1⟩⟩
  done := by
    intro X hP hw hK hc i pins s σ H E I hf st hg
    subst hP hw hK
    obtain ⟨xs, hq, hx⟩ := hg
    obtain ⟨its, rv, p, hz⟩ := I.list hq
    obtain ⟨f0, f1, f2, f3, f4, f5⟩ := hf it (by simp)
    have hl := rv.length
    exact wpAny_pyNext_list_end (I.ok.hd hc) st p.isList (by simp; omega) fun h' eb => ⟨rfl, I.turned (t' := s.toks) (fun b o hb e => eb b o hb e) f0 f1 f3 f4 f5⟩
  self := fun _ _ _ _ _ st h => wpAny_pyIter_listiter st h
theorem turn_tuple {P : Program} {w : World} {K : PySem.W.Frag} {tg : Expr} (a it : Addr) : Turn P w K tg (Itt K a) [it] it (fun i h => h.IsTupleIter it a i) where
  mem := by simp
  obj := fun i h st b hb => by
    have e : b = it := by simpa using hb
    subst e
    obtain ⟨o, e, c, d⟩ := st
    exact ⟨o, e, fun v z => by rw [d] at z; cases z⟩
  keep := fun i h h' st k => st.at fun o e => k it (by simp) o e
  item := by
    intro X hP hw hK hc i pins s σ H E I hf st hg
    subst hP hw hK
    obtain ⟨xs, x, hq, hx⟩ := hg
    obtain ⟨its, rv, p, hz⟩ := I.tuple hq
    obtain ⟨u, hu, ru⟩ := rv.get hx
    obtain ⟨f0, f1, f2, f3, f4, f5⟩ := hf it (by simp)
    refine wpAny_pyNext_tuple_item st (show s.heap.IsTuple a its.toArray from p) (x := u) (by simpa using hu) fun h' st' sb => ?_
    have I1 : Inv X pins σ H { s with heap := h' } := I.turned (t' := s.toks) (fun b o hb e => (sb.2 b hb).trans e) f0 f1 f3 f4 f5
    obtain ⟨o, e, c, d⟩ := id st'
    exact ⟨u, rfl, go_of (s := { s with heap := h' }) e c d (by decide) ⟨x, H, I1, ru, ⟨rfl, fun ys hy => by rw [I.tuple_inj hy hq]; exact hx⟩, st', fun b hb => (hf b hb).1⟩⟩
  done := by
    intro X hP hw hK hc i pins s σ H E I hf st hg
    subst hP hw hK
    obtain ⟨xs, hq, hx⟩ := hg
    obtain ⟨its, rv, p, hz⟩ := I.tuple hq
    obtain ⟨f0, f1, f2, f3, f4, f5⟩ := hf it (by simp)
    have hl := rv.length
    exact wpAny_pyNext_tuple_end (I.ok.hd hc) st (show s.heap.IsTuple a its.toArray from p) (by simp; omega) fun h' eb => ⟨rfl, I.turned (t' := s.toks) (fun b o hb e => eb b o hb e) f0 f1 f3 f4 f5⟩
  self := fun _ _ _ _ _ st h => wpAny_pyIter_tupleiter st h
theorem turn_range {P : Program} {w : World} {K : PySem.W.Frag} {tg : Expr} (it : Addr) (lo : Int) (n : Nat) : Turn P w K tg (Itr lo n) [it] it (fun i h => IsRangeIter h it (lo + (i : Nat) * 1) ((n : Int) - (i : Nat)) 1) where
  mem := by simp
  obj := fun i h st b hb => by
    have e : b = it := by simpa using hb
    subst e
    exact ⟨_, st, fun v z => by
      have z' : Data.fields _ = Data.cell v := z
      cases z'⟩
  keep := fun i h h' st k => k it (by simp) _ st
  item := by
    intro X hP hw hK hc i pins s σ H E I hf st hg
    subst hP hw hK
    obtain ⟨f0, f1, f2, f3, f4, f5⟩ := hf it (by simp)
    have W := Walks.range (prog := X.prog) (w := X.w) (I.ok.hd hc) it lo 1 n
    refine W.item i s _ _ hg st fun v h' tk hv st' kk => ?_
    obtain ⟨t, rfl⟩ := hv
    have I1 : Inv X pins σ H { s with heap := h', toks := tk } := I.turned (fun b o hb e => kk b o (by simpa using hb) e) f0 f1 f3 f4 f5
    refine ⟨_, rfl, go_of (s := { s with heap := h', toks := tk }) (n := "range_iterator") st' rfl rfl (by decide) ⟨.int (lo + i), H, I1, ⟨t, ?_⟩, ⟨rfl, rfl⟩, st', fun b hb => (hf b hb).1⟩⟩
    rw [Int.mul_one]
  done := by
    intro X hP hw hK hc i pins s σ H E I hf st hg
    subst hP hw hK
    obtain ⟨f0, f1, f2, f3, f4, f5⟩ := hf it (by simp)
    exact wpAny_pyNext_range_end (I.ok.hd hc) st (by have : n ≤ i := hg; omega) fun h' eb => ⟨rfl, I.turned (t' := s.toks) (fun b o hb e => eb b o hb e) f0 f1 f3 f4 f5⟩
  self := fun _ _ _ _ _ st h => wpAny_pyIter_rangeiter st h
end L2

namespace L2
open PySem PySem.Spec PyProof.Rows
section
variable {X : Cx} {tg : Expr}
def iList (K : PySem.W.Frag) (tl : TE) : TI := fun σ H R => tl σ H fun x H1 => ∃ a, x = .ref a ∧ (∃ xs, SqL K H1 a xs) ∧ R (Itl K a) H1
def iTup (K : PySem.W.Frag) (tl : TE) : TI := fun σ H R => tl σ H fun x H1 => ∃ a, x = .ref a ∧ (∃ xs, SqT K H1 a xs) ∧ R (Itt K a) H1
theorem pi_list {l : Expr} {tl : TE} (hl : PE X l tl) : PI X tg l (iList X.K tl) := by
  intro pins s σ H R I h
  refine thn (hl pins s σ H _ I h) fun v s1 ⟨x, H1, I1, r1, q1⟩ => ?_
  obtain ⟨a, e, ⟨xs, hq⟩, q⟩ := q1
  subst e
  cases r1
  obtain ⟨its, rv, p, hz⟩ := I1.list hq
  refine wpAny_pyIter_list p.isList ?_
  refine ⟨s1.heap.objs.size, [s1.heap.objs.size], _, _, H1, rfl, I1.kept (t' := s1.toks) fun b o e => Heap.get?_push_of_some _ e, turn_list a _, ⟨_, Heap.get?_push_size _ rfl, rfl, rfl⟩, fun b hb => ?_, q⟩
  have e : b = s1.heap.objs.size := by simpa using hb
  subst e
  exact I1.fpOk (Nat.le_refl _) (I1.hok.fresh (Nat.le_refl _))
theorem pi_tup {l : Expr} {tl : TE} (hl : PE X l tl) : PI X tg l (iTup X.K tl) := by
  intro pins s σ H R I h
  refine thn (hl pins s σ H _ I h) fun v s1 ⟨x, H1, I1, r1, q1⟩ => ?_
  obtain ⟨a, e, ⟨xs, hq⟩, q⟩ := q1
  subst e
  cases r1
  obtain ⟨its, rv, p, hz⟩ := I1.tuple hq
  refine wpAny_pyIter_tuple (show s1.heap.IsTuple a its.toArray from p) ?_
  refine ⟨s1.heap.objs.size, [s1.heap.objs.size], _, _, H1, rfl, I1.kept (t' := s1.toks) fun b o e => Heap.get?_push_of_some _ e, turn_tuple a _, ⟨_, Heap.get?_push_size _ rfl, rfl, rfl⟩, fun b hb => ?_, q⟩
  have e : b = s1.heap.objs.size := by simpa using hb
  subst e
  exact I1.fpOk (Nat.le_refl _) (I1.hok.fresh (Nat.le_refl _))
theorem range_it {pins : List (Addr × Obj)} {σ : St} {H : Hp} {s : Shared} {R : It → Hp → Prop} {E : Value → Shared → Prop} {lo hi : Int} {t u v : Tok} {tk : Nat} (I : Inv X pins σ H s) (h1 : -(2 ^ 62) ≤ lo) (h2 : lo < 2 ^ 62) (h3 : -(2 ^ 62) ≤ hi) (h4 : hi < 2 ^ 62)
    (q : R (Itr lo (hi - lo).toNat) H) : wpAny (model X.prog X.w) X.A (pyIter (.ref s.heap.objs.size)) (PIE X pins σ tg R) E { s with heap := s.heap.push { cls := .type "range", data := .fields #[.int lo t, .int hi u, .int 1 v] }, toks := tk } := by
  refine wpAny_pyIter_range (IsRange.new ..) (small_one h1 h2 h3 h4) ?_
  have I1 : Inv X pins σ H { s with heap := s.heap.push { cls := .type "range", data := .fields #[.int lo t, .int hi u, .int 1 v] }, toks := tk } := I.kept fun b o e => Heap.get?_push_of_some _ e
  refine ⟨(s.heap.push { cls := .type "range", data := .fields #[.int lo t, .int hi u, .int 1 v] }).objs.size, [(s.heap.push { cls := .type "range", data := .fields #[.int lo t, .int hi u, .int 1 v] }).objs.size], _, _, H, rfl,
    I1.kept (t' := tk) fun b o e => Heap.get?_push_of_some _ e, turn_range _ lo (hi - lo).toNat, ?_, fun b hb => ?_, q⟩
  · have e1 : lo + ((0 : Nat) : Int) * 1 = lo := by simp
    have e2 : (((hi - lo).toNat : Nat) : Int) - ((0 : Nat) : Int) = Builtin.Range.rangeSize lo hi 1 := by rw [rangeSize_one]; split <;> omega
    show IsRangeIter _ _ (lo + ((0 : Nat) : Int) * 1) ((((hi - lo).toNat : Nat) : Int) - ((0 : Nat) : Int)) 1
    rw [e1, e2]
    exact Heap.get?_push_size _ rfl
  · have e : b = (s.heap.push { cls := .type "range", data := .fields #[.int lo t, .int hi u, .int 1 v] }).objs.size := by simpa using hb
    subst e
    exact I1.fpOk (Nat.le_refl _) (I1.hok.fresh (Nat.le_refl _))
def iRng1 (ta : TA) : TI := fun σ H R => ta σ H fun vs H1 => ∃ j : Int, vs = [.int j] ∧ -(2 ^ 62) ≤ j ∧ j < 2 ^ 62 ∧ R (Itr 0 j.toNat) H1
def iRng2 (ta : TA) : TI := fun σ H R => ta σ H fun vs H1 => ∃ i j : Int, vs = [.int i, .int j] ∧ (-(2 ^ 62) ≤ i ∧ i < 2 ^ 62 ∧ -(2 ^ 62) ≤ j ∧ j < 2 ^ 62) ∧ R (Itr i (j - i).toNat) H1
theorem pi_range1 {a : Expr} {ta : TA} {p pos : Pos} (hg : Gl X "range") (hm : X.mg "range" = none) (ha : PA X [a] ta) (hs : starEach [a] X.env = [(false, eval a X.env)] := by rfl) : PI X tg (.Call (.Name "range" p) [a] [] pos) (iRng1 ta) := by
  intro pins s σ H R I h
  refine Call_ (ld_blt I hg hm boot_range (PyProof.Rows.callWith_type1 (thn (ha pos pins s σ H _ I h) fun us s1 ⟨vs, H1, I1, r1, q1⟩ => ?_) hs rfl))
  obtain ⟨j, e, q1, q2, q⟩ := q1
  subst e
  cases r1 with
  | cons r rr =>
    cases rr
    obtain ⟨t, rfl⟩ := r
    exact call_range_1 (range_it I1 (by omega) (by omega) q1 q2 (by simpa using q))
theorem pi_range2 {a b : Expr} {ta : TA} {p pos : Pos} (hg : Gl X "range") (hm : X.mg "range" = none) (ha : PA X [a, b] ta) (hs : starEach [a, b] X.env = [(false, eval a X.env), (false, eval b X.env)] := by rfl) (hs2 : starEach [b] X.env = [(false, eval b X.env)] := by rfl) :
    PI X tg (.Call (.Name "range" p) [a, b] [] pos) (iRng2 ta) := by
  intro pins s σ H R I h
  refine Call_ (ld_blt I hg hm boot_range (PyProof.Rows.callWith_type1 (thn (ha pos pins s σ H _ I h) fun us s1 ⟨vs, H1, I1, r1, q1⟩ => ?_) (by rw [hs, hs2]) (by rw [hs2]; rfl)))
  obtain ⟨i, j, e, ⟨q1, q2, q3, q4⟩, q⟩ := q1
  subst e
  cases r1 with
  | cons r rr =>
    cases rr with
    | cons r' rr =>
      cases rr
      obtain ⟨t, rfl⟩ := r
      obtain ⟨t', rfl⟩ := r'
      exact call_range_2 (range_it I1 q1 q2 q3 q4 q)

def tFor (wi : TI) (g : TG) (tb : TS) : TS := fun D σ H => wi σ H fun J H1 => ∃ W : Nat → Nat → St → Hp → Prop, (∃ m, W 0 m σ H1) ∧ ∀ i m σ H, W i m σ H →
  (J.stop i H ∧ D.nx σ H) ∨ (J.go i H ∧ ∃ N : St → Hp → Prop, (∀ σ' H', N σ' H' → ∃ m', m' < m ∧ W (i + 1) m' σ' H') ∧ ∀ x H', J.yld i H x H' → g x σ H' fun σ2 H2 => tb { D with nx := N, ct := N, bk := D.nx } σ2 H2)
def pinsAt (fp : List Addr) (h : Heap) : List (Addr × Obj) := fp.filterMap fun b => (h.get? b).map fun o => (b, o)
theorem mem_pinsAt {fp : List Addr} {h : Heap} {b : Addr} {o : Obj} (hb : b ∈ fp) (e : h.get? b = some o) : (b, o) ∈ pinsAt fp h := List.mem_filterMap.mpr ⟨b, hb, by rw [e]; rfl⟩
theorem of_pinsAt {fp : List Addr} {h : Heap} {p : Addr × Obj} (hp : p ∈ pinsAt fp h) : p.1 ∈ fp ∧ h.get? p.1 = some p.2 := by
  obtain ⟨b, hb, e⟩ := List.mem_filterMap.mp hp
  cases q : h.get? b with
  | none => rw [q] at e; cases e
  | some o =>
    rw [q] at e
    have e' : (b, o) = p := Option.some.inj e
    subst e'
    exact ⟨hb, q⟩
theorem Inv.pinned {pins : List (Addr × Obj)} {σ : St} {H : Hp} {s : Shared} {fp : List Addr} (I : Inv X pins σ H s) (hf : ∀ b ∈ fp, FpOk X pins H b) (ho : ∀ b ∈ fp, ∃ o, s.heap.get? b = some o ∧ ∀ v, o.data ≠ .cell v) : Inv X (pins ++ pinsAt fp s.heap) σ H s :=
  I.pins_of fun p hp => (List.mem_append.mp hp).elim (fun z => I.pin p (List.mem_append_right _ z)) fun z => by
    obtain ⟨hb, e⟩ := of_pinsAt z
    obtain ⟨f0, f1, f2, _⟩ := hf p.1 hb
    obtain ⟨o, e', d⟩ := ho p.1 hb
    rw [e] at e'; cases e'
    exact ⟨e, f0, f1, f2, d⟩
theorem Inv.unpinned {pins pl : List (Addr × Obj)} {σ : St} {H : Hp} {s : Shared} (I : Inv X (pins ++ pl) σ H s) : Inv X pins σ H s := I.pins_of fun p hp => I.pin p (List.mem_append_right _ (List.mem_append_left _ hp))
theorem ps_for {iter : Expr} {body : List Stmt} {wi : TI} {g : TG} {tb : TS} {pos : Pos} (hp : PassesOwn (model X.prog X.w) X.A X.env X.xe) (hc : X.calm = true) (hi : PI X tg iter wi) (hg : PG X tg g) (hb : PSs X body tb)
    (hs : ∀ x, foldedSetIterable iter X.env x = pure x := by intro _; rfl) : PS X (.For tg iter body [] pos) (tFor wi g tb) := by
  intro pins s σ H D I h
  refine wpAny_For (thn (hi pins s σ H _ I h) fun v s1 h1 => thn h1 fun itv s2 h2 => ?_) hs
  obtain ⟨it, fp, tn, J, H2, e, I2, T, st2, f2, W, ⟨m0, w0⟩, turn⟩ := h2
  subst e
  -- what stays true of the iterator's objects through the loop
  have stat : ∀ {H' : Hp}, (∀ b ∈ fp, H' b = none) → ∀ b ∈ fp, FpOk X pins H' b := fun hn b hb => ⟨hn b hb, (f2 b hb).2⟩
  refine codeAny_forLoop_any (fun n s' => ∃ i σ' H', Inv X pins σ' H' s' ∧ tn i s'.heap ∧ (∀ b ∈ fp, H' b = none) ∧ W i n σ' H') ?_ m0 ⟨0, σ, H2, I2, st2, fun b hb => (f2 b hb).1, w0⟩
  rintro n s3 ⟨i, σ3, H3, I3, st3, fr3, w3⟩
  rcases turn i n σ3 H3 w3 with ⟨stop, qn⟩ | ⟨go, N, hN, step⟩
  · refine wpAny_passesOwn hp (thn (T.done X rfl rfl rfl hc i pins s3 σ3 H3 X.xe I3 (stat fr3) st3 stop) fun r s4 ⟨hr, I4⟩ => ?_)
    subst hr
    exact wpAny_execs_nil ⟨σ3, H3, I4, qn⟩
  · refine wpAny_passesOwn hp (thn (T.item X rfl rfl rfl hc i pins s3 σ3 H3 X.xe I3 (stat fr3) st3 go) fun r s4 ⟨u, hr, h4⟩ => ?_)
    subst hr
    refine wpAny_passesOwn hp (thn h4 fun _ s5 ⟨x, H5, I5, r5, y5, st5, fr5⟩ => ?_)
    have I5' := I5.pinned (stat fr5) (T.obj _ _ st5)
    refine wpAny_passesOwn hp (thn (hg _ s5 σ3 H5 x u _ I5' r5 (step x H5 y5)) fun _ s6 ⟨σ6, H6, I6, q6⟩ => ?_)
    refine wpAny_passesOwn hp (thn (hb _ s6 σ6 H6 _ I6 q6) fun f s7 q7 => ?_)
    have again : ∀ {σ7 : St} {H7 : Hp}, Inv X (pins ++ pinsAt fp s5.heap) σ7 H7 s7 → N σ7 H7 → ∃ m, m < n ∧ ∃ i σ' H', Inv X pins σ' H' s7 ∧ tn i s7.heap ∧ (∀ b ∈ fp, H' b = none) ∧ W i m σ' H' := fun {σ7 H7} I7 n7 => by
      obtain ⟨m', hm, w7⟩ := hN σ7 H7 n7
      refine ⟨m', hm, i + 1, σ7, H7, I7.unpinned, T.keep _ _ _ st5 fun b hb o e => (I7.pin (b, o) (List.mem_append_right _ (List.mem_append_right _ (mem_pinsAt hb e)))).1, fun b hb => ?_, w7⟩
      obtain ⟨o, e, d⟩ := T.obj _ _ st5 b hb
      exact (I7.pin (b, o) (List.mem_append_right _ (List.mem_append_right _ (mem_pinsAt hb e)))).2.1
    cases f with
    | next => obtain ⟨σ7, H7, I7, n7⟩ := q7; exact again I7 n7
    | cont => obtain ⟨σ7, H7, I7, n7⟩ := q7; exact again I7 n7
    | brk => obtain ⟨σ7, H7, I7, q7⟩ := q7; exact ⟨σ7, H7, I7.unpinned, q7⟩
    | ret v => obtain ⟨x7, σ7, H7, I7, r7, q7⟩ := q7; exact ⟨x7, σ7, H7, I7.unpinned, r7, q7⟩
end

theorem for_list {K : PySem.W.Frag} {a : Addr} {xs : List V} {g : TG} {tb : TS} {D : Ends} {σ : St} {H : Hp} (Pv : Nat → St → Hp → Prop) (h0 : Pv 0 σ H) (hl : ∀ i σ H, i ≤ xs.length → Pv i σ H → SqL K H a xs)
    (hs : ∀ i x σ H, xs[i]? = some x → Pv i σ H → g x σ H fun σ2 H2 => tb { D with nx := Pv (i + 1), ct := Pv (i + 1), bk := D.nx } σ2 H2) (hd : ∀ σ H, Pv xs.length σ H → D.nx σ H) :
    ∃ W : Nat → Nat → St → Hp → Prop, (∃ m, W 0 m σ H) ∧ ∀ i m σ H, W i m σ H →
      ((Itl K a).stop i H ∧ D.nx σ H) ∨ ((Itl K a).go i H ∧ ∃ N : St → Hp → Prop, (∀ σ' H', N σ' H' → ∃ m', m' < m ∧ W (i + 1) m' σ' H') ∧ ∀ x H', (Itl K a).yld i H x H' → g x σ H' fun σ2 H2 => tb { D with nx := N, ct := N, bk := D.nx } σ2 H2) := by
  refine ⟨fun i m σ H => m = xs.length - i ∧ i ≤ xs.length ∧ Pv i σ H, ⟨xs.length, by simp, Nat.zero_le _, h0⟩, ?_⟩
  rintro i m σ H ⟨rfl, hi, p⟩
  have q := hl i σ H hi p
  by_cases hlt : i < xs.length
  · refine .inr ⟨⟨xs, xs[i], q, by simp [hlt]⟩, Pv (i + 1), fun σ' H' p' => ⟨xs.length - (i + 1), by omega, rfl, hlt, p'⟩, fun x H' y => ?_⟩
    obtain ⟨e, y⟩ := y
    subst e
    exact hs i x σ _ (y xs q) p
  · have e : i = xs.length := by omega
    subst e
    exact .inl ⟨⟨xs, q, Nat.le_refl _⟩, hd σ H p⟩
theorem for_tup {K : PySem.W.Frag} {a : Addr} {xs : List V} {g : TG} {tb : TS} {D : Ends} {σ : St} {H : Hp} (Pv : Nat → St → Hp → Prop) (h0 : Pv 0 σ H) (hl : ∀ i σ H, i ≤ xs.length → Pv i σ H → SqT K H a xs)
    (hs : ∀ i x σ H, xs[i]? = some x → Pv i σ H → g x σ H fun σ2 H2 => tb { D with nx := Pv (i + 1), ct := Pv (i + 1), bk := D.nx } σ2 H2) (hd : ∀ σ H, Pv xs.length σ H → D.nx σ H) :
    ∃ W : Nat → Nat → St → Hp → Prop, (∃ m, W 0 m σ H) ∧ ∀ i m σ H, W i m σ H →
      ((Itt K a).stop i H ∧ D.nx σ H) ∨ ((Itt K a).go i H ∧ ∃ N : St → Hp → Prop, (∀ σ' H', N σ' H' → ∃ m', m' < m ∧ W (i + 1) m' σ' H') ∧ ∀ x H', (Itt K a).yld i H x H' → g x σ H' fun σ2 H2 => tb { D with nx := N, ct := N, bk := D.nx } σ2 H2) := by
  refine ⟨fun i m σ H => m = xs.length - i ∧ i ≤ xs.length ∧ Pv i σ H, ⟨xs.length, by simp, Nat.zero_le _, h0⟩, ?_⟩
  rintro i m σ H ⟨rfl, hi, p⟩
  have q := hl i σ H hi p
  by_cases hlt : i < xs.length
  · refine .inr ⟨⟨xs, xs[i], q, by simp [hlt]⟩, Pv (i + 1), fun σ' H' p' => ⟨xs.length - (i + 1), by omega, rfl, hlt, p'⟩, fun x H' y => ?_⟩
    obtain ⟨e, y⟩ := y
    subst e
    exact hs i x σ _ (y xs q) p
  · have e : i = xs.length := by omega
    subst e
    exact .inl ⟨⟨xs, q, Nat.le_refl _⟩, hd σ H p⟩
theorem for_range {lo : Int} {n : Nat} {g : TG} {tb : TS} {D : Ends} {σ : St} {H : Hp} (Pv : Nat → St → Hp → Prop) (h0 : Pv 0 σ H)
    (hs : ∀ i σ H, i < n → Pv i σ H → g (.int (lo + i)) σ H fun σ2 H2 => tb { D with nx := Pv (i + 1), ct := Pv (i + 1), bk := D.nx } σ2 H2) (hd : ∀ σ H, Pv n σ H → D.nx σ H) :
    ∃ W : Nat → Nat → St → Hp → Prop, (∃ m, W 0 m σ H) ∧ ∀ i m σ H, W i m σ H →
      ((Itr lo n).stop i H ∧ D.nx σ H) ∨ ((Itr lo n).go i H ∧ ∃ N : St → Hp → Prop, (∀ σ' H', N σ' H' → ∃ m', m' < m ∧ W (i + 1) m' σ' H') ∧ ∀ x H', (Itr lo n).yld i H x H' → g x σ H' fun σ2 H2 => tb { D with nx := N, ct := N, bk := D.nx } σ2 H2) := by
  refine ⟨fun i m σ H => m = n - i ∧ i ≤ n ∧ Pv i σ H, ⟨n, by simp, Nat.zero_le _, h0⟩, ?_⟩
  rintro i m σ H ⟨rfl, hi, p⟩
  by_cases hlt : i < n
  · refine .inr ⟨hlt, Pv (i + 1), fun σ' H' p' => ⟨n - (i + 1), by omega, rfl, hlt, p'⟩, fun x H' y => ?_⟩
    obtain ⟨e, y⟩ := y
    subst e y
    exact hs i σ _ hlt p
  · have e : i = n := by omega
    subst e
    exact .inl ⟨Nat.le_refl _, hd σ H p⟩
end L2

namespace L2
open PySem PySem.Spec PyProof.Rows

abbrev R2 := V → V → Hp → VK → Prop
def OpR (X : Cx) (f : Value → Value → Sem Value) (r : R2) : Prop :=
  ∀ (pins : List (Addr × Obj)) (s : Shared) (σ : St) (H : Hp) (x y : V) (v u : Value) (Q : VK), Inv X pins σ H s → RelV x v → RelV y u → r x y H Q →
    wpAny (model X.prog X.w) X.A (f v u) (EP X pins σ Q) X.xe s
def UnR (X : Cx) (f : Value → Sem Value) (r : V → Hp → VK → Prop) : Prop :=
  ∀ (pins : List (Addr × Obj)) (s : Shared) (σ : St) (H : Hp) (x : V) (v : Value) (Q : VK), Inv X pins σ H s → RelV x v → r x H Q →
    wpAny (model X.prog X.w) X.A (f v) (EP X pins σ Q) X.xe s
def CallR (X : Cx) (f : Value) (r : List V → Hp → VK → Prop) : Prop :=
  ∀ (pins : List (Addr × Obj)) (s : Shared) (σ : St) (H : Hp) (xs : List V) (us : List Value) (Q : VK), Inv X pins σ H s → Vals xs us → r xs H Q →
    wpAny (model X.prog X.w) X.A (call f us) (EP X pins σ Q) X.xe s
def tOp (r : R2) (ta tb : TE) : TE := fun σ H Q => ta σ H fun x H1 => tb σ H1 fun y H2 => r x y H2 Q
def tUn (r : V → Hp → VK → Prop) (ta : TE) : TE := fun σ H Q => ta σ H fun x H1 => r x H1 Q
def rI (C : Int → Int → Prop) (g : Int → Int → V) : R2 := fun x y H Q => ∃ i j, x = .int i ∧ y = .int j ∧ C i j ∧ Q (g i j) H
def rI0 (g : Int → Int → V) : R2 := fun x y H Q => ∃ i j, x = .int i ∧ y = .int j ∧ Q (g i j) H
def rU (g : Int → V) : V → Hp → VK → Prop := fun x H Q => ∃ i, x = .int i ∧ Q (g i) H

section
variable {X : Cx} {a b c : Expr} {ta tb tc : TE} {pos : Pos}

theorem binT (ha : PE X a ta) (hb : PE X b tb) {pins : List (Addr × Obj)} {s : Shared} {σ : St} {H : Hp} {R : V → V → Hp → Prop} (I : Inv X pins σ H s)
    (h : ta σ H fun x H1 => tb σ H1 fun y H2 => R x y H2) {Q : Value → Shared → Prop} {f : Value → Value → Sem Value}
    (hf : ∀ v u s2 x y H2, Inv X pins σ H2 s2 → RelV x v → RelV y u → R x y H2 → wpAny (model X.prog X.w) X.A (f v u) Q X.xe s2) :
    wpAny (model X.prog X.w) X.A (eval a X.env) (fun v s₁ => wpAny (model X.prog X.w) X.A (eval b X.env) (fun u s₂ => wpAny (model X.prog X.w) X.A (f v u) Q X.xe s₂) X.xe s₁) X.xe s := by
  refine thn (ha pins s σ H _ I h) fun v s1 ⟨x, H1, I1, r1, q1⟩ => ?_
  refine thn (hb pins s1 σ H1 _ I1 q1) fun u s2 ⟨y, H2, I2, r2, q2⟩ => ?_
  exact hf v u s2 x y H2 I2 r1 r2 q2

theorem pe_op {op : Operator} {r : R2} (ho : OpR X (binaryOp op) r) (ha : PE X a ta) (hb : PE X b tb) : PE X (.BinOp a op b pos) (tOp r ta tb) := by
  intro pins s σ H Q I h
  exact wpAny_BinOp (binT ha hb I h fun v u s2 x y H2 I2 rx ry q => ho pins s2 σ H2 x y v u Q I2 rx ry q)
theorem pe_un {op : UnaryOp} {r : V → Hp → VK → Prop} (ho : UnR X (unaryOp op) r) (ha : PE X a ta) : PE X (.UnaryOp op a pos) (tUn r ta) := by
  intro pins s σ H Q I h
  exact UnaryOp_ (thn (ha pins s σ H _ I h) fun v s1 ⟨x, H1, I1, r1, q1⟩ => ho pins s1 σ H1 x v Q I1 r1 q1)
theorem opI {f : Value → Value → Sem Value} {C : Int → Int → Prop} {g : Int → Int → Int}
    (rule : ∀ (i j : Int) (t u : Tok) (s : Shared) (Q : Value → Shared → Prop) (E : Value → Shared → Prop), C i j → Q (.int (g i j) s.toks) { s with toks := s.toks + 1 } → wpAny (model X.prog X.w) X.A (f (.int i t) (.int j u)) Q E s) :
    OpR X f (rI C fun i j => .int (g i j)) := by
  intro pins s σ H x y v u Q I rx ry h
  obtain ⟨i, j, rfl, rfl, hc, q⟩ := h
  obtain ⟨t, rfl⟩ := rx
  obtain ⟨t', rfl⟩ := ry
  exact rule i j t t' s _ _ hc ⟨.int (g i j), H, I.tok _, ⟨_, rfl⟩, q⟩
theorem opI0 {f : Value → Value → Sem Value} {g : Int → Int → Int}
    (rule : ∀ (i j : Int) (t u : Tok) (s : Shared) (Q : Value → Shared → Prop) (E : Value → Shared → Prop), Q (.int (g i j) s.toks) { s with toks := s.toks + 1 } → wpAny (model X.prog X.w) X.A (f (.int i t) (.int j u)) Q E s) :
    OpR X f (rI0 fun i j => .int (g i j)) := by
  intro pins s σ H x y v u Q I rx ry h
  obtain ⟨i, j, rfl, rfl, q⟩ := h
  obtain ⟨t, rfl⟩ := rx
  obtain ⟨t', rfl⟩ := ry
  exact rule i j t t' s _ _ ⟨.int (g i j), H, I.tok _, ⟨_, rfl⟩, q⟩
theorem opB0 {f : Value → Value → Sem Value} {g : Int → Int → Bool}
    (rule : ∀ (i j : Int) (t u : Tok) (s : Shared) (Q : Value → Shared → Prop) (E : Value → Shared → Prop), Q (.bool (g i j)) s → wpAny (model X.prog X.w) X.A (f (.int i t) (.int j u)) Q E s) :
    OpR X f (rI0 fun i j => .bl (g i j)) := by
  intro pins s σ H x y v u Q I rx ry h
  obtain ⟨i, j, rfl, rfl, q⟩ := h
  obtain ⟨t, rfl⟩ := rx
  obtain ⟨t', rfl⟩ := ry
  exact rule i j t t' s _ _ ⟨.bl (g i j), H, I, rfl, q⟩

def CDiv (i j : Int) : Prop := 0 < j ∧ j < 1073741824
def CMul (i j : Int) : Prop := (-(2 ^ 64) < i ∧ i < 2 ^ 64) ∨ (-(2 ^ 64) < j ∧ j < 2 ^ 64)
theorem CMul.ok {i j : Int} (h : CMul i j) : IntMulOk i j := by
  rcases h with ⟨h1, h2⟩ | ⟨h1, h2⟩
  · exact .of_left (intBits_le_64 h1 h2)
  · exact .of_right (intBits_le_64 h1 h2)
theorem op_add : OpR X (binaryOp .Add) (rI0 fun i j => .int (i + j)) := opI0 fun _ _ _ _ _ _ _ q => add_int q
theorem op_sub : OpR X (binaryOp .Sub) (rI0 fun i j => .int (i - j)) := opI0 fun _ _ _ _ _ _ _ q => sub_int q
theorem op_mul : OpR X (binaryOp .Mult) (rI CMul fun i j => .int (i * j)) := opI fun _ _ _ _ _ _ _ hc q => mul_int q hc.ok
theorem op_fdiv : OpR X (binaryOp .FloorDiv) (rI CDiv fun i j => .int (i / j)) := opI fun i j _ _ _ _ _ hc q => by
  have h1 : (0 : Int) < j := hc.1
  have h2 : j < 1073741824 := hc.2
  exact floordiv_int (by omega) (by rw [Int.fdiv_eq_ediv_of_nonneg i (by omega)]; exact q) (.inl (PyProof.noPylong_small (by omega)))
theorem op_mod : OpR X (binaryOp .Mod) (rI (fun _ j => 0 < j) fun i j => .int (i % j)) := opI fun i j _ _ _ _ _ hc q => by
  have h1 : (0 : Int) < j := hc
  exact mod_int' (by omega) (by rw [Int.fmod_eq_emod_of_nonneg i (by omega)]; exact q)
theorem unI {f : Value → Sem Value} {g : Int → Int}
    (rule : ∀ (i : Int) (t : Tok) (s : Shared) (Q : Value → Shared → Prop) (E : Value → Shared → Prop), Q (.int (g i) s.toks) { s with toks := s.toks + 1 } → wpAny (model X.prog X.w) X.A (f (.int i t)) Q E s) :
    UnR X f (rU fun i => .int (g i)) := by
  intro pins s σ H x v Q I rx h
  obtain ⟨i, rfl, q⟩ := h
  obtain ⟨t, rfl⟩ := rx
  exact rule i t s _ _ ⟨.int (g i), H, I.tok _, ⟨_, rfl⟩, q⟩
theorem un_neg : UnR X (unaryOp .USub) (rU fun i => .int (-i)) := unI fun _ _ _ _ _ q => neg_int q
end

def scal : V → V → Bool
  | .non, .non => true | .non, .int _ => true | .int _, .non => true | .non, .bl _ => true | .bl _, .non => true | .non, .str _ => true | .str _, .non => true
  | .int _, .int _ => true | .bl _, .bl _ => true | .str _, .str _ => true | .byt _, .byt _ => true
  | .int _, .str _ => true | .str _, .int _ => true | .bl _, .str _ => true | .str _, .bl _ => true
  | _, _ => false
def rEq : R2 := fun x y H Q => scal x y = true ∧ Q (.bl (decide (x = y))) H
def rNe : R2 := fun x y H Q => scal x y = true ∧ Q (.bl (!decide (x = y))) H

theorem dec_int {i j : Int} : decide (V.int i = V.int j) = (i == j) := by
  rw [Bool.eq_iff_iff]
  simp
theorem dec_bl {i j : Bool} : decide (V.bl i = V.bl j) = (i == j) := by
  rw [Bool.eq_iff_iff]
  simp
theorem dec_str {i j : Str} : decide (V.str i = V.str j) = (i == j) := by
  rw [Bool.eq_iff_iff]
  simp
theorem dec_byt {i j : Array UInt8} : decide (V.byt i = V.byt j) = (i.toList == j.toList) := by
  rw [Bool.eq_iff_iff]
  cases i
  cases j
  simp

section
variable {X : Cx} {a b c : Expr} {ta tb tc : TE} {pos : Pos}
theorem fin_bl {pins : List (Addr × Obj)} {σ : St} {H : Hp} {s : Shared} {Q : VK} {k k' : Bool} (I : Inv X pins σ H s) (q : Q (.bl k) H) (e : k = k') : EP X pins σ Q (.bool k') s := by
  subst e
  exact ⟨.bl k, H, I, rfl, q⟩
theorem op_eq : OpR X (compareOp .Eq) rEq := by
  intro pins s σ H x y v u Q I rx ry h
  obtain ⟨hs, q⟩ := h
  cases x with
  | non =>
    cases rx
    cases y with
    | non => cases ry; exact PySem.EqNone.eq_none_none (fin_bl I q (by simp))
    | bl j => cases ry; exact PySem.EqNone.eq_none_bool (fin_bl I q (by simp))
    | int j => obtain ⟨t', rfl⟩ := ry; exact PySem.EqNone.eq_none_int (fin_bl I q (by simp))
    | str j => obtain ⟨t', rfl⟩ := ry; exact PySem.EqNone.eq_none_str (fin_bl I q (by simp))
    | _ => exact absurd (show false = true from hs) Bool.false_ne_true
  | bl i =>
    cases rx
    cases y with
    | non => cases ry; exact PySem.EqNone.eq_bool_none (fin_bl I q (by simp))
    | bl j => cases ry; exact eq_bool (fin_bl I q dec_bl)
    | str j => obtain ⟨t', rfl⟩ := ry; exact PySem.EqMixed.eq_bool_str (fin_bl I q (by simp))
    | _ => exact absurd (show false = true from hs) Bool.false_ne_true
  | int i =>
    obtain ⟨t, rfl⟩ := rx
    cases y with
    | non => cases ry; exact PySem.EqNone.eq_int_none (fin_bl I q (by simp))
    | int j => obtain ⟨t', rfl⟩ := ry; exact eq_int (fin_bl I q dec_int)
    | str j => obtain ⟨t', rfl⟩ := ry; exact PySem.EqMixed.eq_int_str (fin_bl I q (by simp))
    | _ => exact absurd (show false = true from hs) Bool.false_ne_true
  | str i =>
    obtain ⟨t, rfl⟩ := rx
    cases y with
    | non => cases ry; exact PySem.EqNone.eq_str_none (fin_bl I q (by simp))
    | bl j => cases ry; exact PySem.EqMixed.eq_str_bool (fin_bl I q (by simp))
    | int j => obtain ⟨t', rfl⟩ := ry; exact PySem.EqMixed.eq_str_int (fin_bl I q (by simp))
    | str j => obtain ⟨t', rfl⟩ := ry; exact eq_str (fin_bl I q dec_str)
    | _ => exact absurd (show false = true from hs) Bool.false_ne_true
  | byt i =>
    obtain ⟨t, rfl⟩ := rx
    cases y with
    | byt j => obtain ⟨t', rfl⟩ := ry; exact PySem.W.eq_bytes (fin_bl I q dec_byt)
    | _ => exact absurd (show false = true from hs) Bool.false_ne_true
  | _ => cases y <;> exact absurd (show false = true from hs) Bool.false_ne_true
theorem op_ne : OpR X (compareOp .NotEq) rNe := by
  intro pins s σ H x y v u Q I rx ry h
  obtain ⟨hs, q⟩ := h
  cases x with
  | non =>
    cases rx
    cases y with
    | non => cases ry; exact PySem.EqNone.ne_none_none (fin_bl I q (by simp))
    | bl j => cases ry; exact PySem.EqNone.ne_none_bool (fin_bl I q (by simp))
    | int j => obtain ⟨t', rfl⟩ := ry; exact PySem.EqNone.ne_none_int (fin_bl I q (by simp))
    | str j => obtain ⟨t', rfl⟩ := ry; exact PySem.EqNone.ne_none_str (fin_bl I q (by simp))
    | _ => exact absurd (show false = true from hs) Bool.false_ne_true
  | bl i =>
    cases rx
    cases y with
    | non => cases ry; exact PySem.EqNone.ne_bool_none (fin_bl I q (by simp))
    | bl j => cases ry; exact ne_bool (fin_bl I q (congrArg not dec_bl))
    | str j => obtain ⟨t', rfl⟩ := ry; exact PySem.EqMixed.ne_bool_str (fin_bl I q (by simp))
    | _ => exact absurd (show false = true from hs) Bool.false_ne_true
  | int i =>
    obtain ⟨t, rfl⟩ := rx
    cases y with
    | non => cases ry; exact PySem.EqNone.ne_int_none (fin_bl I q (by simp))
    | int j => obtain ⟨t', rfl⟩ := ry; exact ne_int (fin_bl I q (congrArg not dec_int))
    | str j => obtain ⟨t', rfl⟩ := ry; exact PySem.EqMixed.ne_int_str (fin_bl I q (by simp))
    | _ => exact absurd (show false = true from hs) Bool.false_ne_true
  | str i =>
    obtain ⟨t, rfl⟩ := rx
    cases y with
    | non => cases ry; exact PySem.EqNone.ne_str_none (fin_bl I q (by simp))
    | bl j => cases ry; exact PySem.EqMixed.ne_str_bool (fin_bl I q (by simp))
    | int j => obtain ⟨t', rfl⟩ := ry; exact PySem.EqMixed.ne_str_int (fin_bl I q (by simp))
    | str j => obtain ⟨t', rfl⟩ := ry; exact ne_str (fin_bl I q (congrArg not dec_str))
    | _ => exact absurd (show false = true from hs) Bool.false_ne_true
  | byt i =>
    obtain ⟨t, rfl⟩ := rx
    cases y with
    | byt j => obtain ⟨t', rfl⟩ := ry; exact PySem.W.ne_bytes (fin_bl I q (congrArg not dec_byt))
    | _ => exact absurd (show false = true from hs) Bool.false_ne_true
  | _ => cases y <;> exact absurd (show false = true from hs) Bool.false_ne_true

theorem op_lt : OpR X (compareOp .Lt) (rI0 fun i j => .bl (decide (i < j))) := opB0 fun _ _ _ _ _ _ _ q => lt_int q
theorem op_gt : OpR X (compareOp .Gt) (rI0 fun i j => .bl (decide (j < i))) := opB0 fun _ _ _ _ _ _ _ q => gt_int q
theorem nomark (b : Expr) {op : CmpOp} (h : op ≠ .In := by decide) (h2 : op ≠ .NotIn := by decide) : behindInMarks op b = false := by
  have e1 : (op == CmpOp.In) = false := by cases op <;> first | rfl | exact absurd rfl h
  have e2 : (op == CmpOp.NotIn) = false := by cases op <;> first | rfl | exact absurd rfl h2
  cases b <;> simp [behindInMarks, e1, e2]
theorem pe_cmpR {op : CmpOp} {r : R2} (ho : OpR X (compareOp op) r) (ha : PE X a ta) (hb : PE X b tb) (hm : behindInMarks op b = false) : PE X (.Compare a [op] [b] pos) (tOp r ta tb) := by
  intro pins s σ H Q I h
  exact wpAny_Compare1 (binT ha hb I h fun v u s2 x y H2 I2 rx ry q => ho pins s2 σ H2 x y v u Q I2 rx ry q) hm
def tTest (t : TE) : TT := fun σ H Q => t σ H fun x H' => ∃ k, x = .bl k ∧ Q k H'
theorem pt_cmpR {op : CmpOp} {r : R2} (ho : OpR X (compareOp op) r) (ha : PE X a ta) (hb : PE X b tb) (hm : behindInMarks op b = false) : PT X (.Compare a [op] [b] pos) (tTest (tOp r ta tb)) := by
  intro pins s σ H Q I h
  refine wpAny_isTrue_Compare1 (thn (ha pins s σ H _ I h) fun v s1 ⟨x, H1, I1, r1, q1⟩ => thn (hb pins s1 σ H1 _ I1 q1) fun u s2 ⟨y, H2, I2, r2, q2⟩ =>
    thn (ho pins s2 σ H2 x y v u _ I2 r1 r2 q2) fun c s3 ⟨z, H3, I3, r3, k, e, q3⟩ => ?_) hm
  subst e
  cases r3
  exact wpAny_truthy_bool ⟨H3, I3, q3⟩
theorem line63 : (sizeLine : Nat) < 2 ^ 63 := by rw [sizeLine_eq]; decide
theorem vals1 {x : V} {us : List Value} (r : Vals [x] us) : ∃ u, us = [u] ∧ RelV x u := by
  cases r with
  | cons r1 r2 => cases r2; exact ⟨_, rfl, r1⟩
theorem vals2 {x y : V} {us : List Value} (r : Vals [x, y] us) : ∃ u w', us = [u, w'] ∧ RelV x u ∧ RelV y w' := by
  cases r with
  | cons r1 r2 =>
    cases r2 with
    | cons r3 r4 => cases r4; exact ⟨_, _, rfl, r1, r3⟩
theorem call_max2 (hc : X.calm = true) : CallR X (.builtin "max") (fun xs H Q => ∃ i j, xs = [.int i, .int j] ∧ Q (.int (if j > i then j else i)) H) := by
  intro pins s σ H xs us Q I r h
  obtain ⟨i, j, rfl, q⟩ := h
  obtain ⟨u, w', rfl, ⟨t, rfl⟩, ⟨t', rfl⟩⟩ := vals2 r
  refine max_two_ints (I.ok.hd hc) fun h' tk k => ⟨_, H, I.kept k, ?_, q⟩
  by_cases hj : j > i
  · rw [if_pos hj, if_pos hj]; exact ⟨_, rfl⟩
  · rw [if_neg hj, if_neg hj]; exact ⟨_, rfl⟩
end
end L2

namespace L2
open PySem PySem.Spec PyProof.Rows

structure ObjM (h : Heap) (x dx C : Addr) (mA : Str → Option Value) : Prop where
  obj : h.get? x = some (PySem.W.instObj C dx)
  ns : h.Ns1 dx mA
  ne : dx ≠ x

theorem lookIn_ns {h : Heap} {dx : Addr} {mA : Str → Option Value} (n : h.Ns1 dx mA) : ∃ od, h.get? dx = some od ∧ ∀ name, PySem.W.lookIn name od = some (mA name) := by
  obtain ⟨o, es, ep, ho, hd, hk, _, hm⟩ := n
  refine ⟨o, ho, fun name => ?_⟩
  have e := hm name
  unfold nsFind findBy at e
  rw [← Array.find?_toList] at e
  unfold PySem.W.lookIn
  rw [hd]
  dsimp only
  split
  · rename_i y q
    rw [q] at e
    exact congrArg some e
  · rename_i q
    rw [q] at e
    have a : es.toList.any (·.refKey) = false := by
      rw [List.any_eq_false]
      intro y hy
      obtain ⟨z, t, hkey⟩ := hk y (Array.mem_toList_iff.mp hy)
      simp [DictEntry.refKey, hkey]
    have a' : ¬ es.toList.any (·.refKey) = true := by rw [a]; exact Bool.false_ne_true
    rw [if_neg a']
    exact congrArg some e

theorem ObjM.look {h : Heap} {x dx C : Addr} {mA : Str → Option Value} (I : ObjM h x dx C mA) : ∃ od, PySem.W.InstAt h x (PySem.W.instObj C dx) C (some od) ∧ ∀ name, PySem.W.lookIn name od = some (mA name) :=
  let ⟨od, ho, hl⟩ := lookIn_ns I.ns
  ⟨od, ⟨I.obj, rfl, rfl, ho⟩, hl⟩

section
variable {prog : Program} {w : World} {A : Around} {E : Value → Shared → Prop} {s : Shared} {K : PySem.W.Frag} {x dx C f : Addr} {mA : Str → Option Value} {name : Str} {v : Value}

theorem get_map {expr : Bool} {Q : Value → Shared → Prop} (X : K.In s.heap) (I : ObjM s.heap x dx C mA) (hg : PySem.W.plainGet K C name = true) (hh : PySem.W.hasDictIn K C = true)
    (ha : PySem.W.findIn K (.ref C) name = some none) (hv : mA name = some v) (hv' : PySem.W.handedIn v = true) (h : Q v { s with toks := s.toks + 1 }) :
    wpAny (model prog w) A (getAttr (.ref x) name expr) Q E s := by
  obtain ⟨od, J, hl⟩ := I.look
  exact PySem.W.get_value X J (PySem.W.plainGet_of hg).1 (PySem.W.findObj_own hh ha rfl (by rw [hl, hv])) hv' h

theorem get_meth {pl : Sem Bool} {Q : Value × List Value → Shared → Prop} (X : K.In s.heap) (I : ObjM s.heap x dx C mA) (hg : PySem.W.plainGet K C name = true)
    (hf : PySem.W.findIn K (.ref C) name = some (some (.ref f))) (ht : PySem.W.isFn K (.ref f) = true) (hv : mA name = none) (h : Q (.ref f, [.ref x]) s) :
    wpAny (model prog w) A (getMethod (.ref x) name pl) Q E s := by
  obtain ⟨od, J, hl⟩ := I.look
  exact PySem.W.method_fn X J (PySem.W.plainGet_of hg).1 (PySem.W.plainGet_of hg).2 hf (beq_iff_eq.mp ht) (by show (PySem.W.lookIn name od).map (·.isSome) = some false; rw [hl, hv]; rfl) h

theorem set_map {ns : List Str} {Q : Unit → Shared → Prop} (X : K.In s.heap) (I : ObjM s.heap x dx C mA)
    (hs : PySem.W.findIn K (.ref C) "__setattr__" = some (some (.builtin "object.__setattr__"))) (hp : PySem.W.plainOver K C = true) (ht : PySem.W.takerIn K C name = some none) (hh : PySem.W.hasDictIn K C = true)
    (hw : PySem.Within mA ns) (hsz : ns.length ≤ sizeLine)
    (h : ∀ h', ObjM h' x dx C (fun y => if y = name then some v else mA y) → Heap.SameBut dx s.heap h' → Q () { s with heap := h', toks := s.toks + 2 }) :
    wpAny (model prog w) A (setAttr (.ref x) name v) Q E s := by
  obtain ⟨od, J, hl⟩ := I.look
  refine PySem.W.set_plain X J hs (PySem.W.osa_open (s := { s with toks := s.toks + 1 }) (r := none) X J hp ht fun b => ?_)
  obtain ⟨cd, hc, hd'⟩ := PySem.W.any_some hh
  have hx : s.heap.get? x = some ⟨.ref C, some dx, .plain, #[]⟩ := I.obj
  refine wpAny_bind (wpAny_pure (wpAny_bind (wpAny_bind (wpAny_loadPart hx (wpAny_bind (PySem.W.Looks.here (s := { s with toks := s.toks + 1 }) (PySem.W.looks_clsIn X hc) ?_))))))
  rw [hd']
  refine wpAny_pure (a := some dx) (wpAny_bind (wpAny_pure (wpAny_bind ?_)))
  refine wpAny_nsSet1 (s := { s with toks := s.toks + 1 }) I.ns fun h' hn2 hs2 => ?_
  obtain ⟨oD, esD, epD, hoD, hdD, hcD⟩ := hn2.count (PySem.Within.cons name v hw)
  refine wpAny_bind (wpAny_lookBehind hoD (by rw [hdD]; exact pastItsLine_dict (Nat.le_trans hcD (by rw [List.length_cons]; omega))) ?_)
  exact wpAny_pure (h _ ⟨(hs2.2 _ (Ne.symm I.ne)).trans I.obj, hn2, I.ne⟩ hs2)

theorem make_map {R : Result → Shared → Prop} {vs : List Value} {kw : List (Str × Value)} (X : K.In s.heap) (hm : PySem.W.makesIn K C = true)
    (hi : PySem.W.findIn K (.ref C) "__init__" = some (some (.ref f))) (hf : PySem.W.typeIn K (.ref f) = some (.type "function"))
    (h : codeAny (model prog w) (A.under (.builtin "type.__call__" ⟨.ref C :: vs, kw⟩)) (.call (.ref f) ⟨.ref (s.heap.objs.size + 1) :: vs, kw⟩) (PySem.W.InitBack (s.heap.objs.size + 1) R)
      { s with heap := (s.heap.push PySem.W.emptyDict).push (PySem.W.instObj C s.heap.objs.size) }) :
    codeAny (model prog w) A (.call (.ref C) ⟨vs, kw⟩) R s := by
  obtain ⟨hh, g, d, t, os⟩ := s
  exact PySem.W.make_core (PySem.W.makes_of X hm) (PySem.W.looks_findIn X hi) (fun self => PySem.W.bind_fn X self hf) (.inl rfl) h
end

def putF (f : Str) (v : V) : List (Str × V) → List (Str × V)
  | [] => [(f, v)]
  | (g, x) :: r => if g = f then (g, v) :: r else (g, x) :: putF f v r
theorem lookup_putF (f g : Str) (v : V) : ∀ fs : List (Str × V), (putF f v fs).lookup g = if g = f then some v else fs.lookup g
  | [] => by
    show List.lookup g [(f, v)] = _
    by_cases h : g = f
    · have hb : (g == f) = true := beq_iff_eq.mpr h
      simp only [List.lookup, hb, if_pos h]
    · have hb : (g == f) = false := beq_eq_false_iff_ne.mpr h
      simp only [List.lookup, hb, if_neg h]
  | (k, x) :: r => by
    have ih := lookup_putF f g v r
    rw [show putF f v ((k, x) :: r) = (if k = f then (k, v) :: r else (k, x) :: putF f v r) from rfl]
    by_cases hk : k = f
    · rw [if_pos hk]
      by_cases h : g = k
      · have hb : (g == k) = true := beq_iff_eq.mpr h
        simp only [List.lookup, hb, if_pos (h.trans hk)]
      · have hb : (g == k) = false := beq_eq_false_iff_ne.mpr h
        simp only [List.lookup, hb, if_neg (fun e : g = f => h (e.trans hk.symm))]
    · rw [if_neg hk]
      by_cases h : g = k
      · have hb : (g == k) = true := beq_iff_eq.mpr h
        simp only [List.lookup, hb, if_neg (fun e : g = f => hk (h.symm.trans e))]
      · have hb : (g == k) = false := beq_eq_false_iff_ne.mpr h
        simp only [List.lookup, hb]
        exact ih
theorem keys_putF (f : Str) (v : V) : ∀ fs : List (Str × V), f ∈ (putF f v fs).map (·.1) ∧ ∀ g, g ∈ fs.map (·.1) → g ∈ (putF f v fs).map (·.1)
  | [] => ⟨by simp [putF], fun g h => by simp at h⟩
  | (k, x) :: r => by
    obtain ⟨i1, i2⟩ := keys_putF f v r
    rw [show putF f v ((k, x) :: r) = (if k = f then (k, v) :: r else (k, x) :: putF f v r) from rfl]
    by_cases hk : k = f
    · rw [if_pos hk]
      subst hk
      exact ⟨by simp, fun g h => by simpa using h⟩
    · rw [if_neg hk]
      refine ⟨?_, fun g h => ?_⟩
      · rw [List.map_cons]
        exact List.mem_cons_of_mem _ i1
      · rw [List.map_cons] at h ⊢
        rcases List.mem_cons.mp h with e | e
        · exact List.mem_cons.mpr (.inl e)
        · exact List.mem_cons_of_mem _ (i2 g e)
theorem length_putF (f : Str) (v : V) : ∀ fs : List (Str × V), (putF f v fs).length ≤ fs.length + 1
  | [] => by simp [putF]
  | (k, x) :: r => by
    have ih := length_putF f v r
    rw [show putF f v ((k, x) :: r) = (if k = f then (k, v) :: r else (k, x) :: putF f v r) from rfl]
    by_cases hk : k = f
    · rw [if_pos hk, List.length_cons, List.length_cons]; omega
    · rw [if_neg hk, List.length_cons, List.length_cons]; omega

theorem RelO.some_of {v : V} {o : Option Value} (r : RelO (some v) o) : ∃ u, o = some u ∧ RelV v u := by
  cases o with
  | none => exact (show False from r).elim
  | some u => exact ⟨u, rfl, r⟩
theorem RelO.none_of {o : Option Value} (r : RelO none o) : o = none := by
  cases o with
  | none => rfl
  | some u => exact (show False from r).elim
theorem handed_of {v : V} {u : Value} (r : RelV v u) : PySem.W.handedIn u = true := by
  cases v with
  | non => cases (show u = Value.none from r); rfl
  | bl b => cases (show u = Value.bool b from r); rfl
  | int i => obtain ⟨t, e⟩ := (show ∃ t, u = Value.int i t from r); cases e; rfl
  | str x => obtain ⟨t, e⟩ := (show ∃ t, u = Value.str x t from r); cases e; rfl
  | byt b => obtain ⟨t, e⟩ := (show ∃ t, u = Value.bytes b t from r); cases e; rfl
  | flt b => obtain ⟨t, e⟩ := (show ∃ t, u = Value.float b t from r); cases e; rfl
  | ref a => cases (show u = Value.ref a from r); rfl
  | ty n => cases (show u = Value.type n from r); rfl

section
variable {P : Program} {w : World} {H H' : Hp} {h h' : Heap} {a C dx : Addr} {fs fs' : List (Str × V)}
theorem ins_get (hok : HOk P w H h) (e : H a = some (.ins C dx fs)) : ∃ mA, ObjM h a dx C mA ∧ (∀ f, RelO (fs.lookup f) (mA f)) ∧ PySem.Within mA (fs.map (·.1)) ∧ fs.length ≤ 1000 ∧ H dx = some (.own a) := by
  obtain ⟨d, z, ne, ob, mA, n, r, q⟩ := (show ObjOk P w H h a (.ins C dx fs) from hok a _ e)
  exact ⟨mA, ⟨ob, n, ne⟩, r, q, z, d⟩
end

structure Cls (K : PySem.W.Frag) (C : Addr) : Prop where
  pg : PySem.W.plainGet K C Str.empty = true
  hd : PySem.W.hasDictIn K C = true
  po : PySem.W.plainOver K C = true
  sa : PySem.W.findIn K (.ref C) "__setattr__" = some (some (.builtin "object.__setattr__"))
theorem Cls.get {K : PySem.W.Frag} {C : Addr} (c : Cls K C) (f : Str) : PySem.W.plainGet K C f = true := c.pg
def NoAttr (K : PySem.W.Frag) (C : Addr) (f : Str) : Prop := PySem.W.findIn K (.ref C) f = some none
theorem NoAttr.taker {K : PySem.W.Frag} {C : Addr} {f : Str} (n : NoAttr K C f) : PySem.W.takerIn K C f = some none := by
  unfold PySem.W.takerIn
  rw [show PySem.W.findIn K (.ref C) f = some none from n]
  rfl
structure Con (K : PySem.W.Frag) (C : Addr) (f : Str) (v : V) (u : Value) : Prop where
  at_ : PySem.W.findIn K (.ref C) f = some (some u)
  rel : RelV v u
  get : PySem.W.specialIn K u "__get__" = some none
  cp : PySem.W.copiedNames.contains f = false
structure Meth (K : PySem.W.Frag) (C : Addr) (m : Str) (f : Addr) : Prop where
  at_ : PySem.W.findIn K (.ref C) m = some (some (.ref f))
  fn : PySem.W.isFn K (.ref f) = true
  kp : PySem.W.keepIn K (.ref f) = true

section
variable {X : Cx} {pins : List (Addr × Obj)} {σ : St} {H : Hp} {s : Shared} {a C dx : Addr} {fs : List (Str × V)} {f : Str} {v : V} {A : Around} {E : Value → Shared → Prop}

theorem getattr_ok {b : Bool} {Q : Value → Shared → Prop} (I : Inv X pins σ H s) (e : H a = some (.ins C dx fs)) (c : Cls X.K C) (n : NoAttr X.K C f) (l : fs.lookup f = some v)
    (h : ∀ u s', Inv X pins σ H s' → RelV v u → Q u s') : wpAny (model X.prog X.w) A (getAttr (.ref a) f b) Q E s := by
  obtain ⟨mA, O, r, _, _, _⟩ := ins_get I.hok e
  obtain ⟨u, hu, ru⟩ := RelO.some_of (v := v) (o := mA f) (by rw [← l]; exact r f)
  exact get_map I.kIn O (c.get f) c.hd n hu (handed_of ru) (h u _ (I.tok _) ru)

theorem getmeth_ok {m : Str} {g : Addr} {pl : Sem Bool} {Q : Value × List Value → Shared → Prop} (I : Inv X pins σ H s) (e : H a = some (.ins C dx fs)) (c : Cls X.K C) (k : Meth X.K C m g) (l : fs.lookup m = none)
    (h : Q (.ref g, [.ref a]) s) : wpAny (model X.prog X.w) A (getMethod (.ref a) m pl) Q E s := by
  obtain ⟨mA, O, r, _, _, _⟩ := ins_get I.hok e
  have hn : mA m = none := RelO.none_of (by rw [← l]; exact r m)
  exact get_meth I.kIn O (c.get m) k.at_ k.fn hn h

theorem setattr_ok {y : V} {u : Value} {Q : Unit → Shared → Prop} (I : Inv X pins σ H s) (e : H a = some (.ins C dx fs)) (c : Cls X.K C) (n : NoAttr X.K C f) (hl : fs.length < 1000) (ry : RelV y u)
    (h : ∀ s', Inv X pins σ (upd H a (.ins C dx (putF f y fs))) s' → Q () s') : wpAny (model X.prog X.w) A (setAttr (.ref a) f u) Q E s := by
  obtain ⟨mA, O, r, wi, _, ho⟩ := ins_get I.hok e
  have hz : (fs.map (·.1)).length ≤ sizeLine := by rw [List.length_map, sizeLine_eq]; omega
  refine set_map I.kIn O c.sa c.po n.taker c.hd wi hz fun h' O' sb => h _ ?_
  have hd : ∃ o, h'.get? dx = some o := let ⟨o, _, _, e', _⟩ := O'.ns; ⟨o, e'⟩
  refine I.write (x := a) (e := dx) (by rw [e]; exact True.intro) (.inr ho) (fun b q hb z => (sb.2 b hb).trans z) hd ?_
  refine ⟨by rw [upd_ne O.ne]; exact ho, ?_, O.ne, O'.obj, _, O'.ns, fun g => ?_, fun g hg => ?_⟩
  · have := length_putF f y fs; omega
  · show RelO ((putF f y fs).lookup g) (if g = f then some u else mA g)
    rw [lookup_putF]
    by_cases q : g = f
    · rw [if_pos q, if_pos q]; exact ry
    · rw [if_neg q, if_neg q]; exact r g
  · by_cases q : g = f
    · rw [q]; exact (keys_putF f y fs).1
    · refine (keys_putF f y fs).2 g (wi g fun z => hg ?_)
      show (if g = f then some u else mA g) = none
      rw [if_neg q]; exact z

theorem Inv.made (I : Inv X pins σ H s) : Inv X pins σ (upd (upd H s.heap.objs.size (.own (s.heap.objs.size + 1))) (s.heap.objs.size + 1) (.ins C s.heap.objs.size []))
    { s with heap := (s.heap.push PySem.W.emptyDict).push (PySem.W.instObj C s.heap.objs.size) } := by
  have e1 : (s.heap.push PySem.W.emptyDict).get? s.heap.objs.size = some PySem.W.emptyDict := Heap.get?_push_size s.heap rfl
  have e2 : ((s.heap.push PySem.W.emptyDict).push (PySem.W.instObj C s.heap.objs.size)).get? (s.heap.objs.size + 1) = some (PySem.W.instObj C s.heap.objs.size) := by
    have := Heap.get?_push_size (s.heap.push PySem.W.emptyDict) (o := PySem.W.instObj C s.heap.objs.size) rfl
    rwa [Heap.size_push] at this
  have e3 : (s.heap.push PySem.W.emptyDict).Ns s.heap.objs.size (fun _ => none) := ⟨PySem.W.emptyDict, #[], _, e1, rfl, (fun e he => absurd he (by simp)), fun _ => rfl⟩
  have I1 := I.laid (a := s.heap.objs.size) (o := .own (s.heap.objs.size + 1)) (h' := s.heap.push PySem.W.emptyDict) (t' := s.toks) (fun b u q => Heap.get?_push_of_some _ q) (Nat.le_refl _) ⟨_, e1⟩
  refine I1.laid (a := s.heap.objs.size + 1) (o := .ins C s.heap.objs.size []) (t' := s.toks) (fun b u q => Heap.get?_push_of_some _ q) (Nat.le_of_eq (Heap.size_push _ _)) ?_
  have ne : s.heap.objs.size ≠ s.heap.objs.size + 1 := Nat.ne_of_lt (Nat.lt_succ_self _)
  refine ⟨by rw [upd_ne ne, upd_same], Nat.zero_le _, ne, e2, fun _ => none, (Heap.Ns1.of_empty e3).at fun o q => Heap.get?_push_of_some _ q, fun _ => True.intro, fun y hy => absurd rfl hy⟩

theorem attr_of {prog : Program} {w : World} {env : Env} {e : Expr} {f : Str} {pos : Pos} {s : Shared} {Q : Value → Shared → Prop} (hb : attributeBase e f env (eval e env) = eval e env)
    (h : wpAny (model prog w) A (eval e env) (fun o s₁ => wpAny (model prog w) A (getAttr o f true) Q E s₁) E s) : wpAny (model prog w) A (eval (.Attribute e f pos) env) Q E s :=
  Attribute_any_ h (by rw [arm_eval_Attribute, hb])
end

def tFld (K : PySem.W.Frag) (ta : TE) (f : Str) : TE := fun σ H Q => ta σ H fun x H1 => ∃ a C dx fs v, x = .ref a ∧ H1 a = some (.ins C dx fs) ∧ Cls K C ∧ NoAttr K C f ∧ fs.lookup f = some v ∧ Q v H1
def sFld (K : PySem.W.Frag) (ta tv : TE) (f : Str) : TS := fun D σ H => tv σ H fun y H1 => ta σ H1 fun x H2 => ∃ a C dx fs, x = .ref a ∧ H2 a = some (.ins C dx fs) ∧ Cls K C ∧ NoAttr K C f ∧ fs.length < 1000 ∧
  D.nx σ (upd H2 a (.ins C dx (putF f y fs)))
section
variable {X : Cx} {o e value : Expr} {f : Str} {pos pos' tpos : Pos} {ta tv : TE}
theorem pe_fld (he : PE X e ta) (hb : attributeBase e f X.env (eval e X.env) = eval e X.env) : PE X (.Attribute e f pos) (tFld X.K ta f) := by
  intro pins s σ H Q I h
  refine attr_of hb (thn (he pins s σ H _ I h) fun u s1 ⟨x, H1, I1, rx, a, C, dx, fs, v, ex, ea, c, n, l, q⟩ => ?_)
  subst ex
  obtain rfl : u = Value.ref a := rx
  exact getattr_ok I1 ea c n l fun u' s2 I2 ru => ⟨v, H1, I2, ru, q⟩
theorem ps_fld (ha : PE X o ta) (hv : PE X value tv) (hs : swapsWith value (some (.Attribute o f pos')) pos.line X.env = pure false) : PS X (.Assign [.Attribute o f pos'] value pos) (sFld X.K ta tv f) := by
  intro pins s σ H D I h
  refine plainObj_wpAny_Assign_Attribute (thn (hv pins s σ H _ I h) fun u s1 ⟨y, H1, I1, ry, q⟩ => thn (ha pins s1 σ H1 _ I1 q) fun ov s2 ⟨x, H2, I2, rx, a, C, dx, fs, ex, ea, c, n, l, q2⟩ => ?_) hs
  subst ex
  obtain rfl : ov = Value.ref a := rx
  exact setattr_ok I2 ea c n l ry fun s3 I3 => ⟨σ, _, I3, q2⟩
end

section
variable {X : Cx} {pins : List (Addr × Obj)} {σ : St} {H : Hp} {s : Shared} {A : Around} {E : Value → Shared → Prop} {Q : Value → Shared → Prop} {c : Value} {b : Bool}
inductive TyOf (K : PySem.W.Frag) (H : Hp) : V → Value → Prop where
  | non : TyOf K H .non (.type "NoneType")
  | bl (x : Bool) : TyOf K H (.bl x) (.type "bool")
  | int (i : Int) : TyOf K H (.int i) (.type "int")
  | str (x : Str) : TyOf K H (.str x) (.type "str")
  | flt (x : UInt64) : TyOf K H (.flt x) (.type "float")
  | lst {a : Addr} {xs : List V} (e : H a = some (.lst xs)) : TyOf K H (.ref a) (.type "list")
  | frz {a : Addr} {o : Obj} {xs : List V} (e : H a = some (.frz o (.lst xs))) : TyOf K H (.ref a) (.type "list")
  | tup {a : Addr} {xs : List V} (e : H a = some (.tup xs)) : TyOf K H (.ref a) (.type "tuple")
  | dK {a : Addr} {kvs : List (Key × V)} (e : H a = some (.dK kvs)) : TyOf K H (.ref a) (.type "dict")
  | dT {a : Addr} {kvs : List (List Key × V)} (e : H a = some (.dT kvs)) : TyOf K H (.ref a) (.type "dict")
  | ins {a C dx : Addr} {fs : List (Str × V)} (e : H a = some (.ins C dx fs)) (cl : Cls K C) (ha : PySem.W.findIn K (.ref C) "__class__" = some (some (.builtin "object.__class__")))
      (hn : PySem.W.specialIn K (.builtin "object.__class__") "__get__" = some (some (.builtin "getset_descriptor.__get__"))) (htk : PySem.W.takesIn K (.builtin "object.__class__") = some true)
      (hm : PySem.W.mroIn K C (.type "object") = some true) : TyOf K H (.ref a) (.ref C)
theorem isinst_ok {x : V} {u t : Value} (I : Inv X pins σ H s) (rx : RelV x u) (ty : TyOf X.K H x t) (e : PySem.W.kitOne X.K t c = some b) (h : ∀ tk, Q (.bool b) { s with toks := tk }) :
    wpAny (model X.prog X.w) A (call (.builtin "isinstance") [u, c]) Q E s := by
  cases ty with
  | non => cases (show u = Value.none from rx); exact PySem.W.kia_one PySem.W.kitx_none I.kIn True.intro e (fun z => nomatch z) h
  | bl y => cases (show u = Value.bool y from rx); exact PySem.W.kia_one PySem.W.kitx_bool I.kIn True.intro e (fun z => nomatch z) h
  | int i => obtain ⟨t, q⟩ := (show ∃ t, u = Value.int i t from rx); cases q; exact PySem.W.kia_one PySem.W.kitx_int I.kIn True.intro e (fun z => nomatch z) h
  | str y => obtain ⟨t, q⟩ := (show ∃ t, u = Value.str y t from rx); cases q; exact PySem.W.kia_one PySem.W.kitx_str I.kIn True.intro e (fun z => nomatch z) h
  | flt y => obtain ⟨t, q⟩ := (show ∃ t, u = Value.float y t from rx); cases q; exact PySem.W.kia_one PySem.W.kitx_float I.kIn True.intro e (fun z => nomatch z) h
  | @lst a xs ea =>
    cases (show u = Value.ref a from rx)
    obtain ⟨_, _, n, _, h1⟩ := (show ObjOk X.prog X.w H s.heap a (.lst xs) from I.hok a _ ea)
    exact PySem.W.kia_one PySem.W.kitx_list I.kIn ⟨_, h1, rfl⟩ e (fun z => nomatch z) h
  | @frz a ob xs ea =>
    cases (show u = Value.ref a from rx)
    obtain ⟨_, _, _, n, _, h1⟩ := (show ObjOk X.prog X.w H s.heap a (.frz ob (.lst xs)) from I.hok a _ ea)
    exact PySem.W.kia_one PySem.W.kitx_list I.kIn ⟨_, h1, rfl⟩ e (fun z => nomatch z) h
  | @tup a xs ea =>
    cases (show u = Value.ref a from rx)
    obtain ⟨_, _, _, p⟩ := (show ObjOk X.prog X.w H s.heap a (.tup xs) from I.hok a _ ea)
    obtain ⟨o, h1, h2, _⟩ := p
    exact PySem.W.kia_one PySem.W.kitx_tuple I.kIn ⟨o, h1, h2⟩ e (fun z => nomatch z) h
  | @dK a kvs ea =>
    cases (show u = Value.ref a from rx)
    obtain ⟨_, _, vs, _, p⟩ := (show ObjOk X.prog X.w H s.heap a (.dK kvs) from I.hok a _ ea)
    obtain ⟨o, es, ep, h1, h2, _⟩ := p
    exact PySem.W.kia_one PySem.W.kitx_dict I.kIn ⟨o, h1, h2.1⟩ e (fun z => nomatch z) h
  | @dT a kvs ea =>
    cases (show u = Value.ref a from rx)
    obtain ⟨_, _, xs, _, o, es, ep, h1, h2, _⟩ := (show ObjOk X.prog X.w H s.heap a (.dT kvs) from I.hok a _ ea)
    exact PySem.W.kia_one PySem.W.kitx_dict I.kIn ⟨o, h1, h2.1⟩ e (fun z => nomatch z) h
  | @ins a C dx fs ea cl ha hn htk hm =>
    cases (show u = Value.ref a from rx)
    obtain ⟨mA, O, _⟩ := ins_get I.hok ea
    obtain ⟨od, J, _⟩ := O.look
    exact PySem.W.kia_one (PySem.W.kitx_own (cl.get _) cl.hd ha hn htk hm) I.kIn J e (fun z => nomatch z) h
end
end L2

namespace L2
open PySem PySem.Spec PyProof.Rows

structure Room (k : Nat) (A : Around) : Prop where
  hd : A.handled = none
  dp : A.depth + 3 * k + 5 < recursionLimit
  un : A.units + 16 * k + 200 < cLine
theorem Room.mono {j k : Nat} {A : Around} (r : Room k A) (h : j ≤ k) : Room j A := ⟨r.hd, by have := r.dp; omega, by have := r.un; omega⟩
theorem Room.deeper {k : Nat} {A : Around} (r : Room (k + 1) A) (env : Env) : Room k (A.deeper env) :=
  ⟨r.hd, by have := r.dp; show A.depth + 1 + 3 * k + 5 < _; omega, by have := r.un; show A.units + 3 + 16 * k + 200 < _; omega⟩
theorem make_depth {A : Around} {C : Addr} {us : List Value} {kw : List (Str × Value)} : (A.under (.builtin "type.__call__" ⟨.ref C :: us, kw⟩)).depth = A.depth + 1 := by
  first | rfl | simp [Around.under, Code.weight, Code.isCreation, Code.isGuard, Code.isCaller, Code.frames, Code.isFrame, guardIds]
theorem make_units {A : Around} {C : Addr} {us : List Value} {kw : List (Str × Value)} : (A.under (.builtin "type.__call__" ⟨.ref C :: us, kw⟩)).units = A.units + 1 := by
  first | rfl | simp [Around.under, Code.cUnits, Code.frames, Code.isFrame]
theorem Room.make {k : Nat} {A : Around} (r : Room (k + 1) A) (C : Addr) (us : List Value) (kw : List (Str × Value)) : Room k (A.under (.builtin "type.__call__" ⟨.ref C :: us, kw⟩)) :=
  ⟨r.hd, by have := r.dp; rw [make_depth]; omega, by have := r.un; rw [make_units]; omega⟩
theorem Room.depth {k : Nat} {A : Around} (r : Room k A) : A.depth < recursionLimit := by have := r.dp; omega
theorem Room.units {k : Nat} {A : Around} (r : Room k A) : A.units + 64 < cLine := by have := r.un; omega
theorem Room.units0 {k : Nat} {A : Around} (r : Room k A) : A.units < cLine := by have := r.un; omega

def tNil : TA := fun _ H Q => Q [] H
def tCons (ta : TE) (tr : TA) : TA := fun σ H Q => ta σ H fun x H1 => tr σ H1 fun xs H2 => Q (x :: xs) H2
section
variable {X : Cx} {e : Expr} {es : List Expr} {te : TE} {t : TA} {pos : Pos}
theorem pa_nil : PA X [] tNil := fun _ _ _ _ H Q I h => Calls.spliced_nil ⟨[], H, I, .nil, h⟩
theorem pa_cons (ha : PE X e te) (hr : PA X es t) (hs : starEach (e :: es) X.env = (false, eval e X.env) :: starEach es X.env := by rfl) : PA X (e :: es) (tCons te t) := by
  intro pos pins s σ H Q I h
  rw [hs]
  show wpAny _ _ (spliced ((false, eval e X.env) :: backTo pos (starEach es X.env))) _ _ s
  refine Calls.spliced_cons (thn (ha pins s σ H _ I h) fun u s1 ⟨x, H1, I1, r1, q1⟩ => ?_)
  exact thn (hr pos pins s1 σ H1 _ I1 q1) fun us s2 ⟨xs, H2, I2, r2, q2⟩ => ⟨x :: xs, H2, I2, .cons r1 r2, q2⟩

end

abbrev Sp := List V → Hp → VK → XK → Prop
abbrev CXT := List Env → Hp → Shared → XK → Value → Shared → Prop

structure Env0 (P : Program) (w : World) (K : PySem.W.Frag) (mg : Str → Option Value) (base : Heap) (A : Around) (outer : List Env) (s : Shared) (H : Hp) : Prop where
  frames : A.frames = some outer
  mod : Mod K mg base
  bs : ∀ b o, base.get? b = some o → s.heap.get? b = some o ∧ H b = none
  bsz : base.objs.size ≤ s.heap.objs.size
  funs : s.heap.FunFrames base outer
  frf : ∀ b ∈ frs outer, H b = none
  hok : HOk P w H s.heap
  bare : AllBare s.gens
def CE (outer : List Env) (P : Program) (w : World) (H : Hp) (s : Shared) (Q : VK) (u : Value) (s' : Shared) : Prop :=
  ∃ v H', s'.os = s.os ∧ AllBare s'.gens ∧ Un (frs outer) [] H H' s.heap s'.heap ∧ HOk P w H' s'.heap ∧ RelV v u ∧ Q v H'
def CR (CX : CXT) (outer : List Env) (P : Program) (w : World) (H : Hp) (s : Shared) (Q : VK) (E : XK) (r : Result) (s' : Shared) : Prop :=
  match r with
  | .ok (.ret u) => CE outer P w H s Q u s'
  | .ok _ => False
  | .error e => CX outer H s E e s'
structure FnOk (P : Program) (w : World) (K : PySem.W.Frag) (mg : Str → Option Value) (base : Heap) (CX : CXT) (k : Nat) (f : Addr) (fd : FuncData) (ps : List Str) (sp : Sp) : Prop where
  len : ∀ vs H Q E, sp vs H Q E → vs.length = ps.length
  run : ∀ (A : Around) (outer : List Env) (s : Shared) (H : Hp) (args : Args) (us : List Value) (vs : List V) (Q : VK) (E : XK), Room k A → Env0 P w K mg base A outer s H → BindsTo s fd args (ps.zip us) → Vals vs us → sp vs H Q E →
    codeAny (model P w) A (.call (.ref f) args) (CR CX outer P w H s Q E) s
theorem FnOk.imp {P : Program} {w : World} {K : PySem.W.Frag} {mg : Str → Option Value} {base : Heap} {CX : CXT} {k : Nat} {f : Addr} {fd : FuncData} {ps : List Str} {sp sp' : Sp} (F : FnOk P w K mg base CX k f fd ps sp)
    (h : ∀ vs H Q E, sp' vs H Q E → sp vs H Q E) : FnOk P w K mg base CX k f fd ps sp' :=
  ⟨fun vs H Q E q => F.len vs H Q E (h _ _ _ _ q), fun A outer s H args us vs Q E hr he hb hv hs => F.run A outer s H args us vs Q E hr he hb hv (h _ _ _ _ hs)⟩

theorem Env0.make {P : Program} {w : World} {K : PySem.W.Frag} {mg : Str → Option Value} {base : Heap} {A : Around} {outer : List Env} {s : Shared} {H : Hp} (e : Env0 P w K mg base A outer s H) (C : Addr) (us : List Value) (kw : List (Str × Value)) :
    Env0 P w K mg base (A.under (.builtin "type.__call__" ⟨.ref C :: us, kw⟩)) outer s H := ⟨by first | exact e.frames | (simpa [Around.under, Code.envs, Code.isFrame, pushEnvs] using e.frames), e.mod, e.bs, e.bsz, e.funs, e.frf, e.hok, e.bare⟩
section
variable {X : Cx} {pins : List (Addr × Obj)} {σ : St} {H : Hp} {s s' : Shared}
theorem Inv.env0 (I : Inv X pins σ H s) : Env0 X.prog X.w X.K X.mg X.base X.A X.stack s H :=
  ⟨I.ok.frames, I.ok.mod, I.bs, Nat.le_trans I.ok.bsz I.sz, I.stack, I.stkFree, I.hok, I.bare⟩
theorem Inv.after {Q : VK} {u : Value} (I : Inv X pins σ H s) (h : CE X.stack X.prog X.w H s Q u s') : EP X pins σ Q u s' := by
  obtain ⟨v, H', os, bare, un, hok, r, q⟩ := h
  obtain ⟨hh, g, d, t, os'⟩ := s'
  obtain rfl : os' = s.os := os
  exact ⟨v, H', I.call (h' := hh) (g' := g) (d' := d) (t' := t) (ch := []) un hok bare (fun b z => absurd z (by simp)), r, q⟩
end

def tCall (sp : Sp) (dvs : List V) (E : XK) (t : TA) : TE := fun σ H Q => t σ H fun vs H1 => sp (vs ++ dvs) H1 Q E
def tMeth (C : Addr) (m : Str) (sp : Sp) (dvs : List V) (E : XK) (ta : TE) (t : TA) : TE := fun σ H Q => ta σ H fun x H1 => ∃ a dx fs, x = .ref a ∧ H1 a = some (.ins C dx fs) ∧ fs.lookup m = none ∧
  t σ H1 fun vs H2 => sp (x :: (vs ++ dvs)) H2 Q E
def tMake (C : Addr) (sp : Sp) (dvs : List V) (E : XK) (t : TA) : TE := fun σ H Q => t σ H fun vs H1 => ∀ x dx, H1 x = none → H1 dx = none → dx ≠ x →
  sp (.ref x :: (vs ++ dvs)) (upd (upd H1 dx (.own x)) x (.ins C dx [])) (fun v H2 => v = .non ∧ Q (.ref x) H2) E

def Binds (K : PySem.W.Frag) (fd : FuncData) (ps : List Str) (ds : List Value) : Prop :=
  ∀ (s : Shared) (us : List Value), K.In s.heap → (us ++ ds).length = ps.length → BindsTo s fd ⟨us, []⟩ (ps.zip (us ++ ds))
theorem Binds.all {K : PySem.W.Frag} {fd : FuncData} {ps : List Str} (h : ∀ us : List Value, us.length = ps.length → bindArgs fd ⟨us, []⟩ = pure (ps.zip us)) : Binds K fd ps [] := fun s us _ hl => by
  rw [List.append_nil] at hl ⊢
  exact .of_eq (h us hl)

def Passes (CX : CXT) (X : Cx) (E : XK) : Prop := ∀ (pins : List (Addr × Obj)) (σ : St) (H : Hp) (s : Shared) (e : Value) (s' : Shared), Inv X pins σ H s → CX X.stack H s E e s' → X.xe e s'

section
variable {X : Cx} {CX : CXT} {k : Nat} {f C : Addr} {fd : FuncData} {ps : List Str} {sp : Sp} {dvs : List V} {ds : List Value} {E : XK} {x m : Str} {p pos apos : Pos} {e o : Expr} {es : List Expr} {ta : TE} {t : TA}

theorem run_fn {pins : List (Addr × Obj)} {σ : St} {H : Hp} {s : Shared} {Q : VK} {us : List Value} {vs : List V} (F : FnOk X.prog X.w X.K X.mg X.base CX k f fd ps sp) (hr : Room k X.A) (hb : Binds X.K fd ps ds) (hd : Vals dvs ds) (hx : Passes CX X E)
    (I : Inv X pins σ H s) (r : Vals vs us) (h : sp (vs ++ dvs) H Q E) : wpAny (model X.prog X.w) X.A (call (.ref f) us) (EP X pins σ Q) X.xe s := by
  have r2 : Vals (vs ++ dvs) (us ++ ds) := r.append hd
  have hl : (us ++ ds).length = ps.length := by rw [← r2.length]; exact F.len _ _ _ _ h
  refine wpAny_call (codeAny_mono (F.run X.A X.stack s H ⟨us, []⟩ (us ++ ds) (vs ++ dvs) Q E hr I.env0 (hb s us I.kIn hl) r2 h) fun r s' hq => ?_)
  cases r with
  | error e => exact hx pins σ H s e s' I hq
  | ok fl =>
    cases fl with
    | ret u => exact I.after hq
    | next => exact False.elim hq
    | brk => exact False.elim hq
    | cont => exact False.elim hq

theorem pe_call (F : FnOk X.prog X.w X.K X.mg X.base CX k f fd ps sp) (hr : Room k X.A) (hg : Gl X x) (hm : X.mg x = some (.ref f)) (hk : PySem.W.keepIn X.K (.ref f) = true) (hb : Binds X.K fd ps ds) (hd : Vals dvs ds) (hx : Passes CX X E)
    (ha : PA X (e :: es) t) (hdb : (x == ("__debug__" : Str)) = false := by decide) (he : starEach (e :: es) X.env = (false, eval e X.env) :: starEach es X.env := by rfl) (hpl : (backTo pos (starEach es X.env)).any (·.1) = false := by rfl) :
    PE X (.Call (.Name x p) (e :: es) [] pos) (tCall sp dvs E t) := by
  intro pins s σ H Q I h
  refine wpAny_Call_Name_kw (ld_glob I hg hm ?_ hdb)
  refine PySem.W.callWith_K (h₀ := X.base) I.ok.mod.kin hk (thn (ha pos pins s σ H _ I h) fun us s1 ⟨vs, H1, I1, r, q⟩ => ⟨I1.kIn, ?_⟩) he hpl
  exact run_fn F hr hb hd hx I1 r q
theorem pe_meth {pl : Sem Bool} (he : PE X o ta) (c : Cls X.K C) (hm : Meth X.K C m f) (F : FnOk X.prog X.w X.K X.mg X.base CX k f fd ps sp) (hr : Room k X.A) (hb : Binds X.K fd ps ds) (hd : Vals dvs ds) (hx : Passes CX X E) (ha : PA X (e :: es) t)
    (hst : starEach (e :: es) X.env = (false, eval e X.env) :: starEach es X.env := by rfl) (hpl : (backTo pos (starEach es X.env)).any (·.1) = false := by rfl)
    (ht : eval (.Call (.Attribute o m apos) (e :: es) [] pos) X.env = (do
      let ov ← eval o X.env
      standAt apos.atName
      let (f, first) ← holding [ov] (getMethod ov m pl)
      callWith pos f first (backTo pos (starEach (e :: es) X.env)) (backToKw pos (keywordEach [] X.env))) := by rfl) :
    PE X (.Call (.Attribute o m apos) (e :: es) [] pos) (tMeth C m sp dvs E ta t) := by
  intro pins s σ H Q I h
  refine PySem.W.methodCall_KW (pl := pl) (thn (he pins s σ H _ I h) fun u s1 ⟨x, H1, I1, rx, a, dx, fs, ex, ea, l, q⟩ => ?_) ht
  subst ex
  obtain rfl : u = Value.ref a := rx
  refine getmeth_ok I1 ea c hm l ?_
  refine PySem.W.callWith_K (first := [.ref a]) (h₀ := X.base) I.ok.mod.kin hm.kp (thn (ha pos pins s1 σ H1 _ I1 q) fun us s2 ⟨vs, H2, I2, r, q2⟩ => ⟨I2.kIn, ?_⟩) hst hpl
  exact run_fn (us := .ref a :: us) (vs := .ref a :: vs) F hr hb hd hx I2 (.cons rfl r) q2
theorem pe_meth0 {pl : Sem Bool} (he : PE X o ta) (c : Cls X.K C) (hm : Meth X.K C m f) (F : FnOk X.prog X.w X.K X.mg X.base CX k f fd ps sp) (hr : Room k X.A) (hb : Binds X.K fd ps ds) (hd : Vals dvs ds) (hx : Passes CX X E)
    (ht : eval (.Call (.Attribute o m apos) [] [] pos) X.env = (do
      let ov ← eval o X.env
      standAt apos.atName
      let (f, first) ← holding [ov] (getMethod ov m pl)
      callWith pos f first (backTo pos (starEach [] X.env)) (backToKw pos (keywordEach [] X.env))) := by rfl) :
    PE X (.Call (.Attribute o m apos) [] [] pos) (tMeth C m sp dvs E ta tNil) := by
  intro pins s σ H Q I h
  refine PySem.W.methodCall_KW (pl := pl) (thn (he pins s σ H _ I h) fun u s1 ⟨x, H1, I1, rx, a, dx, fs, ex, ea, l, q⟩ => ?_) ht
  subst ex
  obtain rfl : u = Value.ref a := rx
  refine getmeth_ok I1 ea c hm l ?_
  exact PySem.W.callWith_K0 (first := [.ref a]) I1.kIn hm.kp (run_fn (us := [.ref a]) (vs := [.ref a]) F hr hb hd hx I1 (.cons rfl .nil) q)

structure Mk (K : PySem.W.Frag) (C f : Addr) : Prop where
  makes : PySem.W.makesIn K C = true
  init : PySem.W.findIn K (.ref C) "__init__" = some (some (.ref f))
  fn : PySem.W.isFn K (.ref f) = true
  kp : PySem.W.keepIn K (.ref C) = true

theorem run_make {pins : List (Addr × Obj)} {σ : St} {H : Hp} {s : Shared} {Q : VK} {us : List Value} {vs : List V} (M : Mk X.K C f) (F : FnOk X.prog X.w X.K X.mg X.base CX k f fd ps sp) (hr : Room (k + 1) X.A) (hb : Binds X.K fd ps ds) (hd : Vals dvs ds)
    (hx : Passes CX X E) (I : Inv X pins σ H s) (r : Vals vs us)
    (h : ∀ x dx, H x = none → H dx = none → dx ≠ x → sp (.ref x :: (vs ++ dvs)) (upd (upd H dx (.own x)) x (.ins C dx [])) (fun v H2 => v = .non ∧ Q (.ref x) H2) E) :
    wpAny (model X.prog X.w) X.A (call (.ref C) us) (EP X pins σ Q) X.xe s := by
  have hq := h (s.heap.objs.size + 1) s.heap.objs.size (I.hok.fresh (Nat.le_succ _)) (I.hok.fresh (Nat.le_refl _)) (Nat.ne_of_lt (Nat.lt_succ_self _))
  have I2 := Inv.made (C := C) I
  have r2 : Vals (V.ref (s.heap.objs.size + 1) :: (vs ++ dvs)) (Value.ref (s.heap.objs.size + 1) :: (us ++ ds)) := .cons rfl (r.append hd)
  have hl : (Value.ref (s.heap.objs.size + 1) :: us ++ ds).length = ps.length := by
    have e := r2.length
    rw [F.len _ _ _ _ hq] at e
    exact e.symm
  refine wpAny_call (make_map (f := f) I.kIn M.makes M.init (beq_iff_eq.mp M.fn) (codeAny_mono (F.run _ X.stack _ _ ⟨Value.ref (s.heap.objs.size + 1) :: us, []⟩ (Value.ref (s.heap.objs.size + 1) :: (us ++ ds)) _ _ E (hr.make C us [])
    (I2.env0.make C us []) (hb _ (Value.ref (s.heap.objs.size + 1) :: us) I2.kIn hl) r2 hq) fun r s' hq' => ?_))
  cases r with
  | error e => exact hx pins σ _ _ e s' I2 hq'
  | ok fl =>
    cases fl with
    | ret u =>
      obtain ⟨v, H', I3, rv, ev, q3⟩ := I2.after hq'
      subst ev
      exact ⟨rv, ⟨V.ref (s.heap.objs.size + 1), H', I3, rfl, q3⟩⟩
    | next => exact False.elim hq'
    | brk => exact False.elim hq'
    | cont => exact False.elim hq'
theorem pe_make (M : Mk X.K C f) (F : FnOk X.prog X.w X.K X.mg X.base CX k f fd ps sp) (hr : Room (k + 1) X.A) (hg : Gl X x) (hm : X.mg x = some (.ref C)) (hb : Binds X.K fd ps ds) (hd : Vals dvs ds) (hx : Passes CX X E)
    (ha : PA X (e :: es) t) (hdb : (x == ("__debug__" : Str)) = false := by decide) (he : starEach (e :: es) X.env = (false, eval e X.env) :: starEach es X.env := by rfl) (hpl : (backTo pos (starEach es X.env)).any (·.1) = false := by rfl) :
    PE X (.Call (.Name x p) (e :: es) [] pos) (tMake C sp dvs E t) := by
  intro pins s σ H Q I h
  refine wpAny_Call_Name_kw (ld_glob I hg hm ?_ hdb)
  refine PySem.W.callWith_K (h₀ := X.base) I.ok.mod.kin M.kp (thn (ha pos pins s σ H _ I h) fun us s1 ⟨vs, H1, I1, r, q⟩ => ⟨I1.kIn, ?_⟩) he hpl
  exact run_make M F hr hb hd hx I1 r q
end

section
variable {X : Cx} {CX : CXT} {k : Nat} {f C : Addr} {fd : FuncData} {ps ks : List Str} {sp : Sp} {E : XK} {x m : Str} {p pos apos kpos : Pos} {e o : Expr} {es : List Expr} {kws : List Keyword} {te ta : TE} {t tk : TA} {nm : Option Str}
structure KBinds (K : PySem.W.Frag) (fd : FuncData) (ps ks : List Str) (g : List Value → List Value → List Value) (gV : List V → List V → List V) : Prop where
  to : ∀ (s : Shared) (us ws : List Value), K.In s.heap → (g us ws).length = ps.length → BindsTo s fd ⟨us, ks.zip ws⟩ (ps.zip (g us ws))
  rel : ∀ {vs : List V} {us : List Value} {zs : List V} {ws : List Value}, Vals vs us → Vals zs ws → Vals (gV vs zs) (g us ws)
variable {g : List Value → List Value → List Value} {gV : List V → List V → List V}
end

structure FnScope (N P : List Str) (sc : Scope) : Prop where
  kind : sc.kind = .function
  co : sc.isCoroutine = false
  gen : sc.isGenerator = false
  nd : N.Nodup
  pre : N.take P.length = P
  par : ∀ x ∈ P, sc.names.lookup x = some .local ∨ sc.names.lookup x = some .cell
  nofree : ∀ y ∈ sc.names, y.2 ≠ .free

theorem bindL_out {kindOf : Str → Option NameKind} {x : Str} : ∀ {binds : List (Str × Value)} {m : Str → Option Value}, (∀ v, (x, v) ∉ binds) → bindL kindOf binds m x = m x
  | [], _, _ => rfl
  | (n, v) :: r, m, h => by
    unfold bindL
    rw [bindL_out fun w hw => h w (List.mem_cons_of_mem _ hw)]
    split
    · have : x ≠ n := by rintro rfl; exact h v List.mem_cons_self
      simp [this]
    · rfl
theorem bindC_out {kindOf : Str → Option NameKind} {x : Str} : ∀ {binds : List (Str × Value)} {m : Str → Option Value}, (∀ v, (x, v) ∉ binds) → bindC kindOf binds m x = m x
  | [], _, _ => rfl
  | (n, v) :: r, m, h => by
    unfold bindC
    rw [bindC_out fun w hw => h w (List.mem_cons_of_mem _ hw)]
    split
    · rfl
    · have : x ≠ n := by rintro rfl; exact h v List.mem_cons_self
      simp [this]
theorem bindL_get {kindOf : Str → Option NameKind} {x : Str} {v : Value} : ∀ {P : List Str} {vs : List Value} {i : Nat} {m : Str → Option Value}, P.Nodup → P[i]? = some x → vs[i]? = some v → kindOf x = some .local →
    bindL kindOf (P.zip vs) m x = some v
  | [], _, _, _, _, h, _, _ => by simp at h
  | _ :: _, [], _, _, _, _, h, _ => by simp at h
  | p :: P, w :: vs, 0, m, nd, h1, h2, hk => by
    simp at h1 h2; subst h1; subst h2
    show bindL kindOf ((p, w) :: P.zip vs) m p = _
    unfold bindL
    rw [bindL_out fun v hv => (List.nodup_cons.mp nd).1 (List.of_mem_zip hv).1, if_pos hk]
    simp
  | p :: P, w :: vs, i + 1, m, nd, h1, h2, hk => by
    show bindL kindOf ((p, w) :: P.zip vs) m x = _
    unfold bindL
    exact bindL_get (i := i) (List.nodup_cons.mp nd).2 (by simpa using h1) (by simpa using h2) hk
theorem bindC_get {kindOf : Str → Option NameKind} {x : Str} {v : Value} : ∀ {P : List Str} {vs : List Value} {i : Nat} {m : Str → Option Value}, P.Nodup → P[i]? = some x → vs[i]? = some v → kindOf x ≠ some .local →
    bindC kindOf (P.zip vs) m x = some v
  | [], _, _, _, _, h, _, _ => by simp at h
  | _ :: _, [], _, _, _, _, h, _ => by simp at h
  | p :: P, w :: vs, 0, m, nd, h1, h2, hk => by
    simp at h1 h2; subst h1; subst h2
    show bindC kindOf ((p, w) :: P.zip vs) m p = _
    unfold bindC
    rw [bindC_out fun v hv => (List.nodup_cons.mp nd).1 (List.of_mem_zip hv).1, if_neg hk]
    simp
  | p :: P, w :: vs, i + 1, m, nd, h1, h2, hk => by
    show bindC kindOf ((p, w) :: P.zip vs) m x = _
    unfold bindC
    exact bindC_get (i := i) (List.nodup_cons.mp nd).2 (by simpa using h1) (by simpa using h2) hk

def start (N : List Str) (vs : List V) : St := vs.map some ++ List.replicate (N.length - vs.length) none

def cxOf (CX : CXT) (P : Program) (w : World) (K : PySem.W.Frag) (mg : Str → Option Value) (base : Heap) (N : List Str) (qual : Str) (scope : Scope) (f : Addr) (cd : Value) (A : Around) (outer : List Env) (s : Shared) (H : Hp) (E : XK) : Cx where
  prog := P
  w := w
  K := K
  mg := mg
  base := base
  A := A.deeper (envOfC qual scope s.heap.objs.size f cd)
  N := N
  s₀ := s
  H₀ := H
  env := envOfC qual scope s.heap.objs.size f cd
  outer := outer
  stack := envOfC qual scope s.heap.objs.size f cd :: outer
  ex := []
  calm := true
  fn := fun _ => true
  pn := []
  xe := fun e s' => wpAny (model P w) (A.deeper (envOfC qual scope s.heap.objs.size f cd)) (leaving (envOfC qual scope s.heap.objs.size f cd) e) (fun _ s'' => CX outer H s E e s'') (fun e' s'' => CX outer H s E e' s'') s'

theorem cell_has {sc : Scope} {n : Nat} {x : Str} (h : sc.names.lookup x = some .cell) : ∃ c, (cellsFrom n sc.names []).lookup x = some c := by
  have q := PySem.W.cellsFrom_some sc.names n [] (.inl h)
  exact Option.isSome_iff_exists.mp q

theorem inv_start {CX : CXT} {P : Program} {w : World} {K : PySem.W.Frag} {mg : Str → Option Value} {base : Heap} {N ps : List Str} {qual : Str} {scope : Scope} {f : Addr} {cd : Value} {A : Around} {outer : List Env} {s s1 : Shared} {H : Hp} {E : XK} {us : List Value} {vs : List V}
    (S : FnScope N ps scope) (hd : A.handled = none) (e0 : Env0 P w K mg base A outer s H) (hl : vs.length = ps.length) (r : Vals vs us)
    (x : InCallC s s.heap.objs.size (bindL (envOfC qual scope s.heap.objs.size f cd).kindOf (ps.zip us) fun _ => none) (cellsFrom (s.heap.objs.size + 1) scope.names []) (bindC (envOfC qual scope s.heap.objs.size f cd).kindOf (ps.zip us) fun _ => none) s1) :
    Inv (cxOf CX P w K mg base N qual scope f cd A outer s H E) [] (start N vs) H s1 := by
  have hpl : ps.length ≤ N.length := by have := congrArg List.length S.pre; rw [List.length_take] at this; omega
  obtain ⟨h1, tk, rfl, hk⟩ := x.done
  have noA : ∀ b : Addr, b ∉ (cxOf CX P w K mg base N qual scope f cd A outer s H E).ex := fun b z => absurd (show b ∈ ([] : List Addr) from z) (by simp)
  refine ⟨⟨e0.mod, S.kind, rfl, rfl, Nat.le_refl _, fun y z c h1 h2 => ?_, fun y hy => ?_, fun y c _ h => ?_, fun _ => hd, Around.frames_deeper e0.frames, .inr ⟨rfl, rfl⟩, fun b z => absurd z (noA b), e0.bs, e0.bsz, fun b _ _ => noA b, fun b z => absurd z (noA b), e0.funs, e0.frf⟩,
    rfl, e0.bare, Un.kept hk, ⟨_, x.toInCall.ns, fun i y v h1 h2 h3 => ?_⟩, fun y c h => ⟨_, x.cell y c h⟩, e0.hok.fresh (Nat.le_refl _), fun y c h => ?_, fun p hp => absurd (show p ∈ ([] : List (Addr × Obj)) from hp) (by simp), e0.hok.kept hk, ?_⟩
  · exact name_of_addr x.apart (PySem.mem_of_lookup h1) (PySem.mem_of_lookup h2)
  · have hy : scope.names.lookup y = some .cell ∨ scope.names.lookup y = some .free := hy
    rcases hy with hy | hy
    · exact cell_has hy
    · exact absurd rfl (S.nofree _ (PySem.mem_of_lookup hy))
  · exact Nat.le_of_lt (x.above y c (PySem.mem_of_lookup h))
  · have hi : i < vs.length := by
      unfold start at h2
      by_cases hi : i < vs.length
      · exact hi
      · rw [List.getElem?_append_right (by simpa using hi)] at h2
        rw [List.getElem?_replicate] at h2
        split at h2 <;> cases h2
    have ha : vs[i]? = some v := by
      unfold start at h2
      rw [List.getElem?_append_left (by simpa using hi), List.getElem?_map] at h2
      cases e : vs[i]? with
      | none => rw [e] at h2; cases h2
      | some a => rw [e] at h2; cases h2; rfl
    obtain ⟨u, hu, rv⟩ := r.get ha
    have hp : ps[i]? = some y := by
      rw [← S.pre, List.getElem?_take_of_lt (by omega)]; exact h1
    have ndP : ps.Nodup := by rw [← S.pre]; exact S.nd.sublist (List.take_sublist _ _)
    refine ⟨u, rv, ?_⟩
    rcases S.par y (List.mem_of_getElem? hp) with k | k
    · exact .inl ⟨k, bindL_get ndP hp hu k⟩
    · obtain ⟨c, e⟩ := cell_has (n := s.heap.objs.size + 1) k
      refine .inr ⟨.inl k, c, e, ?_⟩
      have q := x.cell y c e
      rw [bindC_get ndP hp hu (by show scope.names.lookup y ≠ _; rw [k]; decide)] at q
      exact q
  · exact e0.hok.fresh (Nat.le_of_lt (x.above y c (PySem.mem_of_lookup h)))
  · unfold start
    show _ = N.length
    rw [List.length_append, List.length_map, List.length_replicate]
    omega

theorem fn_of {CX : CXT} {P : Program} {w : World} {K : PySem.W.Frag} {mg : Str → Option Value} {base : Heap} {k : Nat} {f : Addr} {name qual : Str} {params : Arguments} {body : List Stmt} {scope : Scope} {dV kV doc pm cdv ct oc : Value} {an od : Option Addr}
    {osl : Array (Option Value)} {N ps : List Str} {sp : Sp} (lk : K.lookup f = some ⟨oc, od, .func (PySem.W.fnOf name qual params body scope dV kV doc pm an cdv ct), osl⟩) (hcd : PySem.W.codeIn K cdv qual = true) (S : FnScope N ps scope)
    (len : ∀ vs H Q E, sp vs H Q E → vs.length = ps.length)
    (hbody : ∀ (A : Around) (outer : List Env) (s : Shared) (H : Hp) (vs : List V) (Q : VK) (E : XK), Room k (A.deeper (envOfC qual scope s.heap.objs.size f cdv)) → sp vs H Q E →
      ∃ t, PSs (cxOf CX P w K mg base N qual scope f cdv A outer s H E) body t ∧ t { nx := fun _ H' => Q .non H', rt := Q } (start N vs) H) :
    FnOk P w K mg base CX (k + 1) f (PySem.W.fnOf name qual params body scope dV kV doc pm an cdv ct) ps sp := by
  refine ⟨len, fun A outer s H args us vs Q E hr e0 hb r hsp => ?_⟩
  have hl := len _ _ _ _ hsp
  have KX : K.In s.heap := e0.mod.kin.keeps fun b o e => (e0.bs b o e).1
  have lim : s.heap.NoLimit := e0.mod.nolimit.keeps fun b o e => (e0.bs b o e).1
  have hkind : ∀ y ∈ ps.zip us, scope.names.lookup y.1 = some .local ∨ (scope.names.lookup y.1 = some .cell ∧ ((cellsFrom (s.heap.objs.size + 1) scope.names []).lookup y.1).isSome = true) := fun ⟨n, v⟩ hy => by
    rcases S.par n (List.of_mem_zip hy).1 with q | q
    · exact .inl q
    · exact .inr ⟨q, PySem.W.cellsFrom_some _ _ _ (.inl q)⟩
  refine codeAny_call_function hr.depth (KX _ _ lk) rfl S.co S.gen rfl (PySem.W.codeRec_of KX hcd) (hb _ _ _ _ ?_)
  refine wpAny_newFunctionEnv_cells S.kind hkind fun env he s1 x => ?_
  subst he
  refine ⟨lim.keeps x.toInCall.keep, codeAny_func ?_⟩
  obtain ⟨t, ht, hq⟩ := hbody A outer s H vs Q E (hr.deeper _) hsp
  have I : Inv (cxOf CX P w K mg base N qual scope f cdv A outer s H E) [] (start N vs) H s1 := inv_start S hr.hd e0 hl r x
  refine wpAny_mono (ht [] s1 (start N vs) H _ I hq) (fun fl s' hs => ?_) fun e s' hs => hs
  have fin : ∀ {σ' : St} {H' : Hp} {v : V} {u : Value}, Inv (cxOf CX P w K mg base N qual scope f cdv A outer s H E) [] σ' H' s' → RelV v u → Q v H' → CE outer P w H s Q u s' :=
    fun {σ' H' v u} J rv q => ⟨v, H', J.os, J.bare, J.base, J.hok, rv, q⟩
  cases fl with
  | ret u =>
    obtain ⟨v, σ', H', J, rv, q⟩ := hs
    exact fin J rv q
  | next =>
    obtain ⟨σ', H', J, q⟩ := hs
    exact fin (v := V.non) (u := Value.none) J rfl q
  | brk =>
    obtain ⟨_, _, _, q⟩ := hs
    exact False.elim q
  | cont =>
    obtain ⟨_, _, _, q⟩ := hs
    exact False.elim q
end L2

namespace L2
open PySem PySem.Spec PyProof.Rows
section
variable {X : Cx} {x : Str} {p pos : Pos} {e : Expr} {es : List Expr} {t : TA} {id T : String} {r : List V → Hp → VK → Prop}

def tCB (r : List V → Hp → VK → Prop) (t : TA) : TE := fun σ H Q => t σ H fun vs H1 => r vs H1 Q
theorem pe_callB (hc : CallR X (.builtin id) r) (hg : Gl X x) (hm : X.mg x = none) (hv : bootBuiltins x = some (.builtin id)) (ha : PA X (e :: es) t) (hn : x ≠ "__name__" := by decide) (hdb : (x == ("__debug__" : Str)) = false := by decide)
    (he : starEach (e :: es) X.env = (false, eval e X.env) :: starEach es X.env := by rfl) (hpl : (backTo pos (starEach es X.env)).any (·.1) = false := by rfl) : PE X (.Call (.Name x p) (e :: es) [] pos) (tCB r t) := by
  intro pins s σ H Q I h
  refine wpAny_Call_Name_kw (ld_blt I hg hm hv ?_ hn hdb)
  exact PyProof.Rows.callWith_builtin1 (thn (ha pos pins s σ H _ I h) fun us s1 ⟨vs, H1, I1, r1, q1⟩ => hc pins s1 σ H1 vs us Q I1 r1 q1) he hpl
theorem pe_callTy (hc : CallR X (.type T) r) (hg : Gl X x) (hm : X.mg x = none) (hv : bootBuiltins x = some (.type T)) (ha : PA X (e :: es) t) (hn : x ≠ "__name__" := by decide) (hdb : (x == ("__debug__" : Str)) = false := by decide)
    (he : starEach (e :: es) X.env = (false, eval e X.env) :: starEach es X.env := by rfl) (hpl : (backTo pos (starEach es X.env)).any (·.1) = false := by rfl) : PE X (.Call (.Name x p) (e :: es) [] pos) (tCB r t) := by
  intro pins s σ H Q I h
  refine wpAny_Call_Name_kw (ld_blt I hg hm hv ?_ hn hdb)
  exact PyProof.Rows.callWith_type1 (thn (ha pos pins s σ H _ I h) fun us s1 ⟨vs, H1, I1, r1, q1⟩ => hc pins s1 σ H1 vs us Q I1 r1 q1) he hpl
end
end L2

namespace HT
open PySem PyProof.Rows

section
open PySem.SeqAt
open PySem.AutoSeq1 (wpAny_loadPart')
open PySem.MeetsSeq PySem.MeetsSeq2 PySem.MeetsSeq3

end

section
variable {prog : Program} {w : World} {A : Around} {E : Value → Shared → Prop} {s : Shared}

theorem cat_tup {t b : Addr} {vs ws : List Value} {Q : Value → Shared → Prop} (ht : IsTup s.heap t vs.toArray) (hb : IsTup s.heap b ws.toArray) (hv : vs ≠ [])
    (h1 : ws = [] → Q (.ref t) s) (h2 : ws ≠ [] → Q (.ref s.heap.objs.size) { s with heap := s.heap.push { cls := .type "tuple", data := .seq (vs ++ ws).toArray } })
    (hsz : vs.length + ws.length ≤ sizeLine) : wpAny (model prog w) A (binaryOp .Add (.ref t) (.ref b)) Q E s := by
  obtain ⟨⟨cls, dd, data, sl⟩, ho, hc, n, hd⟩ := id ht
  obtain ⟨⟨cls2, dd2, data2, sl2⟩, ho2, hc2, n2, hd2⟩ := id hb
  simp only at hc hd hc2 hd2
  subst hc hd hc2 hd2
  have e : vs.toArray ++ ws.toArray = (vs ++ ws).toArray := by simp
  by_cases hw : ws = []
  · exact concat_meets ⟨_, ho, rfl⟩ ⟨_, ho2, rfl⟩ noFill_tuple_add seq_tuple_add PySem.F.slot_tuple_add PySem.F.entry_tuple_add (PySem.F.args_tuple_add_2 _ _)
      (tuple_addW1 t b vs.toArray ws.toArray n n2 dd dd2 sl sl2 (by simpa using hv) (by simp [hw])) ⟨ho, ho2, h1 hw⟩
  · refine concat_meets ⟨_, ho, rfl⟩ ⟨_, ho2, rfl⟩ noFill_tuple_add seq_tuple_add PySem.F.slot_tuple_add PySem.F.entry_tuple_add (PySem.F.args_tuple_add_2 _ _)
      (tuple_addW2 t b vs.toArray ws.toArray n n2 dd dd2 sl sl2 (by simpa using hv) (by simpa using hw) (by rw [List.size_toArray, List.size_toArray]; exact hsz)) ⟨ho, ho2, ?_⟩
    rw [e]
    exact h2 hw

end
end HT

namespace L2
open PySem PySem.Spec PyProof.Rows

abbrev TO := St → Hp → (Option Int → Hp → Prop) → Prop
theorem intsAre_of {ns : List Int} : ∀ {us : List Value}, Vals (ns.map V.int) us → IntsAre us ns := by
  induction ns with
  | nil => intro us r; rw [List.map_nil] at r; cases r; exact .nil
  | cons n ns ih =>
    intro us r
    rw [List.map_cons] at r
    cases r with
    | cons r1 r2 =>
      obtain ⟨t, e⟩ := r1
      subst e
      exact .cons n t (ih r2)

section
variable {X : Cx} {e : Expr} {te : TE} {lo hi : Option Expr} {tl th : TO} {pos p2 : Pos}

def rCatT (K : PySem.W.Frag) : R2 := fun x y H Q => ∃ a b xs ys, x = .ref a ∧ y = .ref b ∧ SqT K H a xs ∧ SqT K H b ys ∧ xs ≠ [] ∧ xs.length + ys.length ≤ sizeLine ∧
  (ys = [] → Q (.ref a) H) ∧ (ys ≠ [] → ∀ p, H p = none → Q (.ref p) (upd H p (.tup (xs ++ ys))))
theorem Vals.nil_iff {xs : List V} {us : List Value} (r : Vals xs us) : us = [] ↔ xs = [] := by
  cases r with
  | nil => simp
  | cons _ _ => simp
theorem op_catT : OpR X (binaryOp .Add) (rCatT X.K) := by
  intro pins s σ H x y v u Q I rx ry h
  obtain ⟨a, b, xs, ys, rfl, rfl, ha, hb, hx, hz, q1, q2⟩ := h
  cases rx
  cases ry
  obtain ⟨its, r1, p1, _⟩ := I.tuple ha
  obtain ⟨its2, r2, p2, _⟩ := I.tuple hb
  refine HT.cat_tup p1 p2 (fun z => hx (r1.nil_iff.mp z)) (fun z => ⟨.ref a, H, I, rfl, q1 (r2.nil_iff.mp z)⟩) (fun z => ?_) (by rw [← r1.length, ← r2.length]; exact hz)
  refine ⟨.ref s.heap.objs.size, _, I.laid (t' := s.toks) (o := .tup (xs ++ ys)) (fun b ob q => Heap.get?_push_of_some _ q) (Nat.le_refl _) ?_, rfl, q2 (fun w => z (r2.nil_iff.mpr w)) _ (I.hok.fresh (Nat.le_refl _))⟩
  exact ⟨by rw [List.length_append]; exact hz, _, r1.append r2, IsTup.new _ _⟩
end
end L2

namespace L2
open PySem PySem.Spec PyProof.Rows

def ixN (n : Nat) (i : Int) : Option Nat := if 0 ≤ i then (if i < n then some i.toNat else none) else if -(n : Int) ≤ i then some (i + n).toNat else none
def atI {α : Type} (xs : List α) (i : Int) : Option α := (ixN xs.length i).bind fun j => xs[j]?
theorem ixN_seq {n : Nat} {i : Int} {j : Nat} (h : ixN n i = some j) : seqIndex? i n = some j ∧ j < n ∧ -(n : Int) ≤ i ∧ i < n := by
  unfold ixN at h
  by_cases h0 : 0 ≤ i
  · rw [if_pos h0] at h
    by_cases h1 : i < n
    · rw [if_pos h1] at h
      have e : i.toNat = j := Option.some.inj h
      exact ⟨by rw [seqIndex_of h0 h1, e], by omega, by omega, h1⟩
    · rw [if_neg h1] at h; cases h
  · rw [if_neg h0] at h
    by_cases h1 : -(n : Int) ≤ i
    · rw [if_pos h1] at h
      have e : (i + n).toNat = j := Option.some.inj h
      exact ⟨by rw [seqIndex_neg (by omega) h1, e], by omega, h1, by omega⟩
    · rw [if_neg h1] at h; cases h
theorem atI_get {α : Type} {xs : List α} {i : Int} {v : α} (h : atI xs i = some v) : ∃ j, seqIndex? i xs.length = some j ∧ xs[j]? = some v ∧ j < xs.length ∧ -(xs.length : Int) ≤ i ∧ i < xs.length := by
  unfold atI at h
  cases e : ixN xs.length i with
  | none => rw [e] at h; cases h
  | some j =>
    rw [e] at h
    obtain ⟨h1, h2, h3, h4⟩ := ixN_seq e
    exact ⟨j, h1, h, h2, h3, h4⟩
theorem atI_nat {α : Type} {xs : List α} {j : Nat} {v : α} (h : xs[j]? = some v) : atI xs (j : Int) = some v := by
  have hj : j < xs.length := (List.getElem?_eq_some_iff.mp h).1
  have e : ixN xs.length (j : Int) = some j := by
    unfold ixN
    rw [if_pos (by omega), if_pos (by omega)]; simp
  unfold atI; rw [e]; exact h
def PlainIx (b : Expr) : Prop := ∀ o i, subscripted b false o i = operate [o, i] (getItem o i)
def IxR (X : Cx) (r : R2) : Prop :=
  ∀ (value slice : Expr) (pins : List (Addr × Obj)) (s : Shared) (σ : St) (H : Hp) (x y : V) (v u : Value) (Q : VK), Inv X pins σ H s → RelV x v → RelV y u → r x y H Q →
    subscripted slice false v u = operate [v, u] (getItem v u) → wpAny (model X.prog X.w) X.A (subscriptTail value slice v u) (EP X pins σ Q) X.xe s
def MtR (X : Cx) (id : String) (r : V → List V → Hp → VK → Prop) : Prop :=
  ∀ (pins : List (Addr × Obj)) (s : Shared) (σ : St) (H : Hp) (x : V) (xs : List V) (v : Value) (us : List Value) (Q : VK), Inv X pins σ H s → RelV x v → Vals xs us → r x xs H Q →
    wpAny (model X.prog X.w) X.A (call (.builtin id) (v :: us)) (EP X pins σ Q) X.xe s
section
variable {X : Cx} {a b : Expr} {ta tb : TE} {pos : Pos}
theorem pe_ix {r : R2} (hr : IxR X r) (ha : PE X a ta) (hb : PE X b tb) (hs : PlainIx b) : PE X (.Subscript a b pos) (tOp r ta tb) := by
  intro pins s σ H Q I h
  exact Subscript_ (binT ha hb I h fun v u s2 x y H2 I2 rx ry q => hr a b pins s2 σ H2 x y v u Q I2 rx ry q (hs _ _))

def rIxL (K : PySem.W.Frag) : R2 := fun x y H Q => ∃ p xs i v, x = .ref p ∧ y = .int i ∧ SqL K H p xs ∧ atI xs i = some v ∧ Q v H
def rIxT (K : PySem.W.Frag) : R2 := fun x y H Q => ∃ p xs i v, x = .ref p ∧ y = .int i ∧ SqT K H p xs ∧ atI xs i = some v ∧ Q v H
theorem ix_list : IxR X (rIxL X.K) := by
  intro value slice pins s σ H x y v u Q I rx ry h hs
  obtain ⟨p, xs, i, z, rfl, rfl, hq, he, q⟩ := h
  cases rx
  obtain ⟨t, rfl⟩ := ry
  obtain ⟨its, r, pl, hz⟩ := I.list hq
  obtain ⟨j, h1, h2, h3, h4, h5⟩ := atI_get he
  obtain ⟨w, ew, rw'⟩ := r.get h2
  have hl := r.length
  have hn := line63
  have fin : EP X pins σ Q w s := ⟨z, H, I, rw', q⟩
  by_cases h0 : 0 ≤ i
  · have hj : i.toNat = j := by
      rw [seqIndex_of h0 h5] at h1
      exact Option.some.inj h1
    exact item_listR pl.isList h0 (by omega) (by rw [hj]; simpa using ew) fin hs
  · have hj : (i + (its.toArray.size : Int)).toNat = j := by
      rw [seqIndex_neg (by omega) h4] at h1
      rw [List.size_toArray, ← hl]
      exact Option.some.inj h1
    exact subscriptTail_builtinR (x := w) pl.isList.typeIs slot_list_getitem.lookup
      (wpAny_getItem_list_neg (Q := fun r s' => r = w ∧ EP X pins σ Q r s') pl.isList (by omega) (by rw [List.size_toArray] <;> omega) (by omega) (by rw [hj]; simpa using ew) ⟨rfl, fin⟩) hs
theorem ix_tup : IxR X (rIxT X.K) := by
  intro value slice pins s σ H x y v u Q I rx ry h hs
  obtain ⟨p, xs, i, z, rfl, rfl, hq, he, q⟩ := h
  cases rx
  obtain ⟨t, rfl⟩ := ry
  obtain ⟨its, r, pl, hz⟩ := I.tuple hq
  obtain ⟨j, h1, h2, h3, h4, h5⟩ := atI_get he
  obtain ⟨w, ew, rw'⟩ := r.get h2
  have hl := r.length
  have hn := line63
  have fin : EP X pins σ Q w s := ⟨z, H, I, rw', q⟩
  exact subscriptTail_builtinR (x := w) pl.typeIs slot_tuple_getitem.lookup
    (getItem_tuple (j := j) (Q := fun r s' => r = w ∧ EP X pins σ Q r s') pl (by omega) (by omega) (by rw [List.size_toArray, ← hl]; exact h1) (by simpa using ew) ⟨rfl, fin⟩) hs
def flatV : V → Bool
  | .non => true
  | .bl _ => true
  | .int _ => true
  | .str _ => true
  | _ => false
def eqV : V → V → Bool
  | .non, .non => true
  | .bl a, .bl b => a == b
  | .bl a, .int b => (if a then 1 else 0) == b
  | .int a, .bl b => a == (if b then 1 else 0)
  | .int a, .int b => a == b
  | .str a, .str b => a == b
  | _, _ => false
theorem eqAt_V {A : Around} {s : Shared} {y x : V} {u v : Value} (ry : RelV y u) (rx : RelV x v) (fy : flatV y = true) (fx : flatV x = true) : SeqAt.EqAt A s u v (eqV y x) := by
  cases y with
  | non =>
    cases ry
    cases x with
    | non => cases rx; exact SeqAt.EqAt.same _
    | bl b => cases rx; exact SeqAt.EqAt.none_bool b
    | int b => obtain ⟨t, rfl⟩ := rx; exact SeqAt.EqAt.none_int b t
    | str b => obtain ⟨t, rfl⟩ := rx; exact SeqAt.EqAt.none_str b t
    | _ => exact absurd (show false = true from fx) Bool.false_ne_true
  | bl a =>
    cases ry
    cases x with
    | non => cases rx; exact SeqAt.EqAt.bool_none a
    | bl b => cases rx; exact SeqAt.EqAt.bool_bool a b
    | int b => obtain ⟨t, rfl⟩ := rx; exact SeqAt.EqAt.bool_int a b t
    | str b => obtain ⟨t, rfl⟩ := rx; exact SeqAt.EqAt.bool_str a b t
    | _ => exact absurd (show false = true from fx) Bool.false_ne_true
  | int a =>
    obtain ⟨t', rfl⟩ := ry
    cases x with
    | non => cases rx; exact SeqAt.EqAt.int_none a t'
    | bl b => cases rx; exact SeqAt.EqAt.int_bool a t' b
    | int b => obtain ⟨t, rfl⟩ := rx; exact SeqAt.EqAt.int_int a t' b t
    | str b => obtain ⟨t, rfl⟩ := rx; exact SeqAt.EqAt.int_str a t' b t
    | _ => exact absurd (show false = true from fx) Bool.false_ne_true
  | str a =>
    obtain ⟨t', rfl⟩ := ry
    cases x with
    | non => cases rx; exact SeqAt.EqAt.str_none a t'
    | bl b => cases rx; exact SeqAt.EqAt.str_bool a t' b
    | int b => obtain ⟨t, rfl⟩ := rx; exact SeqAt.EqAt.str_int a t' b t
    | str b => obtain ⟨t, rfl⟩ := rx; exact SeqAt.EqAt.str_str a t' b t
    | _ => exact absurd (show false = true from fx) Bool.false_ne_true
  | _ => exact absurd (show false = true from fy) Bool.false_ne_true
def eqU (x : V) (u : Value) : Bool := match u with
  | .none => eqV .non x
  | .bool b => eqV (.bl b) x
  | .int i _ => eqV (.int i) x
  | .str z _ => eqV (.str z) x
  | _ => false
theorem eqU_of {x y : V} {u : Value} (r : RelV y u) (f : flatV y = true) : eqU x u = eqV y x := by
  cases y with
  | non => cases r; rfl
  | bl b => cases r; rfl
  | int i => obtain ⟨t, rfl⟩ := r; rfl
  | str z => obtain ⟨t, rfl⟩ := r; rfl
  | _ => exact absurd (show false = true from f) Bool.false_ne_true
theorem any_eqU {x : V} : ∀ {xs : List V} {us : List Value}, Vals xs us → xs.all flatV = true → us.any (eqU x) = xs.any fun y => eqV y x
  | _, _, .nil, _ => rfl
  | y :: xs, u :: us, .cons r t, f => by
    rw [List.all_cons, Bool.and_eq_true] at f
    rw [List.any_cons, List.any_cons, eqU_of r f.1, any_eqU t f.2]
theorem mem_eqAt {A : Around} {s : Shared} {x : V} {v : Value} (rx : RelV x v) (fx : flatV x = true) : ∀ {xs : List V} {us : List Value}, Vals xs us → xs.all flatV = true → ∀ u ∈ us, SeqAt.EqAt A s u v (eqU x u)
  | _, _, .nil, _ => fun u hu => by cases hu
  | y :: xs, u :: us, .cons r t, f => fun u' hu => by
    rw [List.all_cons, Bool.and_eq_true] at f
    rcases List.mem_cons.mp hu with rfl | hu
    · rw [eqU_of r f.1]; exact eqAt_V r rx f.1 fx
    · exact mem_eqAt rx fx t f.2 u' hu
def inV (x : V) (xs : List V) : Bool := xs.any fun y => eqV y x
def rIn (K : PySem.W.Frag) (neg : Bool) : R2 := fun x y H Q => ∃ p xs, y = .ref p ∧ (SqL K H p xs ∨ SqT K H p xs) ∧ flatV x = true ∧ xs.all flatV = true ∧ Q (.bl (if neg then !inV x xs else inV x xs)) H
theorem op_notIn_seq : OpR X (compareOp .NotIn) (rIn X.K true) := by
  intro pins s σ H x y v u Q I rx ry h
  obtain ⟨p, xs, rfl, hq, fx, fs, q⟩ := h
  cases ry
  rcases hq with hq | hq
  · obtain ⟨its, r, pl, hz⟩ := I.list hq
    refine SeqAt.notIn_listAt (eqU x) pl.isList (fun w hw => mem_eqAt rx fx r fs w (by simpa using hw)) ⟨.bl _, H, I, rfl, ?_⟩
    rw [show its.toArray.any (eqU x) = its.any (eqU x) by simp, any_eqU r fs]
    exact q
  · obtain ⟨its, r, pl, hz⟩ := I.tuple hq
    refine SeqAt.notIn_tupleAt (eqU x) pl (fun w hw => mem_eqAt rx fx r fs w (by simpa using hw)) ⟨.bl _, H, I, rfl, ?_⟩
    rw [show its.toArray.any (eqU x) = its.any (eqU x) by simp, any_eqU r fs]
    exact q
theorem call_len_seq : CallR X (.builtin "len") (fun xs H Q => ∃ p ys, xs = [.ref p] ∧ (SqL X.K H p ys ∨ SqT X.K H p ys) ∧ Q (.int ys.length) H) := by
  intro pins s σ H xs us Q I r h
  obtain ⟨p, ys, rfl, hq, q⟩ := h
  obtain ⟨u, rfl, rx⟩ := vals1 r
  cases rx
  have hn := line63
  rcases hq with hq | hq
  · obtain ⟨its, r', pl, hz⟩ := I.list hq
    have hlen := r'.length
    exact Calls.call_len_list pl.isList (by simp only [List.size_toArray] <;> omega) ⟨.int ys.length, H, I.tok _, ⟨s.toks + 1, by rw [List.size_toArray, hlen]⟩, q⟩
  · obtain ⟨its, r', pl, hz⟩ := I.tuple hq
    have hlen := r'.length
    exact len_tuple pl (by simp only [List.size_toArray] <;> omega) ⟨.int ys.length, H, I.tok _, ⟨s.toks + 1, by rw [List.size_toArray, hlen]⟩, q⟩
theorem call_tuple_of : CallR X (.type "tuple") (fun xs H Q => ∃ p ys, xs = [.ref p] ∧ ((SqL X.K H p ys ∧ ∀ l, H l = none → Q (.ref l) (upd H l (.tup ys))) ∨ (SqT X.K H p ys ∧ Q (.ref p) H))) := by
  intro pins s σ H xs us Q I r h
  obtain ⟨p, ys, rfl, h⟩ := h
  obtain ⟨u, rfl, rx⟩ := vals1 r
  cases rx
  rcases h with ⟨hq, q⟩ | ⟨hq, q⟩
  · obtain ⟨its, r', pl, hz⟩ := I.list hq
    have hlen := r'.length
    refine call_tuple_list pl.isList (fun h' kp => ?_) (by simp only [List.size_toArray] <;> omega)
    have I1 : Inv X pins σ H { s with heap := h' } := I.kept (t' := s.toks) kp
    have I2 : Inv X pins σ (upd H h'.objs.size (.tup ys)) { s with heap := h'.push { cls := .type "tuple", data := .seq its.toArray } } :=
      I1.laid (t' := s.toks) (fun b o e => Heap.get?_push_of_some _ e) (Nat.le_refl _) (show ObjOk X.prog X.w _ _ _ (.tup ys) from ⟨hz, its, r', IsTup.new _ _⟩)
    exact ⟨.ref h'.objs.size, _, I2, rfl, q _ (I1.hok.fresh (Nat.le_refl _))⟩
  · obtain ⟨its, r', pl, hz⟩ := I.tuple hq
    exact call_tuple_same pl ⟨.ref p, H, I, rfl, q⟩

def tyV (K : PySem.W.Frag) (T : String) (x : V) (H : Hp) : Prop := match x with
  | .str _ => T = "str"
  | .int _ => T = "int"
  | .ref p => (T = "list" ∧ ∃ xs, SqL K H p xs) ∨ (T = "tuple" ∧ ∃ o, K.lookup p = some o ∧ o.cls = .type "tuple" ∧ o.dict = none) ∨
      (T = "dict" ∧ ((∃ kvs, H p = some (.dK kvs)) ∨ ∃ kvs, H p = some (.dT kvs))) ∨ (T = "set" ∧ ∃ S n, H p = some (.set S n))
  | _ => False
theorem tyV_is {pins : List (Addr × Obj)} {σ : St} {H : Hp} {s : Shared} {T : String} {x : V} {v : Value} (I : Inv X pins σ H s) (r : RelV x v) (ty : tyV X.K T x H) :
    s.TypeIs v T ∧ ∀ a, v = .ref a → ∃ ob, s.heap.get? a = some ob ∧ ob.dict = none := by
  cases x with
  | str z =>
    obtain ⟨t, rfl⟩ := r
    cases (show T = "str" from ty)
    exact ⟨typeIs_str s z t, fun _ e => nomatch e⟩
  | int i =>
    obtain ⟨t, rfl⟩ := r
    cases (show T = "int" from ty)
    exact ⟨typeIs_int s i t, fun _ e => nomatch e⟩
  | ref p =>
    cases r
    rcases ty with ⟨rfl, xs, hq⟩ | ⟨rfl, o, hk, hc, hd⟩ | ⟨rfl, hk⟩ | ⟨rfl, S, n, hk⟩
    · obtain ⟨its, _, pl, _⟩ := I.list hq
      refine ⟨pl.isList.typeIs, fun a e => ?_⟩
      cases e
      obtain ⟨o, n, e, c, hd, _⟩ := pl
      exact ⟨o, e, hd⟩
    · refine ⟨⟨o, I.kIn p o hk, hc⟩, fun a e => ?_⟩
      cases e
      exact ⟨o, I.kIn _ o hk, hd⟩
    · have z : ∃ o, s.heap.get? p = some o ∧ o.ExactDict := by
        rcases hk with ⟨kvs, hk⟩ | ⟨kvs, hk⟩
        · obtain ⟨_, _, _, _, o, _, _, e, ex, _⟩ := I.hok p _ hk
          exact ⟨o, e, ex⟩
        · obtain ⟨_, _, _, _, o, _, _, e, ex, _⟩ := I.hok p _ hk
          exact ⟨o, e, ex⟩
      obtain ⟨o, e, ex⟩ := z
      refine ⟨⟨o, e, ex.1⟩, fun a e2 => ?_⟩
      cases e2
      exact ⟨o, e, ex.2.1⟩
    · obtain ⟨o, _, _, _, e, ex, _⟩ := I.hok p _ hk
      refine ⟨⟨o, e, ex.1⟩, fun a e2 => ?_⟩
      cases e2
      exact ⟨o, e, ex.2.1⟩
  | _ => exact False.elim ty
def tBM0 (K : PySem.W.Frag) (T : String) (r : V → List V → Hp → VK → Prop) (to : TE) : TE := fun σ H Q => to σ H fun x H1 => tyV K T x H1 ∧ r x [] H1 Q
def tBM (K : PySem.W.Frag) (T : String) (r : V → List V → Hp → VK → Prop) (to : TE) (t : TA) : TE := fun σ H Q => to σ H fun x H1 => tyV K T x H1 ∧ t σ H1 fun xs H2 => r x xs H2 Q
variable {o e : Expr} {es : List Expr} {to : TE} {t : TA} {name : Str} {apos cpos : Pos} {T id : String} {r : V → List V → Hp → VK → Prop}
theorem pe_bm0 (pa : PlainAttrs T) (slot : Slot T name id) (hty : typeOf (.builtin id) = pure (.type "method_descriptor")) (hm : MtR X id r) (ho : PE X o to)
    (hbase : attributeBase o name X.env (eval o X.env) = eval o X.env := by rfl) (hline : (apos.endLine == cpos.line) = true := by rfl) : PE X (.Call (.Attribute o name apos) [] [] cpos) (tBM0 X.K T r to) := by
  intro pins s σ H Q I h
  refine wpAny_Call_method0_late hbase hline (thn (ho pins s σ H _ I h) fun v s1 ⟨x, H1, I1, r1, ty, q1⟩ => ?_)
  obtain ⟨h1, h2⟩ := tyV_is I1 r1 ty
  exact ⟨T, id, pa, slot, hty, h1, h2, Calls.callWith_builtin rfl (PySem.evalArgs_none (hm pins s1 σ H1 x [] v [] Q I1 r1 .nil q1))⟩
theorem pe_bm (pa : PlainAttrs T) (slot : Slot T name id) (hty : typeOf (.builtin id) = pure (.type "method_descriptor")) (hm : MtR X id r) (ho : PE X o to) (ha : PA X (e :: es) t)
    (hbase : attributeBase o name X.env (eval o X.env) = eval o X.env := by rfl)
    (hfew : ((backTo cpos (starEach (e :: es) X.env)).all (fun x => !x.1) && (backToKw cpos (keywordEach [] X.env)).all (fun x => x.1.isSome)
      && decide ((e :: es).length + ([] : List Keyword).length + (if ([] : List Keyword).isEmpty then 0 else 1) < 30)) = true := by rfl)
    (hline : (apos.endLine == cpos.line) = true := by rfl) (hs : starEach (e :: es) X.env = (false, eval e X.env) :: starEach es X.env := by rfl) (hplain : (backTo cpos (starEach es X.env)).any (·.1) = false := by rfl) :
    PE X (.Call (.Attribute o name apos) (e :: es) [] cpos) (tBM X.K T r to t) := by
  intro pins s σ H Q I h
  refine wpAny_Call_method_late hbase hfew hline rfl (thn (ho pins s σ H _ I h) fun v s1 ⟨x, H1, I1, r1, ty, q1⟩ => ?_)
  obtain ⟨h1, h2⟩ := tyV_is I1 r1 ty
  refine ⟨T, id, pa, slot, hty, h1, h2, ?_⟩
  have hA := ha cpos pins s1 σ H1 _ I1 q1
  rw [hs] at hA ⊢
  refine Calls.callWith_builtin (by show (false || (backTo cpos (starEach es X.env)).any (·.1)) = false; rw [hplain] <;> rfl) (Calls.evalArgs_plain ?_)
  exact thn hA fun us s2 ⟨vs, H2, I2, r2, q2⟩ => hm pins s2 σ H2 x vs v us Q I2 r1 r2 q2
/- xs.append(e), list.index on a module's tuple .. are MtR facts of 06m -/
end
end L2

namespace L2
open PySem PySem.Spec PyProof.Rows

def MtM (X : Cx) (id : String) (r : V → List V → Hp → VK → Prop) : Prop :=
  ∀ (pins : List (Addr × Obj)) (s : Shared) (σ : St) (H : Hp) (x : V) (xs : List V) (v : Value) (us : List Value) (Q : VK), Inv X pins σ H s → RelV x v → Vals xs us → r x xs H Q →
    wpAny (model X.prog X.w) X.A (call (.builtin id) (v :: us)) (EP X pins σ Q) X.xe s

theorem Vals.one : ∀ {x : V} {us : List Value}, Vals [x] us → ∃ u, us = [u] ∧ RelV x u
  | _, _, .cons r .nil => ⟨_, rfl, r⟩
theorem Vals.zero : ∀ {us : List Value}, Vals [] us → us = []
  | _, .nil => rfl
theorem Vals.reverse {xs : List V} {us : List Value} (h : Vals xs us) : Vals xs.reverse us.reverse := by
  induction h with
  | nil => exact .nil
  | cons r t ih => rw [List.reverse_cons, List.reverse_cons]; exact Vals.append ih (.cons r .nil)
theorem Vals.rep {xs : List V} {us : List Value} (h : Vals xs us) : ∀ k : Nat, Vals (List.replicate k xs).flatten (List.replicate k us).flatten
  | 0 => .nil
  | k + 1 => by
    rw [List.replicate_succ, List.replicate_succ, List.flatten_cons, List.flatten_cons]
    exact Vals.append h (Vals.rep h k)
theorem foldl_rep (its : List Value) : ∀ (k : Nat) (acc : List Value),
    List.foldl (fun x1 x2 => x1 ++ x2) acc.toArray (List.replicate k its.toArray) = (acc ++ (List.replicate k its).flatten).toArray
  | 0, acc => by simp
  | k + 1, acc => by
    have e : acc.toArray ++ its.toArray = (acc ++ its).toArray := by simp
    have e2 : (acc ++ its) ++ (List.replicate k its).flatten = acc ++ (List.replicate (k + 1) its).flatten := by
      rw [List.replicate_succ, List.flatten_cons, List.append_assoc]
    rw [← e2, ← foldl_rep its k (acc ++ its), ← e, List.replicate_succ, List.foldl_cons]

section
variable {X : Cx} {pins : List (Addr × Obj)} {σ : St} {H : Hp} {s : Shared} {l b : Addr} {xs ys zs : List V}

theorem Inv.lset {its its' : List Value} {n : Nat} {f : Array Value → Array Value} {t' : Nat} (I : Inv X pins σ H s) (hH : H l = some (.lst xs))
    (e : s.heap.get? l = some { cls := .type "list", data := .seq its.toArray n }) (hf : f its.toArray = its'.toArray) (hv : Vals ys its') (hz : ys.length ≤ sizeLine) :
    Inv X pins σ (upd H l (.lst ys)) { s with heap := s.heap.update l (Obj.mapSeq f), toks := t' } := by
  have q := PySem.IsL.update e f
  rw [hf] at q
  refine I.write (x := l) (e := l) (by rw [hH]; exact trivial) (.inl rfl) (fun b' u hb hu => (Heap.get?_update_other s.heap (Obj.mapSeq f) (Ne.symm hb)).trans hu) ⟨_, q⟩ ?_
  exact ⟨hz, its', _, hv, q⟩
theorem Inv.lnew {its : List Value} {t' : Nat} (I : Inv X pins σ H s) (hv : Vals ys its) (hz : ys.length ≤ sizeLine) :
    Inv X pins σ (upd H s.heap.objs.size (.lst ys)) { s with heap := s.heap.push { cls := .type "list", data := .seq its.toArray }, toks := t' } :=
  I.laid (fun _ _ q => Heap.get?_push_of_some _ q) (Nat.le_refl _) ⟨hz, its, 0, hv, Heap.get?_push_size _ rfl⟩
theorem Inv.fresh (I : Inv X pins σ H s) : H s.heap.objs.size = none := I.hok.fresh (Nat.le_refl _)
theorem Inv.lstM (I : Inv X pins σ H s) (hH : H l = some (.lst xs)) : xs.length ≤ sizeLine ∧ ∃ (its : List Value) (n : Nat), Vals xs its ∧ xs.length = its.length ∧ s.heap.get? l = some { cls := .type "list", data := .seq its.toArray n } := by
  obtain ⟨z, its, n, r, e⟩ := I.hok l _ hH
  exact ⟨z, its, n, r, r.length, e⟩

theorem notLongL {n : Nat} (h : n ≤ sizeLine) : Builtin.List.listTooLong n = false := by
  unfold Builtin.List.listTooLong
  exact decide_eq_false (by omega)
end

section
variable {X : Cx}

def rAppend : V → List V → Hp → VK → Prop := fun x vs H Q => ∃ l xs y, x = .ref l ∧ vs = [y] ∧ H l = some (.lst xs) ∧ xs.length < sizeLine ∧ Q .non (upd H l (.lst (xs ++ [y])))
theorem mt_append : MtM X "list.append" rAppend := by
  intro pins s σ H x vs v us Q I rx rv h
  obtain ⟨l, xs, y, rfl, rfl, hH, hz, q⟩ := h
  cases rx
  obtain ⟨u, rfl, ru⟩ := rv.one
  obtain ⟨z, its, n, r, hl, e⟩ := I.lstM hH
  refine call_meets F.slot_list_append ⟨_, e, rfl⟩ F.entry_list_append (F.args_list_append_2 _ _) (PySem.list_append l its.toArray n u (by rw [List.size_toArray]; omega)) ⟨e, ?_⟩
  refine ⟨.non, _, I.lset (its' := its ++ [u]) hH e (by simp) (r.append (.cons ru .nil)) ?_, rfl, q⟩
  rw [List.length_append, List.length_singleton]
  omega

def rReverse : V → List V → Hp → VK → Prop := fun x vs H Q => ∃ l xs, x = .ref l ∧ vs = [] ∧ H l = some (.lst xs) ∧ Q .non (upd H l (.lst xs.reverse))
theorem mt_reverse : MtM X "list.reverse" rReverse := by
  intro pins s σ H x vs v us Q I rx rv h
  obtain ⟨l, xs, rfl, rfl, hH, q⟩ := h
  cases rx
  have hus := rv.zero
  subst hus
  obtain ⟨z, its, n, r, hl, e⟩ := I.lstM hH
  refine call_meets F.slot_list_reverse ⟨_, e, rfl⟩ F.entry_list_reverse (F.args_list_reverse_1 _) (AutoSeq1.list_reverse_list_0 l its.toArray n (by rw [List.size_toArray]; omega)) ⟨e, ?_⟩
  refine ⟨.non, _, I.lset (its' := its.reverse) hH e (by simp) r.reverse ?_, rfl, q⟩
  rw [List.length_reverse]
  omega

def rClear : V → List V → Hp → VK → Prop := fun x vs H Q => ∃ l xs, x = .ref l ∧ vs = [] ∧ H l = some (.lst xs) ∧ Q .non (upd H l (.lst []))
theorem mt_clear : MtM X "list.clear" rClear := by
  intro pins s σ H x vs v us Q I rx rv h
  obtain ⟨l, xs, rfl, rfl, hH, q⟩ := h
  cases rx
  have hus := rv.zero
  subst hus
  obtain ⟨z, its, n, r, hl, e⟩ := I.lstM hH
  refine call_meets F.slot_list_clear ⟨_, e, rfl⟩ F.entry_list_clear (F.args_list_clear_1 _) (AutoSeq1.list_clear_list_0 l its.toArray n (by rw [List.size_toArray]; omega)) ⟨e, ?_⟩
  exact ⟨.non, _, I.lset (its' := []) (ys := []) hH e rfl .nil (Nat.zero_le _), rfl, q⟩

def rCat : R2 := fun x y H Q => ∃ l b xs zs, x = .ref l ∧ y = .ref b ∧ H l = some (.lst xs) ∧ H b = some (.lst zs) ∧ xs.length + zs.length ≤ sizeLine ∧ ∀ p, H p = none → Q (.ref p) (upd H p (.lst (xs ++ zs)))
theorem op_cat : OpR X (binaryOp .Add) rCat := by
  intro pins s σ H x y v u Q I rx ry h
  obtain ⟨l, b, xs, zs, rfl, rfl, hH, hB, hz, q⟩ := h
  cases rx
  cases ry
  obtain ⟨z, its, n, r, hl, e⟩ := I.lstM hH
  obtain ⟨z2, its2, n2, r2, hl2, e2⟩ := I.lstM hB
  refine PySem.P.add_list e e2 ?_ (by rw [List.size_toArray, List.size_toArray]; omega)
  have ea : its.toArray ++ its2.toArray = (its ++ its2).toArray := by simp
  rw [ea]
  exact ⟨.ref _, _, I.lnew (t' := s.toks) (r.append r2) (by rw [List.length_append]; omega), rfl, q _ I.fresh⟩
def rRep : R2 := fun x y H Q => ∃ l k xs, x = .ref l ∧ y = .int k ∧ H l = some (.lst xs) ∧ -(2 ^ 63) ≤ k ∧ k < 2 ^ 63 ∧ xs.length * k.toNat ≤ sizeLine ∧
  ∀ p, H p = none → Q (.ref p) (upd H p (.lst (List.replicate k.toNat xs).flatten))
theorem len_rep {α : Type} (xs : List α) (k : Nat) : (List.replicate k xs).flatten.length = k * xs.length := by
  induction k with
  | zero => simp
  | succ k ih => rw [List.replicate_succ, List.flatten_cons, List.length_append, ih, Nat.succ_mul, Nat.add_comm]
theorem op_rep : OpR X (binaryOp .Mult) rRep := by
  intro pins s σ H x y v u Q I rx ry h
  obtain ⟨l, k, xs, rfl, rfl, hH, h1, h2, hz, q⟩ := h
  cases rx
  obtain ⟨t, rfl⟩ := ry
  obtain ⟨z, its, n, r, hl, e⟩ := I.lstM hH
  have hlen : its.toArray.size * k.toNat ≤ sizeLine := by rw [List.size_toArray, ← hl]; exact hz
  have hcap : ¬ its.toArray.size * k.toNat > (2 ^ 63 - 1) / 8 := by
    have : (sizeLine : Nat) ≤ (2 ^ 63 - 1) / 8 := by decide
    omega
  have hfit : ¬ (!Builtin.List.listFitsIndex k) = true := by
    rw [fitsIndex_both h1 h2]
    exact Bool.false_ne_true
  have hlong : ¬ Builtin.List.listTooLong (its.toArray.size * k.toNat) = true := by
    rw [notLongL hlen]
    exact Bool.false_ne_true
  have hnew : List.foldl (fun x1 x2 => x1 ++ x2) #[] (List.replicate (if its.toArray.isEmpty = true then 0 else k.toNat) its.toArray) = (List.replicate k.toNat its).flatten.toArray := by
    have f0 : ∀ m : Nat, List.foldl (fun x1 x2 => x1 ++ x2) #[] (List.replicate m its.toArray) = (List.replicate m its).flatten.toArray := fun m => by
      have := foldl_rep its m []
      rw [List.nil_append] at this
      exact this
    rw [f0]
    cases its with
    | nil => simp
    | cons a r' => rw [if_neg (by simp)]
  refine wpAny_binaryOp_repeat_ref (T := "list") (U := "int") (by decide) ⟨_, e, rfl⟩ (fun s' => typeIs_int s' k t) noFill_list_mul F.fills_int_mul F.slot_int_rmul repeat_list F.slot_int_index.lookup
    (call_meets F.slot_int_rmul (typeIs_int s k t) F.entry_int_rmul (F.args_int_rmul_2 _ _) (int___rmul___int_list k t l its.toArray n)
      ⟨e, rfl, ⟨_, e, rfl⟩, call_meets F.slot_list_mul ⟨_, e, rfl⟩ F.entry_list_mul (F.args_list_mul_2 _ _) (AutoListH.list___mul___list_int_3 l its.toArray n k t hfit hcap hlong) ⟨e, ?_⟩⟩)
  rw [hnew]
  exact ⟨.ref _, _, I.lnew (t' := s.toks) (r.rep k.toNat) (by rw [len_rep, Nat.mul_comm]; exact hz), rfl, q _ I.fresh⟩

end

section
variable {prog : Program} {w : World} {A : Around} {E : Value → Shared → Prop} {s : Shared}
end

section
variable {X : Cx}
end
end L2

namespace L2
open PySem PySem.Spec PyProof.Rows

section
variable {κ : Type} [DecidableEq κ]
def valV (kvs : List (κ × V)) (k : κ) : Option V := (kvs.find? fun kv => decide (kv.1 = k)).map (·.2)
def putK (kvs : List (κ × V)) (k : κ) (v : V) : List (κ × V) :=
  if (kvs.any fun kv => decide (kv.1 = k)) = true then kvs.map (fun kv => if kv.1 = k then (kv.1, v) else kv) else kvs ++ [(k, v)]
theorem valV_pos {p : κ × V} {r : List (κ × V)} {k : κ} (e : p.1 = k) : valV (p :: r) k = some p.2 := by simp [valV, List.find?_cons, e]
theorem valV_neg {p : κ × V} {r : List (κ × V)} {k : κ} (e : ¬ p.1 = k) : valV (p :: r) k = valV r k := by simp [valV, List.find?_cons, e]
theorem valV_any (k : κ) : ∀ kvs : List (κ × V), (kvs.any fun kv => decide (kv.1 = k)) = (valV kvs k).isSome
  | [] => rfl
  | p :: r => by
    rw [List.any_cons]
    by_cases e : p.1 = k
    · simp only [valV_pos e, decide_eq_true e, Bool.true_or, Option.isSome_some]
    · rw [valV_neg e, decide_eq_false e, Bool.false_or]; exact valV_any k r
theorem length_putK (kvs : List (κ × V)) (k : κ) (v : V) : (putK kvs k v).length ≤ kvs.length + 1 := by
  unfold putK
  split
  · rw [List.length_map]; omega
  · rw [List.length_append, List.length_cons, List.length_nil]; omega
theorem putK_new {kvs : List (κ × V)} {k : κ} (v : V) (h : valV kvs k = none) : putK kvs k v = kvs ++ [(k, v)] := by
  unfold putK
  rw [valV_any, h]
  exact if_neg (by decide)

theorem RelO.isSome_eq {o : Option V} {u : Option Value} (r : RelO o u) : o.isSome = u.isSome := by
  cases o with
  | none => cases u with
    | none => rfl
    | some _ => exact (show False from r).elim
  | some _ => cases u with
    | none => exact (show False from r).elim
    | some _ => rfl
theorem RelO.getD {o : Option V} {u : Option Value} {d : V} {d' : Value} (r : RelO o u) (rd : RelV d d') : RelV (o.getD d) (u.getD d') := by
  cases o with
  | none => cases u with
    | none => exact rd
    | some _ => exact (show False from r).elim
  | some _ => cases u with
    | none => exact (show False from r).elim
    | some _ => exact r

theorem KV.val {kvs : List (κ × V)} {vs : List (κ × Value)} (r : KV kvs vs) (k : κ) : RelO (valV kvs k) (valueAt vs k) := by
  unfold KV at r
  induction r with
  | nil => exact True.intro
  | @cons p q ps qs h t ih =>
    obtain ⟨h1, h2⟩ := h
    by_cases e : p.1 = k
    · have e' : q.1 = k := h1.symm.trans e
      have b : valueAt (q :: qs) k = some q.2 := by simp [valueAt, List.find?_cons, e']
      rw [valV_pos e, b]; exact h2
    · have e' : ¬ q.1 = k := fun z => e (h1.trans z)
      have b : valueAt (q :: qs) k = valueAt qs k := by simp [valueAt, List.find?_cons, e']
      rw [valV_neg e, b]; exact ih
theorem KV.any {kvs : List (κ × V)} {vs : List (κ × Value)} (r : KV kvs vs) (k : κ) : (kvs.any fun kv => decide (kv.1 = k)) = vs.any fun kv => decide (kv.1 = k) := by
  unfold KV at r
  induction r with
  | nil => rfl
  | cons h t ih => rw [List.any_cons, List.any_cons, ih, h.1]
theorem KV.repl {kvs : List (κ × V)} {vs : List (κ × Value)} (r : KV kvs vs) (k : κ) {y : V} {u : Value} (ry : RelV y u) :
    KV (kvs.map fun kv => if kv.1 = k then (kv.1, y) else kv) (vs.map fun kv => if kv.1 = k then (kv.1, u) else kv) := by
  unfold KV at r ⊢
  induction r with
  | nil => exact .nil
  | @cons p q ps qs h t ih =>
    rw [List.map_cons, List.map_cons]
    refine .cons ?_ ih
    obtain ⟨h1, h2⟩ := h
    by_cases e : p.1 = k
    · rw [if_pos e, if_pos (h1.symm.trans e)]; exact ⟨h1, ry⟩
    · rw [if_neg e, if_neg (fun z => e (h1.trans z))]; exact ⟨h1, h2⟩
theorem KV.put {kvs : List (κ × V)} {vs : List (κ × Value)} (r : KV kvs vs) (k : κ) {y : V} {u : Value} (ry : RelV y u) : KV (putK kvs k y) (stored vs k u) := by
  unfold putK stored
  rw [r.any k]
  by_cases e : (vs.any fun kv => decide (kv.1 = k)) = true
  · rw [if_pos e, if_pos e]; exact r.repl k ry
  · rw [if_neg e, if_neg e]; exact Paired.snoc r ⟨rfl, ry⟩
theorem KV.length {kvs : List (κ × V)} {vs : List (κ × Value)} (r : KV kvs vs) : kvs.length = vs.length := Paired.length r
end


theorem kV_is {P : Program} {w : World} {k : Key} {u : Value} (r : RelV (kV k) u) : (mixKind P w).is k u = true := by
  cases k with
  | inl i => obtain ⟨t, e⟩ := (show ∃ t, u = Value.int i t from r); subst e; exact mixKind_int P w i t
  | inr x => obtain ⟨t, e⟩ := (show ∃ t, u = Value.str x t from r); subst e; exact mixKind_str P w x t
theorem items_are {P : Program} {w : World} : ∀ {ks : List Key} {us : List Value}, Vals (ks.map kV) us → ItemsAre (mixKind P w) ks us
  | [], _, r => by rw [List.map_nil] at r; cases r; exact .nil
  | k :: ks, _, r => by
    rw [List.map_cons] at r
    cases r with
    | cons h t => exact .cons (kV_is h) (items_are t)

abbrev KT (H : Hp) : List (List Key × V) → List (List Key × Addr × Value) → Prop := Paired fun p q => p.1 = q.1 ∧ H q.2.1 = some (.tup (p.1.map kV)) ∧ RelV p.2 q.2.2
theorem KT.val {H : Hp} {kvs : List (List Key × V)} {xs : List (List Key × Addr × Value)} (r : KT H kvs xs) (k : List Key) : RelO (valV kvs k) ((atKey xs k).map (·.2)) := by
  induction r with
  | nil => exact True.intro
  | @cons p q ps qs h t ih =>
    obtain ⟨h1, _, h2⟩ := h
    by_cases e : p.1 = k
    · have e' : q.1 = k := h1.symm.trans e
      have b : atKey (q :: qs) k = some q.2 := by simp [atKey, List.find?_cons, e']
      rw [valV_pos e, b]; exact h2
    · have e' : ¬ q.1 = k := fun z => e (h1.trans z)
      have b : atKey (q :: qs) k = atKey qs k := by simp [atKey, List.find?_cons, e']
      rw [valV_neg e, b]; exact ih
theorem KT.repl {H : Hp} {kvs : List (List Key × V)} {xs : List (List Key × Addr × Value)} (r : KT H kvs xs) (k : List Key) {y : V} {u : Value} (ry : RelV y u) :
    KT H (kvs.map fun kv => if kv.1 = k then (kv.1, y) else kv) (xs.map (putAt k u)) := by
  induction r with
  | nil => exact .nil
  | @cons p q ps qs h t ih =>
    rw [List.map_cons, List.map_cons]
    refine .cons ?_ ih
    obtain ⟨h1, h2, h3⟩ := h
    unfold putAt
    by_cases e : p.1 = k
    · rw [if_pos e, if_pos (h1.symm.trans e)]; exact ⟨h1, h2, ry⟩
    · rw [if_neg e, if_neg (fun z => e (h1.trans z))]; exact ⟨h1, h2, h3⟩
theorem KT.put {H : Hp} {kvs : List (List Key × V)} {xs : List (List Key × Addr × Value)} (r : KT H kvs xs) (k : List Key) {b : Addr} {y : V} {u : Value} (hb : H b = some (.tup (k.map kV))) (ry : RelV y u) :
    KT H (putK kvs k y) (storedH xs k b u) := by
  have e : (kvs.any fun kv => decide (kv.1 = k)) = (atKey xs k).isSome := by
    rw [valV_any, (r.val k).isSome_eq, Option.isSome_map]
  unfold putK storedH
  rw [e]
  by_cases q : (atKey xs k).isSome = true
  · rw [if_pos q, if_pos q]; exact r.repl k ry
  · rw [if_neg q, if_neg q]; exact Paired.snoc r ⟨rfl, hb, ry⟩
theorem KT.keeps {H H' : Hp} {kvs : List (List Key × V)} {xs : List (List Key × Addr × Value)} (r : KT H kvs xs) (ht : ∀ b ys, H b = some (.tup ys) → H' b = some (.tup ys)) : KT H' kvs xs :=
  Paired.mapP r fun _ _ z => ⟨z.1, ht _ _ z.2.1, z.2.2⟩

section
variable {P : Program} {w : World} {H : Hp} {h : Heap} {a : Addr}
theorem rd_of {u : HO} (ok : HOk P w H h) (e : Rd H a u) : ObjOk P w H h a u := e.ok ok
theorem dk_rd {kvs : List (Key × V)} (ok : HOk P w H h) (e : Rd H a (.dK kvs)) : kvs.length ≤ sizeLine ∧ (a == sysModules) = false ∧ ∃ vs, KV kvs vs ∧ h.DictOf (mixKind P w) a vs :=
  show ObjOk P w H h a (.dK kvs) from rd_of ok e
theorem dk_of {kvs : List (Key × V)} (ok : HOk P w H h) (e : H a = some (.dK kvs)) : kvs.length ≤ sizeLine ∧ (a == sysModules) = false ∧ ∃ vs, KV kvs vs ∧ h.DictOf (mixKind P w) a vs := dk_rd ok (.inl e)
theorem key_of {ks : List Key} (ok : HOk P w H h) (e : H a = some (.tup (ks.map kV))) : (tupleKind (mixKind P w)).is h ks a := by
  obtain ⟨_, its, r, o, h1, h2, n, h3⟩ := (show ObjOk P w H h a (.tup (ks.map kV)) from ok a _ e)
  exact ⟨o, its.toArray, n, h1, h2, h3, by simpa using items_are r⟩
theorem dt_rd {kvs : List (List Key × V)} (ok : HOk P w H h) (e : Rd H a (.dT kvs)) : kvs.length ≤ sizeLine ∧ (a == sysModules) = false ∧
    ∃ xs, KT H kvs xs ∧ h.DictOfH (tupleKind (mixKind P w)) a xs := by
  obtain ⟨z, y, xs, r, o, es, ep, h1, h2, h3, h4, h5⟩ := (show ObjOk P w H h a (.dT kvs) from rd_of ok e)
  refine ⟨z, y, xs, r, o, es, ep, h1, h2, h3, h4, fun x hx => ?_, h5⟩
  have all : ∀ {l : List (List Key × V)} {m : List (List Key × Addr × Value)}, KT H l m → ∀ x ∈ m, (tupleKind (mixKind P w)).is h x.1 x.2.1 := by
    intro l m q
    induction q with
    | nil => intro x hx; exact nomatch hx
    | @cons p q ps qs hq t ih =>
      intro x hx
      rcases List.mem_cons.mp hx with e | hx
      · subst e
        exact key_of ok (by rw [← hq.1]; exact hq.2.1)
      · exact ih x hx
  exact all r x hx
theorem dt_of {kvs : List (List Key × V)} (ok : HOk P w H h) (e : H a = some (.dT kvs)) : kvs.length ≤ sizeLine ∧ (a == sysModules) = false ∧
    ∃ xs, KT H kvs xs ∧ h.DictOfH (tupleKind (mixKind P w)) a xs := dt_rd ok (.inl e)
end

def DGet (H : Hp) (a : Addr) (y : V) (r : Option V) : Prop :=
  (∃ kvs k, Rd H a (.dK kvs) ∧ y = kV k ∧ r = valV kvs k) ∨ ∃ kvs k b, Rd H a (.dT kvs) ∧ y = .ref b ∧ H b = some (.tup (k.map kV)) ∧ r = valV kvs k
def DPut (H : Hp) (a : Addr) (y v : V) (H' : Hp) : Prop :=
  (∃ kvs k, H a = some (.dK kvs) ∧ y = kV k ∧ kvs.length < sizeLine ∧ H' = upd H a (.dK (putK kvs k v))) ∨
  ∃ kvs k b, H a = some (.dT kvs) ∧ y = .ref b ∧ H b = some (.tup (k.map kV)) ∧ kvs.length < sizeLine ∧ H' = upd H a (.dT (putK kvs k v))
theorem DPut.t {H : Hp} {a b : Addr} {kvs : List (List Key × V)} {k : List Key} {v : V} (e : H a = some (.dT kvs)) (eb : H b = some (.tup (k.map kV))) (hl : kvs.length < sizeLine) :
    DPut H a (.ref b) v (upd H a (.dT (putK kvs k v))) := .inr ⟨kvs, k, b, e, rfl, eb, hl, rfl⟩


section
variable {X : Cx} {pins : List (Addr × Obj)} {σ : St} {H : Hp} {s : Shared} {a : Addr} {y v : V} {u r : Value} {o : Option V} {A : Around} {E : Value → Shared → Prop}

theorem Inv.big (I : Inv X pins σ H s) : sysModules < s.heap.objs.size := by
  have h : mainGlobals < s.heap.objs.size := (I.mod.glob.keeps I.bk).lt
  exact Nat.lt_trans (by decide) h

theorem d_getItem {Q : Value → Shared → Prop} (hu : A.units + 1 < cLine) (I : Inv X pins σ H s) (g : DGet H a y (some v)) (ry : RelV y u) (h : ∀ w' s', Inv X pins σ H s' → RelV v w' → Q w' s') :
    wpAny (model X.prog X.w) A (getItem (.ref a) u) Q E s := by
  rcases g with ⟨kvs, k, e, ey, l⟩ | ⟨kvs, k, b, e, ey, eb, l⟩
  · subst ey
    obtain ⟨z, hd, vs, rel, dd⟩ := dk_rd I.hok e
    obtain ⟨w', hw, rw'⟩ := RelO.some_of (v := v) (o := valueAt vs k) (by rw [l]; exact rel.val k)
    exact wpAny_getItem_of (kV_is ry) dd.mapOf hw (h w' _ (I.tok _) rw')
  · subst ey
    cases (show u = Value.ref b from ry)
    obtain ⟨z, hd, xs, rel, dd⟩ := dt_rd I.hok e
    obtain ⟨w', hw, rw'⟩ := RelO.some_of (v := v) (o := (atKey xs k).map (·.2)) (by rw [l]; exact rel.val k)
    obtain ⟨p, hp, hp2⟩ := Option.map_eq_some_iff.mp hw
    refine wpAny_getItem_heap (tupleKind_room_in1 hu) (key_of I.hok eb) dd hp ?_
    rw [hp2]
    exact h w' _ (I.tok _) rw'
theorem d_in {Q : Value → Shared → Prop} (hu : A.units + 1 < cLine) (I : Inv X pins σ H s) (g : DGet H a y o) (ry : RelV y u) (h : ∀ s', Inv X pins σ H s' → Q (.bool o.isSome) s') :
    wpAny (model X.prog X.w) A (compareOp .In u (.ref a)) Q E s := by
  rcases g with ⟨kvs, k, e, ey, l⟩ | ⟨kvs, k, b, e, ey, eb, l⟩
  · subst ey
    obtain ⟨z, hd, vs, rel, dd⟩ := dk_rd I.hok e
    refine wpAny_in_of (kV_is ry) hd dd.mapOf ?_
    rw [← (rel.val k).isSome_eq, ← l]
    exact h _ (I.tok _)
  · subst ey
    cases (show u = Value.ref b from ry)
    obtain ⟨z, hd, xs, rel, dd⟩ := dt_rd I.hok e
    refine wpAny_in_heap (tupleKind_room_in1 hu) (key_of I.hok eb) hd dd ?_
    have q := (rel.val k).isSome_eq
    rw [Option.isSome_map] at q
    rw [← q, ← l]
    exact h _ (I.tok _)
theorem d_notIn {Q : Value → Shared → Prop} (hu : A.units + 1 < cLine) (I : Inv X pins σ H s) (g : DGet H a y o) (ry : RelV y u) (h : ∀ s', Inv X pins σ H s' → Q (.bool (!o.isSome)) s') :
    wpAny (model X.prog X.w) A (compareOp .NotIn u (.ref a)) Q E s := by
  rcases g with ⟨kvs, k, e, ey, l⟩ | ⟨kvs, k, b, e, ey, eb, l⟩
  · subst ey
    obtain ⟨z, hd, vs, rel, dd⟩ := dk_rd I.hok e
    refine wpAny_notIn_of (kV_is ry) hd dd.mapOf ?_
    rw [← (rel.val k).isSome_eq, ← l]
    exact h _ (I.tok _)
  · subst ey
    cases (show u = Value.ref b from ry)
    obtain ⟨z, hd, xs, rel, dd⟩ := dt_rd I.hok e
    refine wpAny_notIn_heap (tupleKind_room_in1 hu) (key_of I.hok eb) hd dd ?_
    have q := (rel.val k).isSome_eq
    rw [Option.isSome_map] at q
    rw [← q, ← l]
    exact h _ (I.tok _)
theorem d_write {h' : Heap} {t' : Nat} {ob : HO} (I : Inv X pins σ H s) (mu : Mut (H a)) (hs : Heap.SameBut a s.heap h') (he : ∃ q, h'.get? a = some q) (new : ObjOk X.prog X.w (upd H a ob) h' a ob) :
    Inv X pins σ (upd H a ob) { s with heap := h', toks := t' } :=
  I.write (x := a) (e := a) mu (.inl rfl) (fun b q hb z => (hs.2 b hb).trans z) he new
theorem dk_new {P : Program} {w : World} {H' : Hp} {h' : Heap} {kvs : List (Key × V)} {vs : List (Key × Value)} (z : kvs.length ≤ sizeLine) (hd : (a == sysModules) = false) (rel : KV kvs vs) (dd : h'.DictOf (mixKind P w) a vs) :
    ObjOk P w H' h' a (.dK kvs) := ⟨z, hd, vs, rel, dd⟩
theorem d_setItem {H' : Hp} {Q : Unit → Shared → Prop} (hu : A.units + 1 < cLine) (I : Inv X pins σ H s) (g : DPut H a y v H') (ry : RelV y u) (rv : RelV v r) (h : ∀ s', Inv X pins σ H' s' → Q () s') :
    wpAny (model X.prog X.w) A (setItem (.ref a) u r) Q E s := by
  rcases g with ⟨kvs, k, e, ey, l, eH⟩ | ⟨kvs, k, b, e, ey, eb, l, eH⟩
  · subst ey eH
    obtain ⟨z, hd, vs, rel, dd⟩ := dk_of I.hok e
    have hz : vs.length ≤ sizeLine := by rw [← rel.length]; exact z
    have hl : (putK kvs k v).length ≤ sizeLine := by have := length_putK kvs k v; omega
    refine wpAny_setItem_pairs (hsz := hz) (kV_is ry) dd fun h' dd' hs => h _ ?_
    have he : ∃ q, h'.get? a = some q := let ⟨q, _, _, hq, _⟩ := dd'; ⟨q, hq⟩
    exact d_write I (by rw [e]; exact True.intro) hs he (dk_new hl hd (rel.put k rv) dd')
  · subst ey eH
    cases (show u = Value.ref b from ry)
    obtain ⟨z, hd, xs, rel, dd⟩ := dt_of I.hok e
    have hz : xs.length ≤ sizeLine := by rw [← Paired.length rel]; exact z
    have hl : (putK kvs k v).length ≤ sizeLine := by have := length_putK kvs k v; omega
    refine wpAny_setItem_heap (hsz := hz) (tupleKind_room_in1 hu) (key_of I.hok eb) dd fun h' dd' hs => h _ ?_
    obtain ⟨q, es, ep, hq, h2, h3, h4, _, h5⟩ := dd'
    refine d_write I (by rw [e]; exact True.intro) hs ⟨q, hq⟩ ⟨hl, hd, _, (rel.put k eb rv).keeps fun c ys ec => ?_, q, es, ep, hq, h2, h3, h4, h5⟩
    rw [upd_ne (ne_of ec e (fun z => nomatch z))]
    exact ec
end

section
variable {X : Cx} {pins : List (Addr × Obj)} {σ : St} {H : Hp} {s : Shared} {a : Addr} {kvs : List (Key × V)} {k : Key} {u : Value} {A : Around} {E : Value → Shared → Prop}
end


def NoSl (i : Expr) : Prop := ∀ ov iv, subscripted i false ov iv = operate [ov, iv] (getItem ov iv)
theorem subD_of {prog : Program} {w : World} {A : Around} {E : Value → Shared → Prop} {s : Shared} {env : Env} {value slice : Expr} {pos : Pos} {T id : String} {Q : Value → Shared → Prop}
    (hl : typeLookup (.type T) "__getitem__" = pure (some (.builtin id))) (hs : NoSl slice)
    (h : wpAny (model prog w) A (eval value env) (fun o s₁ => wpAny (model prog w) A (eval slice env) (fun i s₂ => s₂.TypeIs o T ∧ wpAny (model prog w) A (getItem o i) Q E s₂) E s₁) E s) :
    wpAny (model prog w) A (eval (.Subscript value slice pos) env) Q E s := by
  refine Subscript_ (wpAny_mono h (fun o s₁ h₁ => wpAny_mono h₁ (fun i s₂ h₂ => ?_) fun _ _ x => x) fun _ _ x => x)
  obtain ⟨hT, h₂⟩ := h₂
  unfold subscriptTail
  refine wpAny_bind ?_
  rw [getitemInPython_of_ne hT.not_modules]
  refine wpAny_bind (wpAny_specialOf hT hl ?_)
  have fin : wpAny (model prog w) A (subscripted slice false o i) (fun r s₃ => wpAny (model prog w) A (letTemporaryGo value o r >>= fun _ => pure r) Q E s₃) E s₂ := by
    rw [hs o i]
    exact wpAny_operating (wpAny_mono h₂ (fun r s₃ h₃ => wpAny_bind (wpAny_letTemporaryGo (wpAny_pure h₃))) fun _ _ x => x)
  first
    | exact wpAny_pure (wpAny_bind fin)
    | exact wpAny_bind (wpAny_pure (wpAny_bind fin))
    | exact wpAny_bind fin

theorem dict_typeIs {X : Cx} {pins : List (Addr × Obj)} {σ : St} {H : Hp} {s : Shared} {a : Addr} {y : V} {o : Option V} (I : Inv X pins σ H s) (g : DGet H a y o) : s.TypeIs (.ref a) "dict" := by
  rcases g with ⟨kvs, k, e, _, _⟩ | ⟨kvs, k, b, e, _, _, _⟩
  · obtain ⟨_, _, vs, _, dd⟩ := dk_rd I.hok e
    exact dd.typeIs
  · obtain ⟨_, _, xs, _, dd⟩ := dt_rd I.hok e
    exact dd.typeIs
def tDGet (td ty : TE) : TE := fun σ H Q => td σ H fun x H1 => ty σ H1 fun y H2 => ∃ a v, x = .ref a ∧ DGet H2 a y (some v) ∧ Q v H2
def tDIn (ty td : TE) : TE := fun σ H Q => ty σ H fun y H1 => td σ H1 fun x H2 => ∃ a o, x = .ref a ∧ DGet H2 a y o ∧ Q (.bl o.isSome) H2
def tDNotIn (ty td : TE) : TE := fun σ H Q => ty σ H fun y H1 => td σ H1 fun x H2 => ∃ a o, x = .ref a ∧ DGet H2 a y o ∧ Q (.bl (!o.isSome)) H2
def sDPut (td ty tv : TE) : TS := fun D σ H => tv σ H fun v H1 => td σ H1 fun x H2 => ty σ H2 fun y H3 => ∃ a H4, x = .ref a ∧ DPut H3 a y v H4 ∧ D.nx σ H4
section
variable {X : Cx} {o i e value : Expr} {pos pos' tpos : Pos} {td ty tv : TE}
theorem pe_dget (hu : X.A.units + 1 < cLine) (ho : PE X o td) (hi : PE X i ty) (hs : NoSl i) : PE X (.Subscript o i pos) (tDGet td ty) := by
  intro pins s σ H Q I h
  refine subD_of PySem.F.slot_dict_getitem.lookup hs (thn (ho pins s σ H _ I h) fun u s1 ⟨x, H1, I1, rx, q1⟩ => thn (hi pins s1 σ H1 _ I1 q1) fun iv s2 ⟨y, H2, I2, ry, a, v, ex, g, q2⟩ => ?_)
  subst ex
  obtain rfl : u = Value.ref a := rx
  exact ⟨dict_typeIs I2 g, d_getItem hu I2 g ry fun w' s3 I3 rw' => ⟨v, H2, I3, rw', q2⟩⟩
theorem pc_din (hu : X.A.units + 1 < cLine) (hi : PE X i ty) (ho : PE X o td) : PC X .In i o (tDIn ty td) := by
  intro pins s σ H Q I h
  refine thn (hi pins s σ H _ I h) fun iv s1 ⟨y, H1, I1, ry, q1⟩ => thn (ho pins s1 σ H1 _ I1 q1) fun u s2 ⟨x, H2, I2, rx, a, ov, ex, g, q2⟩ => ?_
  subst ex
  obtain rfl : u = Value.ref a := rx
  exact d_in hu I2 g ry fun s3 I3 => ⟨.bl ov.isSome, H2, I3, rfl, q2⟩
theorem pc_dnotin (hu : X.A.units + 1 < cLine) (hi : PE X i ty) (ho : PE X o td) : PC X .NotIn i o (tDNotIn ty td) := by
  intro pins s σ H Q I h
  refine thn (hi pins s σ H _ I h) fun iv s1 ⟨y, H1, I1, ry, q1⟩ => thn (ho pins s1 σ H1 _ I1 q1) fun u s2 ⟨x, H2, I2, rx, a, ov, ex, g, q2⟩ => ?_
  subst ex
  obtain rfl : u = Value.ref a := rx
  exact d_notIn hu I2 g ry fun s3 I3 => ⟨.bl (!ov.isSome), H2, I3, rfl, q2⟩
theorem ps_dput (hu : X.A.units + 1 < cLine) (ho : PE X o td) (hi : PE X i ty) (hv : PE X value tv) (hs : swapsWith value (some (.Subscript o i pos')) pos.line X.env = pure false) :
    PS X (.Assign [.Subscript o i pos'] value pos) (sDPut td ty tv) := by
  intro pins s σ H D I h
  refine wpAny_Assign_Subscript (thn (hv pins s σ H _ I h) fun r s1 ⟨v, H1, I1, rv, q1⟩ => thn (ho pins s1 σ H1 _ I1 q1) fun u s2 ⟨x, H2, I2, rx, q2⟩ => thn (hi pins s2 σ H2 _ I2 q2) fun iv s3 ⟨y, H3, I3, ry, a, H4, ex, g, q3⟩ => ?_) hs
  subst ex
  obtain rfl : u = Value.ref a := rx
  exact d_setItem hu I3 g ry rv fun s4 I4 => ⟨σ, H4, I4, q3⟩
end


theorem dt_empty {P : Program} {w : World} {H : Hp} (h : Heap) (hb : sysModules < h.objs.size) : ObjOk P w H (h.push { cls := .type "dict", data := .dict #[] }) h.objs.size (.dT []) :=
  ⟨Nat.zero_le _, beq_eq_false_iff_ne.mpr (Ne.symm (Nat.ne_of_lt hb)), [], .nil, _, #[], 0, Heap.get?_push_size _ rfl, ⟨rfl, rfl, rfl⟩, rfl, rfl, List.nodup_nil⟩
def tDNewT : TE := fun _ H Q => ∀ p, H p = none → Q (.ref p) (upd H p (.dT []))
section
variable {X : Cx} {pos : Pos}
theorem pe_dnewT : PE X (.Dict [] [] pos) tDNewT := fun pins s σ H Q I h =>
  wpAny_Dict_empty ⟨.ref s.heap.objs.size, _, I.laid (a := s.heap.objs.size) (o := .dT []) (t' := s.toks) (fun _ _ q => Heap.get?_push_of_some _ q) (Nat.le_refl _) (dt_empty s.heap I.big), rfl, h _ (I.hok.fresh (Nat.le_refl _))⟩
end

structure M1 (X : Cx) (o : Expr) (m : Str) (apos : Pos) (e : Expr) (cpos : Pos) : Prop where
  base : attributeBase o m X.env (eval o X.env) = eval o X.env
  few : ((backTo cpos (starEach [e] X.env)).all (fun x => !x.1) && (backToKw cpos (keywordEach [] X.env)).all (fun x => x.1.isSome)
    && decide (([e] : List Expr).length + ([] : List Keyword).length + (if ([] : List Keyword).isEmpty then 0 else 1) < 30)) = true
  line : (apos.endLine == cpos.line) = true
  trees : backTo cpos (starEach [e] X.env) = [(false, eval e X.env)]
structure M2 (X : Cx) (o : Expr) (m : Str) (apos : Pos) (e f : Expr) (cpos : Pos) : Prop where
  base : attributeBase o m X.env (eval o X.env) = eval o X.env
  few : ((backTo cpos (starEach [e, f] X.env)).all (fun x => !x.1) && (backToKw cpos (keywordEach [] X.env)).all (fun x => x.1.isSome)
    && decide (([e, f] : List Expr).length + ([] : List Keyword).length + (if ([] : List Keyword).isEmpty then 0 else 1) < 30)) = true
  line : (apos.endLine == cpos.line) = true
  trees : backTo cpos (starEach [e, f] X.env) = [(false, eval e X.env), (false, eval f X.env)]

def IsD (H : Hp) (a : Addr) : Prop := (∃ kvs, Rd H a (.dK kvs)) ∨ ∃ kvs, Rd H a (.dT kvs)
theorem isD_at {X : Cx} {pins : List (Addr × Obj)} {σ : St} {H : Hp} {s : Shared} {a : Addr} (I : Inv X pins σ H s) (d : IsD H a) :
    s.TypeIs (.ref a) "dict" ∧ (∀ b, Value.ref a = .ref b → ∃ ob, s.heap.get? b = some ob ∧ ob.dict = none) ∧ (a == sysModules) = false := by
  rcases d with ⟨kvs, e⟩ | ⟨kvs, e⟩
  · obtain ⟨_, hd, vs, _, dd⟩ := dk_rd I.hok e
    refine ⟨dd.typeIs, fun b q => ?_, hd⟩
    cases q
    obtain ⟨ob, _, _, h1, h2, _⟩ := dd
    exact ⟨ob, h1, h2.2.1⟩
  · obtain ⟨_, hd, xs, _, dd⟩ := dt_rd I.hok e
    refine ⟨dd.typeIs, fun b q => ?_, hd⟩
    cases q
    obtain ⟨ob, _, _, h1, h2, _⟩ := dd
    exact ⟨ob, h1, h2.2.1⟩

section
variable {X : Cx} {pins : List (Addr × Obj)} {σ : St} {H : Hp} {s : Shared} {a : Addr} {y d : V} {u r : Value} {o : Option V} {A : Around} {E : Value → Shared → Prop}
theorem d_get1 {Q : Value → Shared → Prop} (hu : A.units + 1 < cLine) (I : Inv X pins σ H s) (g : DGet H a y o) (ry : RelV y u) (h : ∀ w' s', Inv X pins σ H s' → RelV (o.getD .non) w' → Q w' s') :
    wpAny (model X.prog X.w) A (call (.builtin "dict.get") [.ref a, u]) Q E s := by
  rcases g with ⟨kvs, k, e, ey, l⟩ | ⟨kvs, k, b, e, ey, eb, l⟩
  · subst ey
    obtain ⟨z, hd, vs, rel, dd⟩ := dk_rd I.hok e
    refine call_meetsIn PySem.F.slot_dict_get dd.typeIs PySem.F.entry_dict_get (PySem.F.args_dict_get_2 _ _) (meets_dict_get (mixKind X.prog X.w) a (kV_is ry) hd) ⟨_, dd.mapOf, h _ _ (I.tok _) ?_⟩
    rw [l]
    exact (rel.val k).getD rfl
  · subst ey
    cases (show u = Value.ref b from ry)
    obtain ⟨z, hd, xs, rel, dd⟩ := dt_rd I.hok e
    refine call_meetsIn PySem.F.slot_dict_get dd.typeIs PySem.F.entry_dict_get (PySem.F.args_dict_get_2 _ _) (meetsH_dict_get (tupleKind (mixKind X.prog X.w)) a b hd) ⟨tupleKind_room_in1 hu, k, xs, key_of I.hok eb, dd, h _ _ (I.tok _) ?_⟩
    rw [l]
    exact (rel.val k).getD rfl
theorem d_get2 {Q : Value → Shared → Prop} (hu : A.units + 1 < cLine) (I : Inv X pins σ H s) (g : DGet H a y o) (ry : RelV y u) (rd : RelV d r) (h : ∀ w' s', Inv X pins σ H s' → RelV (o.getD d) w' → Q w' s') :
    wpAny (model X.prog X.w) A (call (.builtin "dict.get") [.ref a, u, r]) Q E s := by
  rcases g with ⟨kvs, k, e, ey, l⟩ | ⟨kvs, k, b, e, ey, eb, l⟩
  · subst ey
    obtain ⟨z, hd, vs, rel, dd⟩ := dk_rd I.hok e
    refine call_meetsIn PySem.F.slot_dict_get dd.typeIs PySem.F.entry_dict_get (PySem.F.args_dict_get_3 _ _ _) (meets_dict_get_default (mixKind X.prog X.w) a (kV_is ry) hd r) ⟨_, dd.mapOf, h _ _ (I.tok _) ?_⟩
    rw [l]
    exact (rel.val k).getD rd
  · subst ey
    cases (show u = Value.ref b from ry)
    obtain ⟨z, hd, xs, rel, dd⟩ := dt_rd I.hok e
    refine call_meetsIn PySem.F.slot_dict_get dd.typeIs PySem.F.entry_dict_get (PySem.F.args_dict_get_3 _ _ _) (meetsH_dict_get_default (tupleKind (mixKind X.prog X.w)) a b hd r) ⟨tupleKind_room_in1 hu, k, xs, key_of I.hok eb, dd, h _ _ (I.tok _) ?_⟩
    rw [l]
    exact (rel.val k).getD rd
end

def tDGet1 (td ty : TE) : TE := fun σ H Q => td σ H fun x H1 => ∃ a, x = .ref a ∧ IsD H1 a ∧ ty σ H1 fun y H2 => ∃ o, DGet H2 a y o ∧ Q (o.getD .non) H2
def tDGet2 (td ty tx : TE) : TE := fun σ H Q => td σ H fun x H1 => ∃ a, x = .ref a ∧ IsD H1 a ∧ ty σ H1 fun y H2 => tx σ H2 fun z H3 => ∃ o, DGet H3 a y o ∧ Q (o.getD z) H3
section
variable {X : Cx} {o e f : Expr} {apos cpos : Pos} {td ty tx : TE}
theorem pe_dget1 (hu : X.A.units + 1 < cLine) (ho : PE X o td) (he : PE X e ty) (m : M1 X o "get" apos e cpos) : PE X (.Call (.Attribute o "get" apos) [e] [] cpos) (tDGet1 td ty) := by
  intro pins s σ H Q I h
  refine wpAny_Call_method m.base m.few m.line PySem.F.plainAttrs_dict PySem.F.slot_dict_get PySem.F.type_dict_get (thn (ho pins s σ H _ I h) fun u s1 ⟨x, H1, I1, rx, a, ex, d, q1⟩ => ?_)
  subst ex
  obtain rfl : u = Value.ref a := rx
  obtain ⟨t1, t2, _⟩ := isD_at I1 d
  refine ⟨t1, t2, ?_⟩
  rw [m.trees]
  refine Calls.callWith_builtin rfl (Calls.evalArgs_plain (Calls.spliced_cons (thn (he pins s1 σ H1 _ I1 q1) fun iv s2 ⟨y, H2, I2, ry, ov, g, q2⟩ => Calls.spliced_nil ?_)))
  exact d_get1 hu I2 g ry fun w' s3 I3 rw' => ⟨_, H2, I3, rw', q2⟩
theorem pe_dget2 (hu : X.A.units + 1 < cLine) (ho : PE X o td) (he : PE X e ty) (hf : PE X f tx) (m : M2 X o "get" apos e f cpos) : PE X (.Call (.Attribute o "get" apos) [e, f] [] cpos) (tDGet2 td ty tx) := by
  intro pins s σ H Q I h
  refine wpAny_Call_method m.base m.few m.line PySem.F.plainAttrs_dict PySem.F.slot_dict_get PySem.F.type_dict_get (thn (ho pins s σ H _ I h) fun u s1 ⟨x, H1, I1, rx, a, ex, d, q1⟩ => ?_)
  subst ex
  obtain rfl : u = Value.ref a := rx
  obtain ⟨t1, t2, _⟩ := isD_at I1 d
  refine ⟨t1, t2, ?_⟩
  rw [m.trees]
  refine Calls.callWith_builtin rfl (Calls.evalArgs_plain (Calls.spliced_cons (thn (he pins s1 σ H1 _ I1 q1) fun iv s2 ⟨y, H2, I2, ry, q2⟩ =>
    Calls.spliced_cons (thn (hf pins s2 σ H2 _ I2 q2) fun fv s3 ⟨z, H3, I3, rz, ov, g, q3⟩ => Calls.spliced_nil ?_))))
  exact d_get2 hu I3 g ry rz fun w' s4 I4 rw' => ⟨_, H3, I4, rw', q3⟩
end

section
variable {X : Cx} {pins : List (Addr × Obj)} {σ : St} {H : Hp} {s : Shared} {a : Addr} {kvs : List (Key × V)} {A : Around} {E : Value → Shared → Prop}
end


section
variable {X : Cx} {pins : List (Addr × Obj)} {σ : St} {H : Hp} {s : Shared} {a : Addr} {y : V} {u : Value} {A : Around} {E : Value → Shared → Prop}
end
end L2

namespace Att
open PySem PySem.W PySem.Calls PyProof.Rows

theorem ints_of_wellAll {P : Params} {h : Heap} : ∀ (ns : List Int) (vs : List Value), WellAll P h vs (ns.map WData.int) → IntsAre vs ns := by
  intro ns
  induction ns with
  | nil =>
    intro vs w
    rw [List.map_nil] at w
    cases w
    exact .nil
  | cons n ns ih =>
    intro vs w
    rw [List.map_cons] at w
    cases w with
    | cons a b =>
      cases a
      exact .cons _ _ (ih _ b)

theorem script_of {l : OpenLaw} {n : Nat} (hn : l.most = some n) {P : Params} {h : Heap} {args : List WData} {vals : List Value}
    (hpre : l.row.toRowW.claim.pre args = true) (hwl : WellAll P h vals args) :
    ∃ a vs ns, vals = [Value.ref a] ∧ args = [WData.list (ns.map WData.int)] ∧ h.get? a = some { cls := .type "list", data := .seq vs.toArray } ∧ IntsAre vs ns ∧ ns.length ≤ n := by
  have hsh : WShape.hasAll [] args [.list .int] = true := (pre_splitW hpre).1
  have hc : l.pre.holds [] { args := args } = true := (pre_splitW hpre).2
  obtain ⟨d, r, rfl, h1, h2⟩ := hasAllW_cons hsh
  obtain rfl := hasAllW_nil h2
  obtain ⟨xs, rfl, h3⟩ := hasW_list h1
  obtain ⟨ns, rfl⟩ := items_int h3
  have hlen : ns.length ≤ n := by
    unfold OpenLaw.pre at hc
    have h4 : (WTm.not (.lt (.lit (.int (n : Int))) (.len (.arg 0)))).holds [] { args := [.list (ns.map .int)] } = true := by
      have h4 := (holds_andW hc).1
      rw [hn] at h4
      exact h4
    have h5 := condW_of h4 (w_not (w_lt w_lit (w_len_list (w_arg rfl))))
    rw [List.length_map] at h5
    refine Nat.le_of_not_lt fun q => ?_
    have q' : (n : Int) < ((ns.length : Nat) : Int) := by omega
    first
      | (rw [decide_eq_true q'] at h5; exact absurd h5 (by decide))
      | (simp at h5; omega)
  cases hwl with
  | cons w1 w2 =>
    cases w2
    cases w1 with
    | list ho hall => exact ⟨_, _, ns, rfl, rfl, ho, ints_of_wellAll ns _ hall, hlen⟩

theorem post_true (l : OpenLaw) (args : List WData) : l.row.toRowW.claim.post args (.bool true) args = true :=
  postW_of (r := l.row.toRowW) (X := (true == true))
    (show WShape.has [] (.bool true) .bool = true by first | rfl | decide | simp [WShape.has, WShape.arms, WShape.armsAll])
    (show (WTm.eq .res (.lit (.bool true))).value [] { args := args, res := some (.bool true), after := args } = some (.bool (true == true)) from w_eq_bool (w_res rfl) w_lit) rfl

theorem attach_call {l : OpenLaw} {n : Nat} {q : Program} {loose : List Str} {XP : (Str → Option Value) → Heap → Prop} {YP : World → Heap → Prop} {d : DefRec}
    (hn : l.most = some n) (hdf : d.params.defaults = [])
    (call : ∀ (w : World) (s₀ s₁ : Shared) (mg mb : Str → Option Value) (fa : Addr) (o : Obj) (pm cd doc : Value) (a : Addr) (vs : List Value) (ns : List Int),
      Ground q loose [] XP w s₀ mg mb s₁.heap → YP w s₁.heap →
      s₁.heap.get? fa = some o → o.data = .func (docDef d.name d.params d.body d.scope pm cd doc) → s₁.heap.CodeRec cd d.name → mg d.name = some (.ref fa) →
      s₁.heap.get? a = some { cls := .type "list", data := .seq vs.toArray } → IntsAre vs ns → ns.length ≤ n → s₁.gens = #[] →
      codeAny (model l.prog w) callerA (.call (.ref fa) ⟨[.ref a], []⟩) (fun r s' => r = .ok (.ret (.bool true)) ∧ OldK s₁.heap s'.heap ∧ s'.os = s₁.os ∧ AllBare s'.gens) s₁) :
    WalkO q loose XP YP l.row.toRowW d [] (fun f vs => PySem.call f vs) := by
  intro w s₀ s₁ mg mb G Y fa o pm cd doc dV kV ho hd hcd hD hmg hg args vals as hpre hlay hrd hwl hlo
  obtain rfl : dV = .none := Dflts.none hD hdf
  obtain rfl : kV = .none := Dflts.noKw hD
  obtain ⟨a, vs, ns, rfl, rfl, hobj, hints, hlen⟩ := script_of hn hpre hwl
  refine enter_call (codeAny_mono (call w s₀ s₁ mg mb fa o pm cd doc a vs ns G Y ho (fd_plain hd) hcd hmg hobj hints hlen hg) fun r s' hq => ?_)
  obtain ⟨rfl, h2, h3, h4⟩ := hq
  exact ⟨.inl ⟨.bool true, .bool true, [], rfl, fun _ => rfl, .bool true, post_true l _, fun _ => ⟨List.Pairwise.nil, fun _ hm => (nomatch hm)⟩⟩, h2, h3, h4⟩

section
variable {prog : Program} {w : World} {A : Around} {E : Value → Shared → Prop} {s : Shared} {K : Frag}

end
end Att

namespace L2
open PySem PySem.Spec PyProof.Rows

theorem vals_ints : ∀ {vs : List Value} {ns : List Int}, IntsAre vs ns → Vals (ns.map V.int) vs
  | _, _, .nil => .nil
  | _, _, .cons n t h => .cons ⟨t, rfl⟩ (vals_ints h)

def Only (H : Hp) : Prop := ∀ b, H b = none ∨ ∃ o xs, H b = some (.frz o (.lst xs))

theorem law_call {P : Program} {w : World} {K : PySem.W.Frag} {mg mb : Str → Option Value} {CX : CXT} {k : Nat} {fa a : Addr} {fd : FuncData} {x : Str} {sp : Sp} {s₁ : Shared} {vs : List Value} {ns : List Int}
    (KX : K.In s₁.heap) (hns : s₁.heap.Ns mainGlobals mg) (hb : s₁.heap.Ns builtinsNs mb) (hbb : ∀ x : Str, x ≠ "__name__" → mb x = bootBuiltins x) (hlim : s₁.heap.NoLimit) (hg : s₁.gens = #[])
    (ha : s₁.heap.get? a = some { cls := .type "list", data := .seq vs.toArray }) (hi : IntsAre vs ns) (hl : ns.length ≤ sizeLine) (hr : Room k callerA)
    (F : ∀ base : Heap, K.In base → base.Ns mainGlobals mg → FnOk P w K mg base CX k fa fd [x] sp) (hbind : ∀ (s : Shared) (u : Value), BindsTo s fd ⟨[u], []⟩ [(x, u)])
    (hsp : ∀ H : Hp, Only H → SqL K H a (ns.map V.int) → sp [.ref a] H (fun v _ => v = .bl true) fun _ _ _ => False)
    (hCX : ∀ H e s', CX [] H s₁ (fun _ _ _ => False) e s' → False) :
    codeAny (model P w) callerA (.call (.ref fa) ⟨[.ref a], []⟩) (fun r s' => r = .ok (.ret (.bool true)) ∧ OldK s₁.heap s'.heap ∧ s'.os = s₁.os ∧ AllBare s'.gens) s₁ := by
  have rv := vals_ints hi
  have lenV := hi.length
  -- from an abstract heap in which nothing but the script may be tracked
  have core : ∀ H : Hp, Only H → SqL K H a (ns.map V.int) → HOk P w H s₁.heap → (∀ b, H b ≠ none → b = a) → (H a ≠ none → K.lookup a = none) →
      codeAny (model P w) callerA (.call (.ref fa) ⟨[.ref a], []⟩) (fun r s' => r = .ok (.ret (.bool true)) ∧ OldK s₁.heap s'.heap ∧ s'.os = s₁.os ∧ AllBare s'.gens) s₁ := by
    intro H hO hS hok hA hK
    have base_of : ∀ {b : Addr} {o : Obj}, s₁.heap.get? b = some o → H b = none → (hidT s₁.heap H).get? b = some o := fun e n => hidT_get e n
    have noA : ∀ {b : Addr} {o : Obj} {es : Array DictEntry} {ep : Nat}, s₁.heap.get? b = some o → o.data = .dict es ep → H b = none := fun {b o es ep} e d => by
      cases q : H b with
      | none => rfl
      | some u =>
        have e' : b = a := hA b (by rw [q]; simp)
        subst e'
        rw [ha] at e; cases e
        have d' : Data.seq vs.toArray _ = Data.dict es ep := d
        cases d'
    have nsK : ∀ {b : Addr} {m : Str → Option Value}, s₁.heap.Ns b m → (hidT s₁.heap H).Ns b m := fun {b m} ⟨o, es, ep, e, d, r⟩ => ⟨o, es, ep, base_of e (noA e d), d, r⟩
    have hKb : K.In (hidT s₁.heap H) := fun b o e => base_of (KX b o e) (by
      cases q : H b with
      | none => rfl
      | some u =>
        have e' : b = a := hA b (by rw [q]; simp)
        subst e'
        rw [hK (by rw [q]; simp)] at e; cases e)
    have hM : Mod K mg (hidT s₁.heap H) := ⟨hKb, nsK hns, ⟨mb, nsK hb, hbb⟩, let ⟨mc, h1, h2⟩ := hlim; ⟨mc, nsK h1, h2⟩⟩
    have e0 : Env0 P w K mg (hidT s₁.heap H) callerA [] s₁ H := ⟨rfl, hM, fun b o e => of_hidT e, Nat.le_of_eq (hidT_size _ _), trivial, fun b hb => absurd (show b ∈ ([] : List Addr) from hb) (by simp), hok, .of_eq hg⟩
    refine codeAny_mono ((F _ hKb (nsK hns)).run callerA [] s₁ H ⟨[.ref a], []⟩ [.ref a] [.ref a] _ _ hr e0 (hbind s₁ (.ref a)) (.cons rfl .nil) (hsp H hO hS)) fun r s' h => ?_
    cases r with
    | error e => exact (hCX H e s' h).elim
    | ok fl =>
      cases fl with
      | next => exact False.elim h
      | brk => exact False.elim h
      | cont => exact False.elim h
      | ret u =>
        obtain ⟨v, H', os, bare, un, hok', r', q⟩ := h
        have q' : v = .bl true := q
        subst q'
        obtain rfl : u = Value.bool true := r'
        refine ⟨rfl, OldK.of_keep fun b o e => ?_, os, bare⟩
        cases q : H b with
        | none => exact un.keep b o e q (by intro z; exact absurd (show b ∈ ([] : List Addr) from z) (by simp)) (by simp)
        | some u =>
          rcases hO b with z | ⟨ob, xs, z⟩
          · rw [q] at z; cases z
          · have z2 := un.frzs b ob _ z
            obtain ⟨e1, _⟩ := hok b _ z
            obtain ⟨e2, _⟩ := hok' b _ z2
            rw [e] at e1; cases e1
            exact e2
  cases hk : K.lookup a with
  | some o =>
    -- the script is one of the module's own objects
    have e := KX a o hk
    rw [ha] at e
    cases e
    refine core (fun _ => none) (fun _ => .inl rfl) (.inr ⟨_, vs.toArray, _, hk, rfl, rfl, rfl, by rw [List.size_toArray, lenV]; exact hl, by simpa using rv⟩) (fun b u z => by have z' : (none : Option HO) = some u := z; cases z') (fun b z => absurd rfl z) fun z => absurd rfl z
  | none =>
    refine core (fun b => if b = a then some (.frz { cls := .type "list", data := .seq vs.toArray } (.lst (ns.map V.int))) else none) (fun b => ?_) (.inl (.inr ⟨{ cls := .type "list", data := .seq vs.toArray }, if_pos rfl⟩)) (fun b u z => ?_) (fun b z => ?_) fun _ => hk
    · by_cases hb : b = a
      · exact .inr ⟨_, _, if_pos hb⟩
      · exact .inl (if_neg hb)
    · by_cases hb : b = a
      · have z' := (if_pos hb).symm.trans z
        cases z'
        subst hb
        exact ⟨ha, by rw [List.length_map]; exact hl, vs, _, rv, ha⟩
      · have z' := (if_neg hb).symm.trans z
        cases z'
    · by_cases hb : b = a
      · exact hb
      · exact absurd (if_neg hb) z
end L2

namespace L2
open PySem PySem.Spec PyProof.Rows

abbrev KOf {K : PySem.W.Frag} {h : Heap} (_ : K.In h) : PySem.W.Frag := K

theorem walk_of {l : PySem.W.OpenLaw} {n k : Nat} {q : Program} {loose : List Str} {XP : (Str → Option Value) → Heap → Prop} {YP : World → Heap → Prop} {d : DefRec} {K : Params → PySem.W.Frag} {CX : World → CXT} {sp : World → Sp} {x : Str}
    (hn : l.most = some n) (hn2 : n ≤ sizeLine) (hdf : d.params.defaults = []) (hr : Room k callerA)
    (hY : ∀ (w : World) (h : Heap), YP w h → (K w.params).In h)
    (F : ∀ (w : World) (mg : Str → Option Value) (fa : Addr) (h : Heap), (K w.params).In h → h.Ns mainGlobals mg → mg d.name = some (.ref fa) →
      ∃ fd : FuncData, (∀ (s : Shared) (u : Value), BindsTo s fd ⟨[u], []⟩ [(x, u)]) ∧
        ∀ base : Heap, (K w.params).In base → base.Ns mainGlobals mg → FnOk l.prog w (K w.params) mg base (CX w) k fa fd [x] (sp w))
    (hsp : ∀ (w : World) (H : Hp) (a : Addr) (ns : List Int), ns.length ≤ n → Only H → SqL (K w.params) H a (ns.map V.int) → sp w [.ref a] H (fun v _ => v = .bl true) fun _ _ _ => False)
    (hCX : ∀ (w : World) (H : Hp) (s : Shared) (e : Value) (s' : Shared), CX w [] H s (fun _ _ _ => False) e s' → False) :
    PySem.W.WalkO q loose XP YP l.row.toRowW d [] (fun f vs => PySem.call f vs) := by
  refine Att.attach_call hn hdf fun w s₀ s₁ mg mb fa o pm cd doc a vs ns G Y ho hd hcd hmg hobj hints hlen hg => ?_
  have KX := hY w _ Y
  obtain ⟨fd, hb, hF⟩ := F w mg fa _ KX G.T.g hmg
  exact law_call KX G.T.g G.T.b G.T.builtins G.T.nolimit hg hobj hints (Nat.le_trans hlen hn2) hr hF hb (fun H hO hS => hsp w H a ns hlen hO hS) fun H e s' => hCX w H s₁ e s'
end L2

/- THE LAST THEOREM (shape; LID, My.* are yours):
   My.Adr: a structure of the addresses that your layer names (classes, functions); My.Txt K t: a structure (Prop) of the equations over K;
   My.txt_mk : {K} {implicit addresses ..} (e1 : nsIn K mainGlobals "law" = some (some (.ref f))) (e2 : K.lookup f = some ⟨oc, od, .func (fnOf "law" "law" params body scope dV kV doc pm an cdv ct), sl⟩) (e3 : codeIn K cdv "law" = true) .. : ∃ t, My.Txt K t

set_option maxRecDepth 100000 in
set_option maxHeartbeats 0 in
theorem PySem.Challenge.cw_LID_holds : PySem.Challenge.rw_LID.Holds := by
  w_on; o_law; k_head; (case hw => w_witness2)
  k_fill
  refine L2.walk_of (l := PySem.Challenge.rw_LID) (n := 63) (k := 40) (x := "script") (CX := fun w => ..) (sp := fun _ => My.sp_law) rfl (by decide) rfl ⟨rfl, by decide, by decide⟩ (fun w h Y => PySem.W.kIn_of Y) ?F ?S ?C
  case F =>
    intro w mg fa h KX G hmg
    have T : ∃ t, My.Txt (L2.KOf KX) t := by
      dsimp only [L2.KOf]                          -- K must stand as «<heap const> w.params» for k_is
      refine' My.txt_mk ?e1 ?e2 ?e3 ..
      (case e1 => PySem.W.k_is)                    -- in the order: a name -> its address -> its object -> its parts
      (case e2 => PySem.W.k_is)
      ..
    obtain ⟨t, T⟩ := T
    have e0 := hmg.symm.trans (PySem.W.mg_of KX G T.law)
    cases e0                                       -- fa is the law's own address
    exact ⟨_, fun s u => .of_eq rfl, fun base kb nb => My.law_fn T kb nb⟩     -- if «.of_eq rfl» comes too early: refine' ⟨_, ?b, fun base kb nb => My.law_fn T kb nb⟩; exact fun s u => .of_eq rfl
  case S => exact fun w H a ns hl hO hS => ..
  case C => exact ..
(the tactic k_is has no namespace: write k_is) -/

namespace L2
open PySem PySem.Spec PyProof.Rows

def inClass (s : Stmt) (j : Nat) : Stmt := match s with
  | .ClassDef _ _ _ body _ _ _ _ _ _ _ => body.getD j (.Pass ⟨0, 0, 0, 0⟩)
  | _ => .Pass ⟨0, 0, 0, 0⟩
def defArgs (s : Stmt) : Arguments := match s with
  | .FunctionDef _ a _ _ _ _ _ _ _ _ => a
  | _ => { posonlyargs := [], args := [], vararg := none, kwonlyargs := [], kw_defaults := [], kwarg := none, defaults := [] }
def defBody (s : Stmt) : List Stmt := match s with
  | .FunctionDef _ _ b _ _ _ _ _ _ _ => b
  | _ => []
def defScope (s : Stmt) : Scope := match s with
  | .FunctionDef _ _ _ _ _ _ sc _ _ _ => sc
  | _ => { kind := .function, names := [], isGenerator := false, isCoroutine := false }

abbrev CX0 : CXT := fun _ _ _ _ _ _ => False
abbrev E0 : XK := fun _ _ _ => False
theorem pass0 {X : Cx} : Passes CX0 X E0 := fun _ _ _ _ _ _ _ h => h.elim

structure Fun (K : PySem.W.Frag) (x qual : Str) (st : Stmt) (f : Addr) (fd : FuncData) : Prop where
  ex : ∃ (oc : Value) (od : Option Addr) (kV doc pm : Value) (an : Option Addr) (cdv ct : Value) (osl : Array (Option Value)),
    fd = PySem.W.fnOf x qual (defArgs st) (defBody st) (defScope st) .none kV doc pm an cdv ct ∧ K.lookup f = some ⟨oc, od, .func fd, osl⟩ ∧ PySem.W.codeIn K cdv qual = true
  kp : PySem.W.keepIn K (.ref f) = true
section
variable {P : Program} {w : World} {K : PySem.W.Frag} {mg : Str → Option Value} {base : Heap}
theorem Fun.ok {x qual : Str} {st : Stmt} {f : Addr} {fd : FuncData} {N ps : List Str} {k : Nat} {sp : Sp} (F : Fun K x qual st f fd) (S : FnScope N ps (defScope st)) (len : ∀ vs H Q E, sp vs H Q E → vs.length = ps.length)
    (hbody : ∀ (cdv : Value) (A : Around) (outer : List Env) (s : Shared) (H : Hp) (vs : List V) (Q : VK) (E : XK), Room k (A.deeper (envOfC qual (defScope st) s.heap.objs.size f cdv)) → sp vs H Q E →
      ∃ t, PSs (cxOf CX0 P w K mg base N qual (defScope st) f cdv A outer s H E).nox (defBody st) t ∧ t { nx := fun _ H' => Q .non H', rt := Q } (start N vs) H) : FnOk P w K mg base CX0 (k + 1) f fd ps sp := by
  obtain ⟨oc, od, kV, doc, pm, an, cdv, ct, osl, rfl, lk, hcd⟩ := F.ex
  refine fn_of lk hcd S len fun A outer s H vs Q E hr hsp => ?_
  obtain ⟨t, h, q⟩ := hbody cdv A outer s H vs Q E hr hsp
  exact ⟨t, h.nox, q⟩
theorem Fun.binds {x qual : Str} {st : Stmt} {f : Addr} {fd : FuncData} {ps : List Str} (F : Fun K x qual st f fd)
    (h : ∀ (kV doc pm : Value) (an : Option Addr) (cdv ct : Value) (us : List Value), us.length = ps.length → bindArgs (PySem.W.fnOf x qual (defArgs st) (defBody st) (defScope st) .none kV doc pm an cdv ct) ⟨us, []⟩ = pure (ps.zip us)) : Binds K fd ps [] := by
  obtain ⟨oc, od, kV, doc, pm, an, cdv, ct, osl, rfl, lk, hcd⟩ := F.ex
  exact .all (h kV doc pm an cdv ct)
theorem fun_mk {x qual : Str} {st : Stmt} {f : Addr} {oc : Value} {od an : Option Addr} {osl : Array (Option Value)} {kV doc pm cdv ct : Value} (l : K.lookup f = some ⟨oc, od, .func (PySem.W.fnOf x qual (defArgs st) (defBody st) (defScope st) .none kV doc pm an cdv ct), osl⟩)
    (c : PySem.W.codeIn K cdv qual = true) (k : PySem.W.keepIn K (.ref f) = true) : Fun K x qual st f (PySem.W.fnOf x qual (defArgs st) (defBody st) (defScope st) .none kV doc pm an cdv ct) := ⟨⟨oc, od, kV, doc, pm, an, cdv, ct, osl, rfl, l, c⟩, k⟩
end
theorem hu_of {A : Around} {k : Nat} (hr : Room k A) : A.units + 1 < cLine := Nat.lt_of_le_of_lt (Nat.add_le_add_left (by decide : 1 ≤ 64) _) hr.units
theorem small1000 {n : Nat} (h : n ≤ 1000) : n < sizeLine := Nat.lt_of_le_of_lt h (by decide)

section
variable {X : Cx}
theorem pv (i : Nat) {x : Str} {pos : Pos} (hN : X.N[i]? = some x := by rfl) (hv : Vis X.env.scope x := by first | exact Or.inl rfl | exact Or.inr (Or.inl rfl) | exact Or.inr (Or.inr rfl)) (hd : (x == ("__debug__" : Str)) = false := by decide)
    (hcd : (x == ("__classdict__" : Str)) = false := by decide) : PE X (.Name x pos) (tVar i) := pe_var hN hv hd hcd
end

theorem iteF {A B : Prop} (h : B) : if false = true then A else B := by
  rw [if_neg Bool.false_ne_true]
  exact h
theorem iteT {A B : Prop} (h : A) : if true = true then A else B := by
  rw [if_pos rfl]
  exact h
theorem ite2 {c A B : Prop} [Decidable c] (h1 : c → A) (h2 : ¬ c → B) : if c then A else B := by
  by_cases h : c
  · rw [if_pos h]
    exact h1 h
  · rw [if_neg h]
    exact h2 h
def Same (H H' : Hp) : Prop := ∀ b o, H b = some o → H' b = some o
theorem Same.refl (H : Hp) : Same H H := fun _ _ h => h
theorem Same.trans {H H1 H2 : Hp} (a : Same H H1) (b : Same H1 H2) : Same H H2 := fun c o h => b c o (a c o h)
theorem Same.free {H H' : Hp} (e : Same H H') {l : Addr} (h : H' l = Option.none) : H l = Option.none := by
  cases q : H l with
  | none => rfl
  | some o =>
    rw [e l o q] at h
    cases h
theorem Same.seq {K : PySem.W.Frag} {H H' : Hp} {a : Addr} {xs : List V} (e : Same H H') (h : SqL K H a xs) : SqL K H' a xs := by
  rcases h with (h | ⟨o, h⟩) | h
  · exact .inl (.inl (e _ _ h))
  · exact .inl (.inr ⟨o, e _ _ h⟩)
  · exact .inr h

section
variable {κ : Type} [DecidableEq κ]
end
end L2

set_option Elab.async false
set_option linter.all false
set_option maxRecDepth 100000
namespace L2
open PySem PySem.Spec PyProof.Rows

structure Dn (K : PySem.W.Frag) (mg : Str → Option Value) (x qual : Str) (st : Stmt) (f : Addr) (fd : FuncData) (ps : List Str) : Prop where
  F : Fun K x qual st f fd
  m : mg x = some (.ref f)
  b : Binds K fd ps []
  a : ∀ (s : Shared) (us : List Value), us.length = ps.length → BindsTo s fd ⟨us, []⟩ (ps.zip us)
theorem len1 {F : List Value → Prop} (h : ∀ a, F [a]) : ∀ us : List Value, us.length = 1 → F us
  | [a], _ => h a
theorem len2 {F : List Value → Prop} (h : ∀ a b, F [a, b]) : ∀ us : List Value, us.length = 2 → F us
  | [a, b], _ => h a b
theorem len3 {F : List Value → Prop} (h : ∀ a b c, F [a, b, c]) : ∀ us : List Value, us.length = 3 → F us
  | [a, b, c], _ => h a b c
theorem dn_mk {K : PySem.W.Frag} {mg : Str → Option Value} {x qual : Str} {st : Stmt} {f : Addr} {ps : List Str} {kV doc pm cdv ct : Value} {an : Option Addr}
    (F : Fun K x qual st f (PySem.W.fnOf x qual (defArgs st) (defBody st) (defScope st) .none kV doc pm an cdv ct)) (m : mg x = some (.ref f))
    (h : ∀ (kV doc pm : Value) (an : Option Addr) (cdv ct : Value) (us : List Value), us.length = ps.length → bindArgs (PySem.W.fnOf x qual (defArgs st) (defBody st) (defScope st) .none kV doc pm an cdv ct) ⟨us, []⟩ = pure (ps.zip us)) :
    Dn K mg x qual st f (PySem.W.fnOf x qual (defArgs st) (defBody st) (defScope st) .none kV doc pm an cdv ct) ps :=
  ⟨F, m, F.binds h, fun s us hl => .of_eq (h _ _ _ _ _ _ us hl)⟩
theorem Dn.bind1 {K : PySem.W.Frag} {mg : Str → Option Value} {x qual : Str} {st : Stmt} {f : Addr} {fd : FuncData} {p : Str} (D : Dn K mg x qual st f fd [p]) (s : Shared) (u : Value) : BindsTo s fd ⟨[u], []⟩ [(p, u)] := D.a s [u] rfl
section
variable {X : Cx} {k : Nat} {f : Addr} {fd : FuncData} {ps : List Str} {sp : Sp} {x qual : Str} {st : Stmt} {p pos : Pos} {e : Expr} {es : List Expr} {t : TA}
theorem pcall (D : Dn X.K X.mg x qual st f fd ps) (F : FnOk X.prog X.w X.K X.mg X.base CX0 k f fd ps sp) (hr : Room k X.A) (ha : PA X (e :: es) t) (hg : Gl X x := by rfl)
    (hdb : (x == ("__debug__" : Str)) = false := by decide) (he : starEach (e :: es) X.env = (false, eval e X.env) :: starEach es X.env := by rfl) (hpl : (backTo pos (starEach es X.env)).any (·.1) = false := by rfl) :
    PE X (.Call (.Name x p) (e :: es) [] pos) (tCall sp [] E0 t) := pe_call F hr hg D.m D.F.kp D.b .nil pass0 ha hdb he hpl
end

def relOf : Value → Option V
  | .int i _ => some (.int i)
  | .str x _ => some (.str x)
  | .bool b => some (.bl b)
  | .none => some .non
  | .ref a => some (.ref a)
  | _ => none
def relAll : List Value → Option (List V)
  | [] => some []
  | u :: r => match relOf u, relAll r with
    | some v, some vs => some (v :: vs)
    | _, _ => none
theorem relOf_ok {u : Value} {v : V} (h : relOf u = some v) : RelV v u := by
  cases u <;> simp only [relOf, Option.some.injEq, reduceCtorEq] at h <;> subst h <;> first | rfl | exact ⟨_, rfl⟩
theorem relAll_ok : ∀ {us : List Value} {vs : List V}, relAll us = some vs → Vals vs us
  | [], _, h => by cases h; exact .nil
  | u :: r, vs, h => by
    unfold relAll at h
    split at h
    · rename_i v ws h1 h2
      cases h
      exact .cons (relOf_ok h1) (relAll_ok h2)
    · cases h
theorem Same.sqT {K : PySem.W.Frag} {H H' : Hp} {a : Addr} {xs : List V} (e : Same H H') (h : SqT K H a xs) : SqT K H' a xs := by
  rcases h with (h | ⟨o, h⟩) | h
  · exact .inl (.inl (e _ _ h))
  · exact .inl (.inr ⟨o, e _ _ h⟩)
  · exact .inr h
theorem same_upd {H : Hp} {p : Addr} {o : HO} (h : H p = none) : Same H (upd H p o) := fun b u e => by
  rw [upd_ne (ne_of_none e h)]
  exact e

inductive TyV (K : PySem.W.Frag) (H : Hp) : V → Value → Prop where
  | non : TyV K H .non (.type "NoneType")
  | bl (x : Bool) : TyV K H (.bl x) (.type "bool")
  | int (i : Int) : TyV K H (.int i) (.type "int")
  | str (x : Str) : TyV K H (.str x) (.type "str")
  | lst {a : Addr} {xs : List V} (e : SqL K H a xs) : TyV K H (.ref a) (.type "list")
  | tup {a : Addr} {xs : List V} (e : SqT K H a xs) : TyV K H (.ref a) (.type "tuple")
  | dK {a : Addr} {kvs : List (Key × V)} (e : H a = some (.dK kvs)) : TyV K H (.ref a) (.type "dict")
  | dT {a : Addr} {kvs : List (List Key × V)} (e : H a = some (.dT kvs)) : TyV K H (.ref a) (.type "dict")
def cV : V → Value
  | .ty n => .type n
  | .ref a => .ref a
  | _ => .none
def isCV : V → Bool
  | .ty _ => true
  | .ref _ => true
  | _ => false
section
variable {X : Cx}
theorem call_isi : CallR X (.builtin "isinstance") (fun xs H Q => ∃ x c t b, xs = [x, c] ∧ isCV c = true ∧ TyV X.K H x t ∧ PySem.W.kitOne X.K t (cV c) = some b ∧ Q (.bl b) H) := by
  intro pins s σ H xs us Q I r h
  obtain ⟨x, c, t, b, rfl, hc, ty, e, q⟩ := h
  obtain ⟨u, v, rfl, rx, rc⟩ := vals2 r
  have ec : v = cV c := by
    cases c with
    | ty n => exact rc
    | ref a => exact rc
    | _ => exact absurd hc Bool.false_ne_true
  subst ec
  have fin : ∀ tk, EP X pins σ Q (.bool b) { s with toks := tk } := fun tk => ⟨.bl b, H, I.tok tk, rfl, q⟩
  cases ty with
  | non => exact isinst_ok I rx .non e fin
  | bl y => exact isinst_ok I rx (.bl y) e fin
  | int i => exact isinst_ok I rx (.int i) e fin
  | str y => exact isinst_ok I rx (.str y) e fin
  | @lst a ys ea =>
    cases (show u = Value.ref a from rx)
    obtain ⟨its, _, ⟨o, n, h1, h2, _⟩, _⟩ := I.list ea
    exact PySem.W.kia_one PySem.W.kitx_list I.kIn ⟨o, h1, h2⟩ e (fun z => nomatch z) fin
  | @tup a ys ea =>
    cases (show u = Value.ref a from rx)
    obtain ⟨its, _, ⟨o, h1, h2, _⟩, _⟩ := I.tuple ea
    exact PySem.W.kia_one PySem.W.kitx_tuple I.kIn ⟨o, h1, h2⟩ e (fun z => nomatch z) fin
  | dK ea => exact isinst_ok I rx (.dK ea) e fin
  | dT ea => exact isinst_ok I rx (.dT ea) e fin
end
theorem kit_same (K : PySem.W.Frag) (t : Value) : PySem.W.kitOne K t t = some true := by
  unfold PySem.W.kitOne
  rw [if_pos (by simp)]

section
variable {X : Cx}
theorem all_ints : ∀ {ns ms : List Int} {us ws : List Value}, Vals (ns.map V.int) us → Vals (ms.map V.int) ws →
    ∀ (e : Nat → Bool), (∀ j (x y : Int), ns[j]? = some x → ms[j]? = some y → e j = decide (x = y)) → ((List.range (min us.length ws.length)).all e && us.length == ws.length) = decide (ns = ms) := by
  intro ns ms us ws r q e he
  have l1 : ns.length = us.length := by have := r.length; rwa [List.length_map] at this
  have l2 : ms.length = ws.length := by have := q.length; rwa [List.length_map] at this
  rw [← l1, ← l2, Bool.eq_iff_iff]
  simp only [Bool.and_eq_true, List.all_eq_true, List.mem_range, beq_iff_eq, decide_eq_true_eq]
  constructor
  · rintro ⟨h1, h2⟩
    apply List.ext_getElem h2
    intro i hi hj
    have := h1 i (by omega)
    rw [he i _ _ (List.getElem?_eq_getElem hi) (List.getElem?_eq_getElem hj)] at this
    exact of_decide_eq_true this
  · rintro rfl
    refine ⟨fun j hj => ?_, rfl⟩
    have hj' : j < ns.length := by omega
    rw [he j _ _ (List.getElem?_eq_getElem hj') (List.getElem?_eq_getElem hj')]
    simp
def rEqTI (K : PySem.W.Frag) : R2 := fun x y H Q => ∃ a b ns ms, x = .ref a ∧ y = .ref b ∧ SqT K H a (List.map V.int ns) ∧ SqT K H b (List.map V.int ms) ∧ Q (.bl (decide (ns = ms))) H
theorem ints_at {ns : List Int} {us : List Value} (r : Vals (ns.map V.int) us) {j : Nat} (h : j < us.length) : ∃ x t, ns[j]? = some x ∧ us[j] = Value.int x t := by
  have l := r.length
  rw [List.length_map] at l
  have hx : (ns.map V.int)[j]? = some (V.int ns[j]) := by
    rw [List.getElem?_map, List.getElem?_eq_getElem (by omega)]; rfl
  obtain ⟨u, e, t, hu⟩ := r.get hx
  rw [List.getElem?_eq_getElem h] at e
  exact ⟨ns[j], t, List.getElem?_eq_getElem _, (Option.some.inj e).trans hu⟩
theorem op_eqTI (hu : X.A.units < cLine) : OpR X (compareOp .Eq) (rEqTI X.K) := by
  intro pins s σ H x y v u Q I rx ry h
  obtain ⟨a, b, ns, ms, rfl, rfl, ha, hb, q⟩ := h
  cases rx
  cases ry
  obtain ⟨its, r1, p1, _⟩ := I.tuple ha
  obtain ⟨its2, r2, p2, _⟩ := I.tuple hb
  have key : ∀ j (h1 : j < its.toArray.size) (h2 : j < its2.toArray.size), SeqAt.EqAt X.A.in1 s its.toArray[j] its2.toArray[j] (match ns[j]?, ms[j]? with | some x, some y => decide (x = y) | _, _ => false) := by
    intro j h1 h2
    simp only [List.size_toArray] at h1 h2
    obtain ⟨x, t, e1, e2⟩ := ints_at r1 h1
    obtain ⟨y, t', e3, e4⟩ := ints_at r2 h2
    simp only [List.getElem_toArray, e1, e3, e2, e4]
    have := eqAt_V (A := X.A.in1) (s := s) (y := V.int x) (x := V.int y) ⟨t, rfl⟩ ⟨t', rfl⟩ rfl rfl
    have ev : eqV (V.int x) (V.int y) = decide (x = y) := by
      show (x == y) = decide (x = y)
      rw [Bool.eq_iff_iff]; simp
    rw [ev] at this
    exact this
  refine SeqAt.eq_tupleAt p1 p2 hu key ⟨.bl (decide (ns = ms)), H, I, ?_, q⟩
  simp only [List.size_toArray]
  rw [all_ints r1 r2 _ (fun j x y e1 e2 => by simp only [e1, e2])]
  rfl

end
end L2
namespace L2
open PySem PySem.Spec PyProof.Rows
theorem kit_int_bool (K : PySem.W.Frag) : PySem.W.kitOne K (.type "int") (.type "bool") = some false := by kernel_rfl
def Pl (K : PySem.W.Frag) (H : Hp) (v : V) (q r : Int) : Prop := ∃ a, v = .ref a ∧ SqT K H a [.int q, .int r]
theorem Same.pl {K : PySem.W.Frag} {H H' : Hp} {v : V} {q r : Int} (e : Same H H') (h : Pl K H v q r) : Pl K H' v q r := let ⟨a, x, y⟩ := h; ⟨a, x, e.sqT y⟩
def cl (ns : List Int) (k : Int) : Int := ns[k.toNat]?.getD 0
end L2
namespace L2
open PySem
theorem bb_len : bootBuiltins "len" = some (.builtin "len") := by decide +kernel
theorem bb_max : bootBuiltins "max" = some (.builtin "max") := by decide +kernel
theorem bb_isinstance : bootBuiltins "isinstance" = some (.builtin "isinstance") := by decide +kernel
theorem bb_sorted : bootBuiltins "sorted" = some (.builtin "sorted") := by decide +kernel
theorem bb_int : bootBuiltins "int" = some (.type "int") := by decide +kernel
theorem bb_bool : bootBuiltins "bool" = some (.type "bool") := by decide +kernel
theorem bb_tuple : bootBuiltins "tuple" = some (.type "tuple") := by decide +kernel
theorem bb_list : bootBuiltins "list" = some (.type "list") := by decide +kernel
end L2
namespace L2
open PySem
theorem tup_of {K : PySem.W.Frag} {H : Hp} {a : Addr} {oc : Value} {od : Option Addr} {its : Array Value} {n : Nat} {sl : Array (Option Value)} {vs : List V} (l : K.lookup a = some ⟨oc, od, .seq its n, sl⟩) (c : oc = .type "tuple") (z : its.toList.length ≤ 1000)
    (v : relAll its.toList = some vs) : SqT K H a vs := .inr ⟨_, its, n, l, c, rfl, by rw [Array.length_toList] at z; exact Nat.le_of_lt (small1000 z), relAll_ok v⟩
end L2
namespace L2
open PySem
def tTupN (t : TA) : TE := fun σ H Q => t σ H fun xs H1 => xs.length ≤ sizeLine ∧ ∀ p H', Same H1 H' → H1 p = none → H' p = some (.tup xs) → Q (.ref p) H'
def tLstN (t : TA) : TE := fun σ H Q => t σ H fun xs H1 => xs.length ≤ sizeLine ∧ ∀ p H', Same H1 H' → H1 p = none → H' p = some (.lst xs) → Q (.ref p) H'
def tDictTN : TE := fun _ H Q => ∀ p H', Same H H' → H p = none → H' p = some (.dT []) → Q (.ref p) H'
section
variable {X : Cx} {es : List Expr} {t : TA} {pos : Pos}
theorem pe_tupN {x1} (h : PA X es t) : PE X (.Tuple es x1 pos) (tTupN t) := by
  intro pins s σ H Q I hq
  refine wpAny_Tuple_spliced (thn (h pos pins s σ H _ I hq) fun us s1 ww => ?_)
  obtain ⟨xs, H1, I1, r, z, q⟩ := ww
  have hn : H1 s1.heap.objs.size = none := I1.hok.fresh (Nat.le_refl _)
  refine ⟨by rw [← r.length]; exact z, .ref s1.heap.objs.size, _, ?_, rfl, q _ _ (same_upd hn) hn upd_same⟩
  exact I1.laid (t' := s1.toks) (fun b u e => Heap.get?_push_of_some _ e) (Nat.le_refl _) ⟨z, us, r, ⟨_, Heap.get?_push_size _ rfl, rfl, _, rfl⟩⟩
theorem pe_lstN (h : PA X es t) : PE X (.List es pos) (tLstN t) := by
  intro pins s σ H Q I hq
  refine wpAny_List_spliced (thn (h pos pins s σ H _ I hq) fun us s1 ww => ?_)
  obtain ⟨xs, H1, I1, r, z, q⟩ := ww
  have hn : H1 s1.heap.objs.size = none := I1.hok.fresh (Nat.le_refl _)
  refine ⟨by rw [← r.length]; exact z, .ref s1.heap.objs.size, _, ?_, rfl, q _ _ (same_upd hn) hn upd_same⟩
  exact I1.laid (t' := s1.toks) (fun b u e => Heap.get?_push_of_some _ e) (Nat.le_refl _) ⟨z, us, 0, r, Heap.get?_push_size _ rfl⟩
theorem pe_dnewTN : PE X (.Dict [] [] pos) tDictTN := fun pins s σ H Q I h => pe_dnewT pins s σ H Q I fun p hp => h p _ (same_upd hp) hp upd_same
end
theorem for_range' {lo : Int} {n : Nat} {g : TG} {tb : TS} {D : Ends} {σ : St} {H : Hp} (Pv : Nat → St → Hp → Prop) (h0 : Pv 0 σ H)
    (hs : ∀ i σ H, i < n → Pv i σ H → ∀ D' : Ends, (∀ σ H, Pv (i + 1) σ H → D'.nx σ H) → g (.int (lo + i)) σ H fun σ2 H2 => tb D' σ2 H2) (hd : ∀ σ H, Pv n σ H → D.nx σ H) :
    ∃ W : Nat → Nat → St → Hp → Prop, (∃ m, W 0 m σ H) ∧ ∀ i m σ H, W i m σ H →
      ((Itr lo n).stop i H ∧ D.nx σ H) ∨ ((Itr lo n).go i H ∧ ∃ N : St → Hp → Prop, (∀ σ' H', N σ' H' → ∃ m', m' < m ∧ W (i + 1) m' σ' H') ∧ ∀ x H', (Itr lo n).yld i H x H' → g x σ H' fun σ2 H2 => tb { D with nx := N, ct := N, bk := D.nx } σ2 H2) :=
  for_range Pv h0 (fun i σ H hi p => hs i σ H hi p _ fun _ _ h => h) hd
theorem for_list' {K : PySem.W.Frag} {a : Addr} {xs : List V} {g : TG} {tb : TS} {D : Ends} {σ : St} {H : Hp} (Pv : Nat → St → Hp → Prop) (h0 : Pv 0 σ H) (hl : ∀ i σ H, i ≤ xs.length → Pv i σ H → SqL K H a xs)
    (hs : ∀ i x σ H, xs[i]? = some x → Pv i σ H → ∀ D' : Ends, (∀ σ H, Pv (i + 1) σ H → D'.nx σ H) → (∀ v H, D.rt v H → D'.rt v H) → g x σ H fun σ2 H2 => tb D' σ2 H2) (hd : ∀ σ H, Pv xs.length σ H → D.nx σ H) :
    ∃ W : Nat → Nat → St → Hp → Prop, (∃ m, W 0 m σ H) ∧ ∀ i m σ H, W i m σ H →
      ((Itl K a).stop i H ∧ D.nx σ H) ∨ ((Itl K a).go i H ∧ ∃ N : St → Hp → Prop, (∀ σ' H', N σ' H' → ∃ m', m' < m ∧ W (i + 1) m' σ' H') ∧ ∀ x H', (Itl K a).yld i H x H' → g x σ H' fun σ2 H2 => tb { D with nx := N, ct := N, bk := D.nx } σ2 H2) :=
  for_list Pv h0 hl (fun i x σ H e p => hs i x σ H e p _ (fun _ _ h => h) fun _ _ h => h) hd
end L2

namespace Spi
def tq : Int → Int → Int → Int
  | 0, q, _ => q
  | 1, _, r => -r
  | 2, q, r => -(q + r)
  | 3, q, _ => -q
  | 4, _, r => r
  | 5, q, r => q + r
  | _, q, _ => q
def tr : Int → Int → Int → Int
  | 0, _, r => r
  | 1, q, r => q + r
  | 2, q, _ => q
  | 3, _, r => -r
  | 4, q, r => -(q + r)
  | 5, q, _ => -q
  | _, _, r => r
structure Rep (n s a : Int) : Prop where
  n1 : 1 ≤ n
  s0 : 0 ≤ s
  s5 : s ≤ 5
  a0 : 0 ≤ a
  an : a < n
theorem tq_step {i : Int} (h0 : 0 ≤ i) (h4 : i ≤ 4) (q r : Int) : tq (i + 1) q r = -(tr i q r) ∧ tr (i + 1) q r = tq i q r + tr i q r := by
  have : i = 0 ∨ i = 1 ∨ i = 2 ∨ i = 3 ∨ i = 4 := by omega
  rcases this with rfl | rfl | rfl | rfl | rfl
  · exact ⟨rfl, rfl⟩
  · exact ⟨rfl, show q = -r + (q + r) by omega⟩
  · exact ⟨rfl, show -r = -(q + r) + q by omega⟩
  · exact ⟨show r = - -r by omega, show -(q + r) = -q + -r by omega⟩
  · exact ⟨show q + r = - -(q + r) by omega, show -q = r + -(q + r) by omega⟩
end Spi

namespace Sev
def fq (f : Int) : Int := if f = 1 then 1 else if f = 3 then -1 else if f = 4 then -1 else if f = 6 then 1 else 0
def fr (f : Int) : Int := if f = 2 then 1 else if f = 3 then 1 else if f = 5 then -1 else if f = 6 then -1 else 0
def rsm (m : Int) : Int := if m = 1 then 1 else if m = 2 then 5 else if m = 3 then 6 else if m = 4 then 3 else if m = 5 then 2 else if m = 6 then 4 else 0
def rs (q r : Int) : Int := rsm ((q - 2 * r) % 7)
def cq (q r : Int) : Int := (3 * (q - fq (rs q r)) + (r - fr (rs q r))) / 7
def cr (q r : Int) : Int := (2 * (r - fr (rs q r)) - (q - fq (rs q r))) / 7
abbrev Fig (f : Int) : Prop := 0 ≤ f ∧ f ≤ 6
theorem fig_cases {f : Int} (h : Fig f) : f = 0 ∨ f = 1 ∨ f = 2 ∨ f = 3 ∨ f = 4 ∨ f = 5 ∨ f = 6 := by
  obtain ⟨h1, h2⟩ := h; omega
theorem rs_cases (q r : Int) : ((q - 2 * r) % 7 = 0 ∧ rs q r = 0) ∨ ((q - 2 * r) % 7 = 1 ∧ rs q r = 1) ∨ ((q - 2 * r) % 7 = 2 ∧ rs q r = 5) ∨ ((q - 2 * r) % 7 = 3 ∧ rs q r = 6) ∨
    ((q - 2 * r) % 7 = 4 ∧ rs q r = 3) ∨ ((q - 2 * r) % 7 = 5 ∧ rs q r = 2) ∨ ((q - 2 * r) % 7 = 6 ∧ rs q r = 4) := by
  have h : (q - 2 * r) % 7 = 0 ∨ (q - 2 * r) % 7 = 1 ∨ (q - 2 * r) % 7 = 2 ∨ (q - 2 * r) % 7 = 3 ∨ (q - 2 * r) % 7 = 4 ∨ (q - 2 * r) % 7 = 5 ∨ (q - 2 * r) % 7 = 6 := by omega
  unfold rs
  rcases h with h | h | h | h | h | h | h <;> rw [h] <;> simp [rsm]
theorem rs_fig (q r : Int) : Fig (rs q r) := by
  rcases rs_cases q r with ⟨_, h⟩ | ⟨_, h⟩ | ⟨_, h⟩ | ⟨_, h⟩ | ⟨_, h⟩ | ⟨_, h⟩ | ⟨_, h⟩ <;> rw [h] <;> decide
theorem rs_res (q r : Int) : (q - 2 * r - (fq (rs q r) - 2 * fr (rs q r))) % 7 = 0 := by
  rcases rs_cases q r with ⟨m, h⟩ | ⟨m, h⟩ | ⟨m, h⟩ | ⟨m, h⟩ | ⟨m, h⟩ | ⟨m, h⟩ | ⟨m, h⟩ <;> rw [h, Int.sub_emod, m] <;> decide
theorem sev (q r : Int) : q = 2 * cq q r - cr q r + fq (rs q r) ∧ r = cq q r + 3 * cr q r + fr (rs q r) := by
  have h := rs_res q r
  unfold cq cr
  generalize fq (rs q r) = x at *
  generalize fr (rs q r) = y at *
  constructor <;> omega
theorem rs_fig' {f : Int} (hf : Fig f) : rsm ((fq f - 2 * fr f) % 7) = f := by
  rcases fig_cases hf with rfl | rfl | rfl | rfl | rfl | rfl | rfl <;> decide
theorem sev_one {a b f : Int} (hf : Fig f) : rs (2 * a - b + fq f) (a + 3 * b + fr f) = f ∧ cq (2 * a - b + fq f) (a + 3 * b + fr f) = a ∧ cr (2 * a - b + fq f) (a + 3 * b + fr f) = b := by
  have key : rs (2 * a - b + fq f) (a + 3 * b + fr f) = f := by
    unfold rs
    rw [show (2 * a - b + fq f - 2 * (a + 3 * b + fr f)) % 7 = (fq f - 2 * fr f) % 7 by omega]
    exact rs_fig' hf
  refine ⟨key, ?_, ?_⟩
  · unfold cq; rw [key]; omega
  · unfold cr; rw [key]; omega
def stp (p : Int × Int) (f : Int) : Int × Int := (2 * p.1 - p.2 + fq f, p.1 + 3 * p.2 + fr f)
def wk (xs : List Int) : Int × Int := xs.foldl stp (0, 0)
theorem wk_nil : wk [] = (0, 0) := rfl
theorem wk_snoc (xs : List Int) (f : Int) : wk (xs ++ [f]) = stp (wk xs) f := by simp [wk, List.foldl_append]
theorem take_succ {α : Type} {xs : List α} {i : Nat} {x : α} (h : xs[i]? = some x) : xs.take (i + 1) = xs.take i ++ [x] := by
  rw [List.take_succ, h]; rfl
theorem wk_take {xs : List Int} {i : Nat} {f : Int} (h : xs[i]? = some f) : wk (xs.take (i + 1)) = stp (wk (xs.take i)) f := by rw [take_succ h, wk_snoc]
theorem wk_zeros (n : Nat) (xs : List Int) : wk (List.replicate n 0 ++ xs) = wk xs := by
  induction n with
  | zero => rfl
  | succ n ih =>
    rw [List.replicate_succ, List.cons_append]
    show List.foldl stp (stp (0, 0) 0) _ = _
    rw [show stp (0, 0) 0 = (0, 0) from by decide]
    exact ih

inductive Adr : Int → Int → List Int → Prop where
  | nil : Adr 0 0 []
  | snoc {q r : Int} {A : List Int} (h : ¬ (q = 0 ∧ r = 0)) (a : Adr (cq q r) (cr q r) A) : Adr q r (A ++ [rs q r])
theorem Adr.zero {A : List Int} (a : Adr 0 0 A) : A = [] := by
  cases a with
  | nil => rfl
  | snoc h _ => exact absurd ⟨rfl, rfl⟩ h
theorem Adr.pos {q r : Int} {A : List Int} (a : Adr q r A) (h : ¬ (q = 0 ∧ r = 0)) : ∃ B, A = B ++ [rs q r] ∧ Adr (cq q r) (cr q r) B := by
  cases a with
  | nil => exact absurd ⟨rfl, rfl⟩ h
  | snoc _ b => exact ⟨_, rfl, b⟩
theorem Adr.det {q r : Int} {A B : List Int} (a : Adr q r A) (b : Adr q r B) : A = B := by
  induction a generalizing B with
  | nil => exact b.zero.symm
  | snoc h _ ih =>
    obtain ⟨C, rfl, c⟩ := b.pos h
    rw [ih c]
theorem Adr.walk {q r : Int} {A : List Int} (a : Adr q r A) : wk A = (q, r) := by
  induction a with
  | nil => rfl
  | @snoc q r A h _ ih =>
    rw [wk_snoc, ih]
    have := sev q r
    simp only [stp, ← this.1, ← this.2]
def bare (xs : List Int) : List Int := xs.dropWhile (· == 0)
theorem bare_snoc (xs : List Int) (f : Int) : bare (xs ++ [f]) = if bare xs = [] then (if f = 0 then [] else [f]) else bare xs ++ [f] := by
  induction xs with
  | nil =>
    by_cases h : f = 0 <;> simp [bare, h]
  | cons x xs ih =>
    by_cases h : x = 0
    · subst h
      have e : ∀ ys : List Int, bare (0 :: ys) = bare ys := fun ys => by simp [bare]
      rw [List.cons_append, e, e, ih]
    · have e : ∀ ys : List Int, bare (x :: ys) = x :: ys := fun ys => by simp [bare, h]
      rw [List.cons_append, e, e]
      simp
theorem stp_zero {p : Int × Int} {f : Int} (hf : Fig f) (h : stp p f = (0, 0)) : p = (0, 0) ∧ f = 0 := by
  have e := sev_one (a := p.1) (b := p.2) hf
  have h1 : 2 * p.1 - p.2 + fq f = 0 := congrArg Prod.fst h
  have h2 : p.1 + 3 * p.2 + fr f = 0 := congrArg Prod.snd h
  rw [h1, h2] at e
  have z : rs 0 0 = 0 ∧ cq 0 0 = 0 ∧ cr 0 0 = 0 := by decide
  rw [z.1, z.2.1, z.2.2] at e
  exact ⟨Prod.ext e.2.1.symm e.2.2.symm, e.1.symm⟩
theorem cen_stp {p : Int × Int} {f : Int} (hf : Fig f) : rs (stp p f).1 (stp p f).2 = f ∧ cq (stp p f).1 (stp p f).2 = p.1 ∧ cr (stp p f).1 (stp p f).2 = p.2 := sev_one hf
theorem snoc_ind {P : List Int → Prop} (h0 : P []) (h1 : ∀ xs f, P xs → P (xs ++ [f])) (xs : List Int) : P xs := by
  have : ∀ ys : List Int, P ys.reverse := by
    intro ys
    induction ys with
    | nil => exact h0
    | cons y ys ih => rw [List.reverse_cons]; exact h1 _ _ ih
  have := this xs.reverse
  rwa [List.reverse_reverse] at this
theorem adr_wk (xs : List Int) : (∀ f ∈ xs, Fig f) → Adr (wk xs).1 (wk xs).2 (bare xs) ∧ (bare xs = [] ↔ wk xs = (0, 0)) := by
  induction xs using snoc_ind with
  | h0 => exact fun _ => ⟨.nil, by simp [bare, wk_nil]⟩
  | h1 xs f ih =>
    intro h
    have hf : Fig f := h f (by simp)
    obtain ⟨ia, ib⟩ := ih fun g hg => h g (by simp [hg])
    rw [bare_snoc, wk_snoc]
    obtain ⟨c1, c2, c3⟩ := cen_stp (p := wk xs) hf
    by_cases hz : stp (wk xs) f = (0, 0)
    · obtain ⟨z1, z2⟩ := stp_zero hf hz
      rw [hz, if_pos (ib.mpr z1), if_pos z2]
      exact ⟨.nil, by simp⟩
    · have hn : ¬ ((stp (wk xs) f).1 = 0 ∧ (stp (wk xs) f).2 = 0) := fun z => hz (Prod.ext z.1 z.2)
      have a := Adr.snoc hn (A := bare xs) (by rw [c2, c3]; exact ia)
      rw [c1] at a
      have e : (if bare xs = [] then (if f = 0 then [] else [f]) else bare xs ++ [f]) = bare xs ++ [f] := by
        by_cases hb : bare xs = []
        · rw [if_pos hb]
          by_cases hf0 : f = 0
          · subst hf0
            rw [ib.mp hb] at hz
            exact absurd (by decide) hz
          · rw [if_neg hf0, hb]; rfl
        · rw [if_neg hb]
      rw [e]
      exact ⟨a, by simp [hz]⟩

def nm (q r : Int) : Int := q * q + q * r + r * r
theorem sq_nonneg (x : Int) : 0 ≤ x * x := by
  rcases Int.le_total 0 x with h | h
  · exact Int.mul_nonneg h h
  · have := Int.mul_nonneg (show 0 ≤ -x by omega) (show 0 ≤ -x by omega)
    rwa [Int.neg_mul_neg] at this
theorem nm4 (q r : Int) : 4 * nm q r = (2 * q + r) * (2 * q + r) + 3 * (r * r) := by unfold nm; grind
theorem nm_nonneg (q r : Int) : 0 ≤ nm q r := by
  have := nm4 q r
  have := sq_nonneg (2 * q + r)
  have := sq_nonneg r
  omega
theorem nm_great (a b : Int) : nm (2 * a - b) (a + 3 * b) = 7 * nm a b := by unfold nm; grind
theorem nm_add (t x y a b : Int) : t * nm (x + a) (y + b) + nm (x - t * a) (y - t * b) = (t + 1) * nm x y + t * (t + 1) * nm a b := by unfold nm; grind
theorem nm_fig {f : Int} (h : Fig f) : nm (fq f) (fr f) ≤ 1 ∧ nm (-fq f) (-fr f) ≤ 1 := by
  rcases fig_cases h with rfl | rfl | rfl | rfl | rfl | rfl | rfl <;> decide
theorem nm_cen (q r : Int) : 700 * nm (cq q r) (cr q r) ≤ 101 * nm q r + 10100 := by
  have s := sev q r
  have h := nm_add 100 q r (-fq (rs q r)) (-fr (rs q r))
  rw [show q + -fq (rs q r) = 2 * cq q r - cr q r by omega, show r + -fr (rs q r) = cq q r + 3 * cr q r by omega, nm_great] at h
  have n0 := nm_nonneg (q - 100 * -fq (rs q r)) (r - 100 * -fr (rs q r))
  have n1 := (nm_fig (rs_fig q r)).2
  omega
theorem nm_small {q r : Int} (h : nm q r ≤ 100) : -12 < q ∧ q < 12 ∧ -12 < r ∧ r < 12 := by
  have h1 := nm4 q r
  have h2 := nm4 r q
  have e : nm r q = nm q r := by unfold nm; grind
  have s1 := sq_nonneg (2 * q + r)
  have s2 := sq_nonneg (2 * r + q)
  have hr : r * r ≤ 133 := by omega
  have hq : q * q ≤ 133 := by omega
  have b : ∀ x : Int, x * x ≤ 133 → -12 < x ∧ x < 12 := by
    intro x hx
    constructor
    · apply Int.not_le.mp
      intro hc
      have := Int.mul_le_mul (show 12 ≤ -x by omega) (show 12 ≤ -x by omega) (by decide) (by omega)
      rw [Int.neg_mul_neg] at this
      omega
    · apply Int.not_le.mp
      intro hc
      have := Int.mul_le_mul hc hc (by decide) (by omega)
      omega
  exact ⟨(b q hq).1, (b q hq).2, (b r hr).1, (b r hr).2⟩
def zeroIn : Nat → Int → Int → Bool
  | 0, q, r => q == 0 && r == 0
  | n + 1, q, r => (q == 0 && r == 0) || zeroIn n (cq q r) (cr q r)
theorem zeroIn_adr : ∀ {n : Nat} {q r : Int}, zeroIn n q r = true → ∃ A, Adr q r A ∧ A.length ≤ n
  | 0, q, r, h => by
    simp [zeroIn] at h
    obtain ⟨rfl, rfl⟩ := h
    exact ⟨[], .nil, Nat.le_refl _⟩
  | n + 1, q, r, h => by
    by_cases hz : q = 0 ∧ r = 0
    · obtain ⟨rfl, rfl⟩ := hz
      exact ⟨[], .nil, Nat.zero_le _⟩
    · have h : zeroIn n (cq q r) (cr q r) = true := by
        simp [zeroIn] at h
        rcases h with h | h
        · exact absurd h hz
        · exact h
      obtain ⟨A, a, l⟩ := zeroIn_adr h
      exact ⟨_, .snoc hz a, by simp; omega⟩
theorem small_all : ∀ i : Fin 23, ∀ j : Fin 23, zeroIn 4 ((i.val : Int) - 11) ((j.val : Int) - 11) = true := by decide +kernel
theorem small_adr {q r : Int} (h : nm q r ≤ 100) : ∃ A, Adr q r A ∧ A.length ≤ 4 := by
  obtain ⟨h1, h2, h3, h4⟩ := nm_small h
  have := small_all ⟨(q + 11).toNat, by omega⟩ ⟨(r + 11).toNat, by omega⟩
  rw [show (((q + 11).toNat : Nat) : Int) - 11 = q by omega, show (((r + 11).toNat : Nat) : Int) - 11 = r by omega] at this
  exact zeroIn_adr this
def bd : Nat → Int
  | 0 => 100
  | n + 1 => (700 * bd n - 10100) / 101
theorem adr_bd : ∀ (k : Nat) {q r : Int}, nm q r ≤ bd k → ∃ A, Adr q r A ∧ A.length ≤ k + 4
  | 0, q, r, h => by
    obtain ⟨A, a, l⟩ := small_adr h
    exact ⟨A, a, by omega⟩
  | k + 1, q, r, h => by
    by_cases hz : q = 0 ∧ r = 0
    · obtain ⟨rfl, rfl⟩ := hz
      exact ⟨[], .nil, Nat.zero_le _⟩
    · have c := nm_cen q r
      have h : nm q r ≤ (700 * bd k - 10100) / 101 := h
      obtain ⟨A, a, l⟩ := adr_bd k (q := cq q r) (r := cr q r) (by omega)
      exact ⟨_, .snoc hz a, by simp; omega⟩
theorem Adr.len {k : Nat} {q r : Int} {A : List Int} (a : Adr q r A) (h : nm q r ≤ bd k) : A.length ≤ k + 4 := by
  obtain ⟨B, b, l⟩ := adr_bd k h
  rw [a.det b]; exact l
theorem bd_ge (k : Nat) : 100 + 40 * (k : Int) ≤ bd k := by
  induction k with
  | zero => exact Int.le_refl _
  | succ k ih =>
    show _ ≤ (700 * bd k - 10100) / 101
    omega
theorem adr_ex (q r : Int) : ∃ A, Adr q r A := by
  have b := bd_ge (nm q r).toNat
  have n := nm_nonneg q r
  obtain ⟨A, a, _⟩ := adr_bd (nm q r).toNat (q := q) (r := r) (by omega)
  exact ⟨A, a⟩
theorem bd96 : (3 * 10 ^ 78 : Int) ≤ bd 96 := by decide +kernel
theorem len100 {q r : Int} {A : List Int} (a : Adr q r A) (h1 : -(10 ^ 39) < q) (h2 : q < 10 ^ 39) (h3 : -(10 ^ 39) < r) (h4 : r < 10 ^ 39) : A.length ≤ 100 := by
  refine a.len (k := 96) (Int.le_trans ?_ bd96)
  have b : ∀ x y : Int, -(10 ^ 39) < x → x < 10 ^ 39 → -(10 ^ 39) < y → y < 10 ^ 39 → x * y ≤ 10 ^ 78 := by
    intro x y h1 h2 h3 h4
    have := Int.mul_le_mul (a := (x.natAbs : Int)) (b := (y.natAbs : Int)) (c := 10 ^ 39) (d := 10 ^ 39) (by omega) (by omega) (by omega) (by decide)
    have e : x * y ≤ (x.natAbs : Int) * (y.natAbs : Int) := by
      rw [← Int.natCast_mul, ← Int.natAbs_mul]
      exact Int.le_natAbs
    have : (10 : Int) ^ 39 * 10 ^ 39 = 10 ^ 78 := by decide
    omega
  have := b q q h1 h2 h1 h2
  have := b q r h1 h2 h3 h4
  have := b r r h3 h4 h3 h4
  unfold nm
  omega
end Sev

set_option Elab.async false
set_option linter.all false
set_option maxRecDepth 100000
namespace L2
open PySem PySem.Spec PyProof.Rows
theorem closure_go {env : Env} {cf : Str → Addr} (f : Str × NameKind → List (Str × Addr) → Sem (ForInStep (List (Str × Addr))))
    (hf : ∀ n k cs, f (n, k) cs = if k == .free then (do let c ← cellOf env n; pure (ForInStep.yield ((n, c) :: cs))) else pure (ForInStep.yield cs)) :
    ∀ (names : List (Str × NameKind)) (acc : List (Str × Addr)), (∀ x ∈ names, x.2 = .free → cellOf env x.1 = pure (cf x.1)) →
    forIn names acc f = (pure (((names.filter (fun x => x.2 == .free)).map fun x => (x.1, cf x.1)).reverse ++ acc) : Sem _)
  | [], acc, _ => rfl
  | (n, k) :: r, acc, h => by
    rw [List.forIn_cons, hf]
    have ih := fun acc => closure_go (cf := cf) f hf r acc fun x hx => h x (List.mem_cons_of_mem _ hx)
    by_cases hk : k = .free
    · subst hk
      have e := h (n, .free) List.mem_cons_self rfl
      simp only [beq_self_eq_true, if_true]
      rw [show cellOf env n = pure (cf n) from e]
      show forIn r ((n, cf n) :: acc) f = _
      rw [ih]
      simp
    · have hb : (k == NameKind.free) = false := by simpa using hk
      simp only [hb, Bool.false_eq_true, if_false]
      show forIn r acc f = _
      rw [ih]
      simp [hb]
theorem closure_of {env : Env} {scope : Scope} {cf : Str → Addr} (h : ∀ x ∈ scope.names, x.2 = .free → env.cells.lookup x.1 = some (cf x.1)) :
    closureFor scope env = pure (((scope.names.filter (fun x => x.2 == .free)).map fun x => (x.1, cf x.1)).reverse) := by
  unfold closureFor
  dsimp only
  have key := fun f hf => closure_go (env := env) (cf := cf) f hf scope.names [] (fun x hx hk => by unfold cellOf; rw [h x hx hk])
  rw [List.append_nil] at key
  rw [key _ (fun n k cs => rfl)]
  rfl
theorem lookup_map_self {cf : Str → Addr} : ∀ {l : List Str} {y : Str} {c : Addr}, (l.map fun n => (n, cf n)).lookup y = some c → y ∈ l ∧ c = cf y
  | [], _, _, h => by simp at h
  | n :: r, y, c, h => by
    rw [List.map_cons, List.lookup_cons] at h
    by_cases e : y = n
    · subst e
      simp only [beq_self_eq_true] at h
      cases h
      exact ⟨List.mem_cons_self, rfl⟩
    · have e' : (y == n) = false := beq_eq_false_iff_ne.mpr e
      simp only [e'] at h
      obtain ⟨h1, h2⟩ := lookup_map_self h
      exact ⟨List.mem_cons_of_mem _ h1, h2⟩
theorem lookup_map_mem {cf : Str → Addr} : ∀ {l : List Str} {y : Str}, y ∈ l → (l.map fun n => (n, cf n)).lookup y = some (cf y)
  | [], _, h => by simp at h
  | n :: r, y, h => by
    rw [List.map_cons, List.lookup_cons]
    by_cases e : y = n
    · subst e; simp
    · have e' : (y == n) = false := beq_eq_false_iff_ne.mpr e
      simp only [e']
      exact lookup_map_mem ((List.mem_cons.mp h).resolve_left e)

section
variable {prog : Program} {w : World} {A : Around} {R : Result → Shared → Prop} {s : Shared}
theorem codeAny_compLoop_own {elt target iter : Expr} {scope : Scope} {pos : Pos} {it acc : Value} {env : Env} (I : Nat → Shared → Prop)
    (turn : ∀ n s, I n s → wpAny (model prog w) A (pyNext it) (fun r s₁ => match r with
      | none => R (.ok .next) s₁
      | some v => wpAny (model prog w) A (letOwnedTupleGo target it v) (fun _ s₁' => wpAny (model prog w) A (assign target env v) (fun _ s₂ => wpAny (model prog w) A (eval elt env) (fun x s₃ =>
          wpAny (model prog w) A (call (.builtin "list.append") [acc, x]) (fun _ s₄ => ∃ m, m < n ∧ I m s₄) (fun _ _ => False) s₃)
          (fun _ _ => False) s₂) (fun _ _ => False) s₁') (fun _ _ => False) s₁) (fun _ _ => False) s)
    (n : Nat) (h : I n s) :
    codeAny (model prog w) A (.compLoop (.ListComp elt [⟨target, iter, [], 0⟩] scope pos) 0 it acc env) R s := by
  refine codeAny_loop rfl I (fun n s hI => ?_) n h
  show wpAny _ _ ((compTurn (.ListComp elt [⟨target, iter, [], 0⟩] scope pos) 0 it acc env).onRaise (fun x => do noteFrame x env; theTreesLotGoes x)) _ _ s
  refine wpAny_noted ?_
  rw [compTurn_list1]
  refine wpAny_bind (wpAny_standAt (wpAny_bind (wpAny_mono (turn n s hI) (fun r s₁ h₁ => ?_) fun _ _ z => z.elim)))
  cases r with
  | none => exact wpAny_pure h₁
  | some v =>
    refine wpAny_bind (wpAny_mono h₁ (fun _ s₁' h₁' => ?_) fun _ _ z => z.elim)
    exact wpAny_bind (wpAny_mono h₁' (fun _ s₂ h₂ => wpAny_bind (wpAny_bind (wpAny_mono h₂ (fun x s₃ h₃ => wpAny_bind (wpAny_mono h₃
      (fun _ s₄ h₄ => wpAny_pure (wpAny_pure ⟨rfl, h₄⟩)) fun _ _ z => z.elim)) fun _ _ z => z.elim))) fun _ _ z => z.elim)
end

structure LcScope (x : Str) (fr : List Str) (sc : Scope) : Prop where
  kind : sc.kind = .function
  nocell : ∀ y ∈ sc.names, y.2 ≠ .cell
  names : ∀ y ∈ sc.names, y.2 = .local → sc.names.lookup y.1 = some .local
  own : sc.names.lookup x = some .local
  free : (sc.names.filter fun y => y.2 == .free).map (·.1) = fr
  lookm : ∀ p ∈ sc.names, (p.2 = .free ∨ p.2 = .cell) → p.1 ∈ fr
  lookfr : ∀ y ∈ fr, sc.names.lookup y = some .free
  notx : x ∉ fr
  nd : fr.Nodup
theorem lookup_mem {κ : Type} : ∀ {l : List (Str × κ)} {y : Str} {k : κ}, l.lookup y = some k → (y, k) ∈ l
  | [], _, _, h => by simp at h
  | (n, k') :: r, y, k, h => by
    rw [List.lookup_cons] at h
    by_cases e : y = n
    · subst e
      simp only [beq_self_eq_true] at h
      cases h
      exact List.mem_cons_self
    · have e' : (y == n) = false := beq_eq_false_iff_ne.mpr e
      simp only [e'] at h
      exact List.mem_cons_of_mem _ (lookup_mem h)
theorem LcScope.look {x : Str} {fr : List Str} {sc : Scope} (S : LcScope x fr sc) (y : Str) (h : sc.names.lookup y = some .free ∨ sc.names.lookup y = some .cell) : y ∈ fr := by
  rcases h with h | h
  · exact S.lookm _ (lookup_mem h) (.inl rfl)
  · exact S.lookm _ (lookup_mem h) (.inr rfl)
def cxLc (X : Cx) (x : Str) (fr : List Str) (scope : Scope) (cl : List (Str × Addr)) (fp : List Addr) (s : Shared) (H : Hp) : Cx :=
  { X with N := x :: fr, s₀ := s, H₀ := H, env := compEnvC scope cl s.heap.objs.size X.env, outer := X.stack, stack := X.stack, ex := fp, fn := fun y => decide (y = x), pn := [], xe := fun _ _ => False }
theorem relabel_lookup {scope : Scope} {env : Env} (y : Str) : ∀ (l : List (Str × NameKind)), (l.map fun (n, k) => if (k == NameKind.free && env.scope.kind == .function && env.kindOf n == some .cell) then (n, NameKind.cell) else (n, k)).lookup y =
    (l.lookup y).map fun k => if (k == NameKind.free && env.scope.kind == .function && env.kindOf y == some .cell) then NameKind.cell else k
  | [] => rfl
  | (n, k) :: r => by
    have ih := relabel_lookup (scope := scope) (env := env) y r
    show List.lookup y ((if (k == NameKind.free && env.scope.kind == .function && env.kindOf n == some .cell) = true then (n, NameKind.cell) else (n, k)) :: _) = _
    by_cases e : y = n
    · subst e
      by_cases hc : (k == NameKind.free && env.scope.kind == .function && env.kindOf y == some .cell) = true
      · rw [if_pos hc, List.lookup_cons, List.lookup_cons]
        simp only [beq_self_eq_true, Option.map_some]
        rw [if_pos hc]
      · rw [if_neg hc, List.lookup_cons, List.lookup_cons]
        simp only [beq_self_eq_true, Option.map_some]
        rw [if_neg hc]
    · have e' : (y == n) = false := beq_eq_false_iff_ne.mpr e
      by_cases hc : (k == NameKind.free && env.scope.kind == .function && env.kindOf n == some .cell) = true
      · rw [if_pos hc, List.lookup_cons, List.lookup_cons]
        simp only [e']
        exact ih
      · rw [if_neg hc, List.lookup_cons, List.lookup_cons]
        simp only [e']
        exact ih
def lcSt (σ : St) (js : List Nat) (y : Option V) : St := y :: js.map fun j => (σ[j]?).join
def tLc (wi : TI) (js : List Nat) (te : TE) : TE := fun σ H Q => wi σ H fun J H1 => ∀ D, H1 D = none → ∃ W : Nat → Nat → Hp → Prop, (∃ m, W 0 m (upd H1 D (.lst []))) ∧ ∀ i m H2, W i m H2 →
  (J.stop i H2 ∧ Q (.ref D) H2) ∨ (J.go i H2 ∧ ∀ y H3, J.yld i H2 y H3 → te (lcSt σ js (some y)) H3 fun z H4 => ∃ ys, H4 D = some (.lst ys) ∧ ys.length < sizeLine ∧ ∃ m', m' < m ∧ W (i + 1) m' (upd H4 D (.lst (ys ++ [z]))))

section
variable {X : Cx} {elt iter : Expr} {x : Str} {px pos : Pos} {scope : Scope} {fr : List Str} {js : List Nat} {wi : TI} {te : TE}
theorem pe_lc (S : LcScope x fr scope) (hc : X.calm = true) (hkm : (fr.map fun y => X.env.kindOf y) = fr.map fun _ => some NameKind.cell) (hj : js.map (fun j => X.N[j]?) = fr.map some)
    (hi : PI X (.Name x px) iter wi) (he : ∀ cl fp s H, PE (cxLc X x fr scope cl fp s H) elt te)
    (hs : ∀ x, foldedSetIterable iter X.env x = pure x := by intro _; rfl) :
    PE X (.ListComp elt [⟨.Name x px, iter, [], 0⟩] scope pos) (tLc wi js te) := by
  intro pins s σ H Q I h
  have hk : ∀ y ∈ fr, X.env.kindOf y = some .cell := List.map_inj_left.mp hkm
  have hcf : ∀ y ∈ fr, ∃ c, X.env.cells.lookup y = some c := fun y hy => I.ok.has y (.inl (hk y hy))
  let cf : Str → Addr := fun y => (X.env.cells.lookup y).getD 0
  have hcf' : ∀ y ∈ fr, X.env.cells.lookup y = some (cf y) := fun y hy => by
    obtain ⟨c, e⟩ := hcf y hy
    show _ = some ((X.env.cells.lookup y).getD 0)
    rw [e]; rfl
  have hmem : ∀ y ∈ scope.names, y.2 = .free → y.1 ∈ fr := fun y hy hf => by
    rw [← S.free]
    exact List.mem_map.mpr ⟨y, List.mem_filter.mpr ⟨hy, by rw [hf]; rfl⟩, rfl⟩
  let cl : List (Str × Addr) := ((scope.names.filter (fun y => y.2 == .free)).map fun y => (y.1, cf y.1)).reverse
  have hclos : closureFor scope X.env = pure cl := closure_of fun y hy hf => hcf' y.1 (hmem y hy hf)
  have hcl : cl = (fr.reverse.map fun n => (n, cf n)) := by
    show ((scope.names.filter (fun y => y.2 == .free)).map fun y => (y.1, cf y.1)).reverse = _
    rw [← S.free, ← List.map_reverse, ← List.map_reverse, List.map_map]
    rfl
  have clook : ∀ y c, cl.lookup y = some c → y ∈ fr ∧ c = cf y := fun y c e => by
    rw [hcl] at e
    obtain ⟨h1, h2⟩ := lookup_map_self e
    exact ⟨List.mem_reverse.mp h1, h2⟩
  have clmem : ∀ y ∈ fr, cl.lookup y = some (cf y) := fun y hy => by
    rw [hcl]
    exact lookup_map_mem (List.mem_reverse.mpr hy)
  rw [eval_ListComp]
  refine wpAny_comprehension_free (use := none) (cl := cl) rfl hs hclos S.kind S.names ?_
  refine thn (hi pins s σ H _ I h) fun v s1 h1 => thn h1 fun itv s2 h2 => ?_
  obtain ⟨it, fp, tn, J, H2, rfl, I2, T, st2, f2, hR⟩ := h2
  refine wpAny_newObj_type ?_ (by show 0 ≤ sizeLine; exact Nat.zero_le _)
  have hD : H2 s2.heap.objs.size = none := I2.hok.fresh (Nat.le_refl _)
  have I3 : Inv X pins σ (upd H2 s2.heap.objs.size (.lst [])) { s2 with heap := s2.heap.push { cls := .type "list", data := .seq ([] : List Value).toArray } } := I2.lnew (t' := s2.toks) .nil (Nat.zero_le _)
  obtain ⟨W, ⟨m0, w0⟩, turn⟩ := hR s2.heap.objs.size hD
  generalize hH3 : upd H2 s2.heap.objs.size (.lst []) = H3 at I3 w0
  generalize hs3 : ({ s2 with heap := s2.heap.push { cls := .type "list", data := .seq ([] : List Value).toArray } } : Shared) = s3 at I3
  have fp3 : ∀ b ∈ fp, H3 b = none := fun b hb => by
    rw [← hH3]
    have hb2 := (f2 b hb).1
    obtain ⟨o, ho, _⟩ := T.obj 0 _ st2 b hb
    rw [upd_ne (Nat.ne_of_lt (Heap.lt_size ho))]
    exact hb2
  have tn3 : tn 0 s3.heap := T.keep 0 _ _ st2 fun b hb o e => by rw [← hs3]; exact Heap.get?_push_of_some _ e
  have fpin : ∀ b ∈ fp, ∃ o, s3.heap.get? b = some o := fun b hb => by
    obtain ⟨o, ho, _⟩ := T.obj 0 _ tn3 b hb
    exact ⟨o, ho⟩
  refine wpAny_newFunctionEnv S.nocell (by intro y hy; simp at hy) (fun h1 hns hsb => ?_) S.kind
  have keep : ∀ b o, s3.heap.get? b = some o → h1.get? b = some o := fun b o e => (hsb.2 b (Nat.ne_of_lt (Heap.lt_size e))).trans (Heap.get?_push_of_some _ e)
  have nC : ∀ b o, s3.heap.get? b = some o → b ≠ s3.heap.objs.size := fun b o e => Nat.ne_of_lt (Heap.lt_size e)
  have Ok : (cxLc X x fr scope cl fp s3 H3).Ok := by
    refine ⟨I3.ok.mod, S.kind, I3.ok.glob, I3.ok.blt, Nat.le_refl _, fun y z c e1 e2 => ?_, fun y hky => ?_, fun y c hf e => ?_, fun _ => I3.ok.hd hc, I3.ok.frames, .inl rfl, fun b hb => ⟨?_, fun y c e z => ?_⟩, fun b o e => I3.bs b o e,
      Nat.le_trans I3.ok.bsz I3.sz, fun b o e hb => ?_, fun b hb hm => ?_, I3.stack, fun b hb => I3.stkFree b hb⟩
    · obtain ⟨a1, a2⟩ := clook y c e1
      obtain ⟨b1, b2⟩ := clook z c e2
      exact I3.ok.inj y z c (by rw [a2]; exact hcf' y a1) (by rw [b2]; exact hcf' z b1)
    · have hky' : (relabel scope X.env).names.lookup y = some .cell ∨ (relabel scope X.env).names.lookup y = some .free := hky
      have er : (relabel scope X.env).names.lookup y = (scope.names.lookup y).map fun k => if (k == NameKind.free && X.env.scope.kind == .function && X.env.kindOf y == some .cell) then NameKind.cell else k := relabel_lookup (scope := scope) (env := X.env) y scope.names
      rw [er] at hky'
      refine ⟨_, clmem y (S.look y ?_)⟩
      cases q : scope.names.lookup y with
      | none => rw [q] at hky'; simp at hky'
      | some k =>
        rw [q] at hky'
        cases k <;> simp at hky' <;> simp
    · obtain ⟨a1, a2⟩ := clook y c e
      have : y = x := of_decide_eq_true hf
      exact absurd (this ▸ a1) S.notx
    · obtain ⟨o, ho⟩ := fpin b hb
      exact nC b o ho
    · obtain ⟨a1, a2⟩ := clook y c e
      exact (f2 b hb).2.2.2.2.1 y c (by rw [a2]; exact hcf' y a1) z
    · rcases (f2 b hb).2.2.2.1 with z | z
      · exact I3.ok.noex b o e z
      · exact absurd (Nat.lt_of_lt_of_le (Heap.lt_size e) (Nat.le_trans I3.ok.bsz z)) (Nat.lt_irrefl _)
    · rcases List.mem_cons.mp (I3.stkSub b hm) with z | z
      · exact (f2 b hb).2.1 z
      · exact (f2 b hb).2.2.1 z
  have hlen : js.length = fr.length := by
    have := congrArg List.length hj
    simpa using this
  have Ic : ∀ tk, Inv (cxLc X x fr scope cl fp s3 H3) [] (lcSt σ js none) H3 { s3 with heap := h1, toks := tk } := fun tk => by
    refine ⟨Ok, rfl, I3.bare, Un.kept keep, ⟨_, hns, fun i y v e1 e2 e3 => ?_⟩, fun y c e => ?_, I3.hok.fresh (Nat.le_refl _), fun y c e => ?_, fun p hp => ?_, I3.hok.kept keep, ?_⟩
    · cases i with
      | zero =>
        have e2' : (some none : Option (Option V)) = some (some v) := e2
        cases e2'
      | succ i =>
        have e1' : fr[i]? = some y := e1
        have e2' : (js.map fun j => (σ[j]?).join)[i]? = some (some v) := e2
        rw [List.getElem?_map] at e2'
        obtain ⟨j, hj1, hj2⟩ := Option.map_eq_some_iff.mp e2'
        have hjN : X.N[j]? = some y := by
          have := congrArg (fun l => l[i]?) hj
          simp only [List.getElem?_map, hj1, e1', Option.map_some] at this
          exact Option.some.inj this
        have hσ : σ[j]? = some (some v) := by
          cases q : σ[j]? with
          | none => rw [q] at hj2; cases hj2
          | some o => rw [q] at hj2; exact congrArg some hj2
        have hy : y ∈ fr := List.mem_of_getElem? e1'
        obtain ⟨m, _, hl⟩ := I3.loc
        obtain ⟨u, ru, l⟩ := hl j y v hjN hσ (.inr (.inl (hk y hy)))
        refine ⟨u, ru, ?_⟩
        rcases l with ⟨kl, _⟩ | ⟨_, c, ec, o, ho, hd⟩
        · rw [hk y hy] at kl; cases kl
        · refine .inr ⟨?_, c, ?_, o, keep c o ho, hd⟩
          · have er : (relabel scope X.env).names.lookup y = (scope.names.lookup y).map fun k => if (k == NameKind.free && X.env.scope.kind == .function && X.env.kindOf y == some .cell) then NameKind.cell else k := relabel_lookup (scope := scope) (env := X.env) y scope.names
            show (relabel scope X.env).names.lookup y = some .cell ∨ (relabel scope X.env).names.lookup y = some .free
            rw [er, S.lookfr y hy]
            have hb : (X.env.kindOf y == some NameKind.cell) = true := by rw [hk y hy]; rfl
            have hb2 : (X.env.scope.kind == ScopeKind.function) = true := by rw [I3.ok.kind]; rfl
            left
            simp only [Option.map_some, hb, hb2]
            rfl
          · show cl.lookup y = some c
            rw [clmem y hy]
            have := hcf' y hy
            rw [ec] at this
            exact this.symm
    · obtain ⟨a1, a2⟩ := clook y c e
      obtain ⟨v, o, ho, hd⟩ := I3.cell y c (by rw [a2]; exact hcf' y a1)
      exact ⟨v, o, keep c o ho, hd⟩
    · obtain ⟨a1, a2⟩ := clook y c e
      exact I3.freeC y c (by rw [a2]; exact hcf' y a1)
    · exact absurd hp (by intro z; cases z)
    · show (lcSt σ js none).length = (x :: fr).length
      simp [lcSt, hlen]
  have fin : ∀ s6 H5 m, Inv (cxLc X x fr scope cl fp s3 H3) [] (lcSt σ js none) H5 s6 → Q (.ref s2.heap.objs.size) H5 → compPost (model X.prog X.w) X.A X.xe none (EP X pins σ Q) (.ref s2.heap.objs.size) s3.heap.objs.size (.ok m) s6 := by
    intro s6 H5 m I6 qn
    obtain ⟨mm, hm, _⟩ := I6.loc
    refine ⟨mm, hm, fun h' hs' => ⟨.ref s2.heap.objs.size, H5, ?_, rfl, qn⟩⟩
    have b6 : Un (frs X.stack) fp H3 H5 s3.heap s6.heap := I6.base
    have fC : H5 s3.heap.objs.size = none := I6.free
    refine I3.call' (ch := fp) I6.os ⟨fun b o q n hb hx => (hs'.2 b (nC b o q)).trans (b6.keep b o q n hb hx), fun b o q n hb hx => ?_, b6.free, fun b o q hx => ?_, b6.tups, b6.frzs, b6.tbls⟩ (fun a o e => ?_) I6.bare fun b hb => ⟨(f2 b hb).2.2.2.1, (f2 b hb).2.1, (f2 b hb).2.2.2.2.1, (f2 b hb).2.2.2.2.2⟩
    · obtain ⟨sl, e⟩ := b6.slot b o q n hb hx
      exact ⟨sl, (hs'.2 b (nC b o q)).trans e⟩
    · obtain ⟨o', e⟩ := b6.there b o q hx
      exact ⟨o', (hs'.2 b (nC b o q)).trans e⟩
    · refine (I6.hok a o e).stay (fun c v hc q => (hs'.2 c ?_).trans q) (fun _ q => q) fun _ _ q => q
      rintro rfl
      rcases hc with z | z
      · rw [← z, fC] at e; cases e
      · rw [fC] at z; cases z
  have loop : ∀ tk, codeAny (model X.prog X.w) X.A (.compLoop (.ListComp elt [⟨.Name x px, iter, [], 0⟩] scope pos) 0 (.ref it) (.ref s2.heap.objs.size) (compEnvC scope cl s3.heap.objs.size X.env))
      (compPost (model X.prog X.w) X.A X.xe none (EP X pins σ Q) (.ref s2.heap.objs.size) s3.heap.objs.size) { s3 with heap := h1, toks := tk } := fun tk => by
    refine codeAny_compLoop_own (fun m s' => ∃ i H', Inv (cxLc X x fr scope cl fp s3 H3) [] (lcSt σ js none) H' s' ∧ tn i s'.heap ∧ (∀ b ∈ fp, H' b = none) ∧ W i m H') ?_ m0
      ⟨0, H3, Ic tk, T.keep 0 _ _ tn3 fun b hb o e => keep b o e, fp3, w0⟩
    rintro n s5 ⟨i, H5, I5, t5, f5, w5⟩
    have stat : ∀ {H' : Hp}, (∀ b ∈ fp, H' b = none) → ∀ b ∈ fp, FpOk (cxLc X x fr scope cl fp s3 H3) [] H' b := fun hn b hb => ⟨hn b hb, (Ok.exf b hb).1, Ok.exfs b hb, .inl hb, (Ok.exf b hb).2, fun p hp => absurd hp (by intro z; cases z)⟩
    rcases turn i n H5 w5 with ⟨stop, qn⟩ | ⟨go, step⟩
    · refine thn (T.done (cxLc X x fr scope cl fp s3 H3) rfl rfl rfl hc i [] s5 _ H5 _ I5 (stat f5) t5 stop) fun r s6 ⟨hr, I6⟩ => ?_
      subst hr
      exact fin s6 H5 _ I6 qn
    · refine thn (T.item (cxLc X x fr scope cl fp s3 H3) rfl rfl rfl hc i [] s5 _ H5 _ I5 (stat f5) t5 go) fun r s6 ⟨u, hr, h6⟩ => ?_
      subst hr
      refine thn h6 fun _ s7 ⟨y, H7, I7, r7, y7, t7, f7⟩ => ?_
      have I7' := I7.pinned (stat f7) (T.obj _ _ t7)
      have ndN : (cxLc X x fr scope cl fp s3 H3).N.Nodup := List.nodup_cons.mpr ⟨S.notx, S.nd⟩
      have own : (cxLc X x fr scope cl fp s3 H3).env.scope.names.lookup x = some .local := lookup_relabel_local S.own
      refine thn (pg_name (X := cxLc X x fr scope cl fp s3 H3) (i := 0) (pos := px) ndN rfl (.inl own) (.inr own) _ s7 _ H7 y u (fun σ' H' => σ' = lcSt σ js (some y) ∧ H' = H7) I7' r7 ⟨rfl, rfl⟩) fun _ s8 ⟨σ8, H8, I8, e8, e8'⟩ => ?_
      subst e8 e8'
      refine thn (he cl fp s3 H3 _ s8 _ _ _ I8 (step y _ y7)) fun xv s9 ⟨z, H9, I9, r9, q9⟩ => ?_
      obtain ⟨ys, hl, hz, m', hm, w9⟩ := q9
      refine thn (mt_append (X := cxLc X x fr scope cl fp s3 H3) _ s9 _ H9 (.ref s2.heap.objs.size) [z] (.ref s2.heap.objs.size) [xv] (fun v H' => H' = upd H9 s2.heap.objs.size (.lst (ys ++ [z]))) I9 rfl (.cons r9 .nil)
        ⟨_, ys, z, rfl, rfl, hl, hz, rfl⟩) fun v s10 ⟨v', H10, I10, _, e10⟩ => ?_
      subst e10
      refine ⟨m', hm, i + 1, _, (I10.weak (σ' := lcSt σ js none) rfl fun j v e => ?_).unpinned, T.keep _ _ _ t7 fun b hb o e => (I10.pin (b, o) (List.mem_append_right _ (List.mem_append_right _ (mem_pinsAt hb e)))).1, fun b hb => ?_, w9⟩
      · cases j with
        | zero =>
          have e' : (some none : Option (Option V)) = some (some v) := e
          cases e'
        | succ j => exact e
      · obtain ⟨o, e, _⟩ := T.obj _ _ t7 b hb
        exact (I10.pin (b, o) (List.mem_append_right _ (List.mem_append_right _ (mem_pinsAt hb e)))).2.1
  exact codeAny_compStart_list (loop _) (T.self X.A 0 _ _ _ (T.keep 0 _ _ tn3 fun b hb o e => keep b o e) (loop _))
end
end L2
namespace L2
open PySem PySem.Spec PyProof.Rows
def LcNx (D : Addr) (n : Nat) (Pv : Nat → List V → Hp → Prop) (i : Nat) (z : V) (H4 : Hp) : Prop :=
  ∃ ys, H4 D = some (.lst ys) ∧ ys.length < sizeLine ∧ ∃ m', m' < n - i ∧ (m' = n - (i + 1) ∧ i + 1 ≤ n ∧ ∃ ys', Pv (i + 1) ys' (upd H4 D (.lst (ys ++ [z]))))
theorem lc_nx {D : Addr} {n : Nat} {Pv : Nat → List V → Hp → Prop} {i : Nat} {z : V} {H4 : Hp} {ys : List V} (h1 : H4 D = some (.lst ys)) (h2 : ys.length < sizeLine) (h3 : i < n) (h4 : Pv (i + 1) (ys ++ [z]) (upd H4 D (.lst (ys ++ [z])))) : LcNx D n Pv i z H4 :=
  ⟨ys, h1, h2, n - (i + 1), by omega, rfl, h3, _, h4⟩
theorem lc_tup {K : PySem.W.Frag} {a D : Addr} {xs : List V} {te : TE} {σ : St} {js : List Nat} {H1 : Hp} {R : Hp → Prop} (Pv : Nat → List V → Hp → Prop) (h0 : Pv 0 [] (upd H1 D (.lst []))) (hl : ∀ i ys H, Pv i ys H → SqT K H a xs)
    (hs : ∀ i x ys H, xs[i]? = some x → Pv i ys H → te (lcSt σ js (some x)) H (LcNx D xs.length Pv i)) (hd : ∀ ys H, Pv xs.length ys H → R H) :
    ∃ W : Nat → Nat → Hp → Prop, (∃ m, W 0 m (upd H1 D (.lst []))) ∧ ∀ i m H2, W i m H2 → ((Itt K a).stop i H2 ∧ R H2) ∨ ((Itt K a).go i H2 ∧ ∀ y H3, (Itt K a).yld i H2 y H3 → te (lcSt σ js (some y)) H3 fun z H4 =>
      ∃ ys, H4 D = some (.lst ys) ∧ ys.length < sizeLine ∧ ∃ m', m' < m ∧ W (i + 1) m' (upd H4 D (.lst (ys ++ [z])))) := by
  refine ⟨fun i m H => m = xs.length - i ∧ i ≤ xs.length ∧ ∃ ys, Pv i ys H, ⟨xs.length, by simp, Nat.zero_le _, [], h0⟩, ?_⟩
  rintro i m H ⟨rfl, hi, ys, p⟩
  have q := hl i ys H p
  by_cases hlt : i < xs.length
  · refine .inr ⟨⟨xs, xs[i], q, by simp [hlt]⟩, fun x H' y => ?_⟩
    obtain ⟨e, y⟩ := y
    subst e
    exact hs i x ys _ (y xs q) p
  · have e : i = xs.length := by omega
    subst e
    exact .inl ⟨⟨xs, q, Nat.le_refl _⟩, hd ys H p⟩
theorem lc_list {K : PySem.W.Frag} {a D : Addr} {xs : List V} {te : TE} {σ : St} {js : List Nat} {H1 : Hp} {R : Hp → Prop} (Pv : Nat → List V → Hp → Prop) (h0 : Pv 0 [] (upd H1 D (.lst []))) (hl : ∀ i ys H, Pv i ys H → SqL K H a xs)
    (hs : ∀ i x ys H, xs[i]? = some x → Pv i ys H → te (lcSt σ js (some x)) H (LcNx D xs.length Pv i)) (hd : ∀ ys H, Pv xs.length ys H → R H) :
    ∃ W : Nat → Nat → Hp → Prop, (∃ m, W 0 m (upd H1 D (.lst []))) ∧ ∀ i m H2, W i m H2 → ((Itl K a).stop i H2 ∧ R H2) ∨ ((Itl K a).go i H2 ∧ ∀ y H3, (Itl K a).yld i H2 y H3 → te (lcSt σ js (some y)) H3 fun z H4 =>
      ∃ ys, H4 D = some (.lst ys) ∧ ys.length < sizeLine ∧ ∃ m', m' < m ∧ W (i + 1) m' (upd H4 D (.lst (ys ++ [z])))) := by
  refine ⟨fun i m H => m = xs.length - i ∧ i ≤ xs.length ∧ ∃ ys, Pv i ys H, ⟨xs.length, by simp, Nat.zero_le _, [], h0⟩, ?_⟩
  rintro i m H ⟨rfl, hi, ys, p⟩
  have q := hl i ys H p
  by_cases hlt : i < xs.length
  · refine .inr ⟨⟨xs, xs[i], q, by simp [hlt]⟩, fun x H' y => ?_⟩
    obtain ⟨e, y⟩ := y
    subst e
    exact hs i x ys _ (y xs q) p
  · have e : i = xs.length := by omega
    subst e
    exact .inl ⟨⟨xs, q, Nat.le_refl _⟩, hd ys H p⟩
theorem Same.upd {H H' : Hp} {D : Addr} {o : HO} (s : Same H H') (n : H D = none) : Same H (L2.upd H' D o) := fun b u e => by
  rw [upd_ne (ne_of_none e n)]
  exact s b u e
theorem SqT.updL {K : PySem.W.Frag} {H : Hp} {D a : Addr} {ys xs : List V} {o : HO} (hD : H D = some (.lst ys)) (h : SqT K H a xs) : SqT K (L2.upd H D o) a xs := by
  rcases h with (h | ⟨ob, h⟩) | h
  · exact .inl (.inl (by rw [upd_ne (ne_of h hD (by intro z; cases z))]; exact h))
  · exact .inl (.inr ⟨ob, by rw [upd_ne (ne_of h hD (by intro z; cases z))]; exact h⟩)
  · exact .inr h
end L2

set_option Elab.async false
set_option linter.all false
set_option maxRecDepth 100000
namespace L2
open PySem PySem.Spec PyProof.Rows

theorem ObjOk.there {P : Program} {w : World} {H : Hp} {h : Heap} {a : Addr} {o : HO} (x : ObjOk P w H h a o) : ∃ u, h.get? a = some u := by
  cases o with
  | lst xs => obtain ⟨_, _, _, _, e⟩ := x; exact ⟨_, e⟩
  | tup xs => obtain ⟨_, _, _, u, e, _⟩ := x; exact ⟨u, e⟩
  | dK kvs => obtain ⟨_, _, _, _, u, _, _, e, _⟩ := x; exact ⟨u, e⟩
  | dT kvs => obtain ⟨_, _, _, _, u, _, _, e, _⟩ := x; exact ⟨u, e⟩
  | set S n => obtain ⟨u, _, _, _, e, _⟩ := x; exact ⟨u, e⟩
  | ins C dx fs => obtain ⟨_, _, _, e, _⟩ := x; exact ⟨_, e⟩
  | own y => exact x
  | xd fs => obtain ⟨_, ⟨u, _, _, e, _⟩, _⟩ := x; exact ⟨u, e⟩
  | rng lo hi => obtain ⟨_, _, _, e⟩ := x; exact ⟨_, e⟩
  | frz ob u => exact ⟨_, x.1⟩
  | tbl ps => exact ⟨_, (show h.get? a = some _ from x)⟩
  | met f y => exact ⟨_, (show h.get? a = some _ from x)⟩
  | ext φ => exact x.2.1

def CXE (P : Program) (w : World) : CXT := fun outer H s E ev s' =>
  ∃ (ea C t : Addr) (B : Heap) (H' : Hp), ev = .ref ea ∧ s'.os = s.os ∧ AllBare s'.gens ∧ Un (frs outer) [] H H' s.heap s'.heap ∧ HOk P w H' s'.heap ∧ Heap.FlyingW B outer ea (.ref C) (.ref t) s'.heap ∧
    (∀ b o, s.heap.get? b = some o → b ∉ frs outer → ∃ o', B.get? b = some o') ∧ (∀ b o, H' b = some o → ∃ o', B.get? b = some o') ∧ s.heap.get? ea = none ∧ H' ea = none ∧ E (.ref C) none H'

section
variable {X : Cx} {pins : List (Addr × Obj)} {σ : St} {H H' : Hp} {s s' : Shared}
theorem hok_flown {P : Program} {w : World} {B h h' : Heap} (hok : HOk P w H' h) (k : B.StaysIn h) (k' : B.StaysIn h') (cov : ∀ b o, H' b = some o → ∃ o', B.get? b = some o') : HOk P w H' h' := fun a o e =>
  (hok a o e).stay (fun c v hc q => by
    obtain ⟨o', eo⟩ : ∃ o', B.get? c = some o' := by
      rcases hc with rfl | z
      · exact cov c o e
      · exact cov c _ z
    have e1 := k c o' eo
    rw [q] at e1; cases e1
    exact k' c v eo) (fun _ q => q) fun _ _ q => q

structure Deep (X : Cx) : Prop where
  stk : X.stack = X.env :: X.outer
  fr : X.env.frame = some X.env.locals
  ex : X.ex = []
theorem Deep.frs {X : Cx} (d : Deep X) : frs X.stack = X.env.locals :: X.fs := by
  rw [d.stk]; unfold L2.frs; rw [List.filterMap_cons, d.fr]; rfl

theorem fly_made {E : XK} {ea C : Addr} {vs : List Value} {h' : Heap} (d : Deep X) (I : Inv X pins σ H s) (hx : Heap.MadeExcOf s.heap h' ea (.ref C) vs) (hE : E (.ref C) none H) {F : Value → Shared → Prop} :
    wpAny (model X.prog X.w) X.A (leaving X.env (.ref ea)) (fun _ s'' => CXE X.prog X.w X.outer X.H₀ X.s₀ E (.ref ea) s'') F { s with heap := h' } := by
  have hfr : X.A.frames = some (X.env :: X.outer) := by rw [I.ok.frames, d.stk]
  have ff : s.heap.FunFrames X.base (X.env :: X.outer) := by have := I.stack; rwa [d.stk] at this
  have hin : ∀ env ∈ (X.env :: X.outer), ∀ b, env.frame = some b → b ∈ (X.env :: X.outer).filterMap (·.frame) := fun env he b hb => List.mem_filterMap.mpr ⟨env, he, hb⟩
  have efr : (X.env :: X.outer).filterMap (·.frame) = X.env.locals :: X.fs := by rw [List.filterMap_cons, d.fr]; rfl
  have kB : (PySem.W.hideAll s.heap ((X.env :: X.outer).filterMap (·.frame))).StaysIn s.heap := fun b o q => PySem.W.of_hideAll _ q
  have inB : ∀ b o, s.heap.get? b = some o → b ∉ X.env.locals :: X.fs → (PySem.W.hideAll s.heap ((X.env :: X.outer).filterMap (·.frame))).get? b = some o := fun b o e n => PySem.W.hideAll_get _ e (by rw [efr]; exact n)
  have old : ∀ b o, X.s₀.heap.get? b = some o → b ≠ X.env.locals := fun b o e => Nat.ne_of_lt (Nat.lt_of_lt_of_le (Heap.lt_size e) I.ok.above)
  have trF : ∀ b o, H b = some o → b ∉ X.env.locals :: X.fs := fun b o e hb => by
    rcases List.mem_cons.mp hb with z | z
    · rw [z, I.free] at e; cases e
    · have := I.stkFree b (by rw [d.frs]; exact List.mem_cons_of_mem _ z)
      rw [this] at e; cases e
  refine wpAny_leaves_madeW hfr d.fr kB (PySem.W.funFrames_hide ff hin) hx fun h'' t fl _ _ up => ?_
  have k'' := fl.1
  have ex0 : ∀ b, b ∉ X.ex := fun b hb => by rw [d.ex] at hb; cases hb
  refine ⟨ea, C, t, _, H, rfl, I.os, I.bare, ⟨fun b o e n hb _ => ?_, fun b o e n hb _ => ?_, fun b o e n _ => I.base.free b o e n (ex0 b), fun b o e _ => ?_, I.base.tups, I.base.frzs, I.base.tbls⟩,
    hok_flown I.hok kB k'' fun b o e => ?_, fl, fun b o e hb => ?_, fun b o e => ?_, ?_, ?_, hE⟩
  · exact k'' b o (inB b o (I.base.keep b o e n hb (ex0 b)) fun z => (List.mem_cons.mp z).elim (old b o e) hb)
  · obtain ⟨sl, e1⟩ := I.base.slot b o e n hb (ex0 b)
    obtain ⟨_, o2, ho2, hd2⟩ := ff.mem (b := b) (by rw [efr]; exact List.mem_cons_of_mem _ hb)
    rw [e1] at ho2; cases ho2
    obtain ⟨sl', e2⟩ := up b _ (hx.keeps b _ e1) hd2
    exact ⟨sl', e2⟩
  · obtain ⟨o', e1⟩ := I.base.there b o e (ex0 b)
    by_cases hb : b ∈ X.env.locals :: X.fs
    · obtain ⟨_, o2, ho2, hd2⟩ := ff.mem (b := b) (by rw [efr]; exact hb)
      obtain ⟨sl', e2⟩ := up b _ (hx.keeps b _ ho2) hd2
      exact ⟨_, e2⟩
    · exact ⟨o', k'' b o' (inB b o' e1 hb)⟩
  · obtain ⟨u, eu⟩ := (I.hok b o e).there
    exact ⟨u, inB b u eu (trF b o e)⟩
  · obtain ⟨o', e1⟩ := I.base.there b o e (ex0 b)
    exact ⟨o', inB b o' e1 fun z => (List.mem_cons.mp z).elim (old b o e) hb⟩
  · obtain ⟨u, eu⟩ := (I.hok b o e).there
    exact ⟨u, inB b u eu (trF b o e)⟩
  · cases q : X.s₀.heap.get? ea with
    | none => rfl
    | some o =>
      obtain ⟨o', e1⟩ := I.base.there ea o q (ex0 ea)
      have := hx.new
      rw [e1] at this; cases this
  · cases q : H ea with
    | none => rfl
    | some o =>
      obtain ⟨u, eu⟩ := (I.hok ea o q).there
      have := hx.new
      rw [eu] at this; cases this

theorem fly_on {E : XK} {ev : Value} (d : Deep X) (I : Inv X pins σ H s) (h : CXE X.prog X.w X.stack H s E ev s') {F : Value → Shared → Prop} :
    wpAny (model X.prog X.w) X.A (leaving X.env ev) (fun _ s'' => CXE X.prog X.w X.outer X.H₀ X.s₀ E ev s'') F s' := by
  obtain ⟨ea, C, t, B, H', rfl, ho, hg, u, hok, fl, c1, c2, n1, n2, hE⟩ := h
  have hfr : X.A.frames = some (X.env :: X.outer) := by rw [I.ok.frames, d.stk]
  rw [d.stk] at fl
  have ff : s'.heap.FunFrames B (X.env :: X.outer) := fl.2.2.1
  have efr : (X.env :: X.outer).filterMap (·.frame) = X.env.locals :: X.fs := by rw [List.filterMap_cons, d.fr]; rfl
  rw [d.frs] at u c1
  have old : ∀ b o, X.s₀.heap.get? b = some o → b ≠ X.env.locals := fun b o e => Nat.ne_of_lt (Nat.lt_of_lt_of_le (Heap.lt_size e) I.ok.above)
  have ex0 : ∀ b, b ∉ X.ex := fun b hb => by rw [d.ex] at hb; cases hb
  refine wpAny_leaves_onW hfr d.fr fl fun h'' fl2 up => ?_
  have k := fl.1
  have k'' := fl2.1
  refine ⟨ea, C, t, B, H', rfl, ho.trans I.os, hg, ⟨fun b o e n hb _ => ?_, fun b o e n hb _ => ?_, fun b o e n _ => ?_, fun b o e _ => ?_, fun b xs e => u.tups b xs (I.base.tups b xs e), fun b o xs e => u.frzs b o xs (I.base.frzs b o xs e), fun b ps e => ?_⟩,
    hok_flown hok k k'' c2, fl2, fun b o e hb => ?_, c2, ?_, n2, hE⟩
  · have e1 := I.base.keep b o e n hb (ex0 b)
    have hb' : b ∉ X.env.locals :: X.fs := fun z => (List.mem_cons.mp z).elim (old b o e) hb
    have e2 := u.keep b o e1 (I.base.free b o e n (ex0 b)) hb' (by simp)
    obtain ⟨o', eo⟩ := c1 b o e1 hb'
    have e3 := k b o' eo
    rw [e2] at e3; cases e3
    exact k'' b o eo
  · obtain ⟨sl, e1⟩ := I.base.slot b o e n hb (ex0 b)
    obtain ⟨sl2, e2⟩ := u.slot b _ e1 (I.base.free b o e n (ex0 b)) (List.mem_cons_of_mem _ hb) (by simp)
    obtain ⟨_, o2, ho2, hd2⟩ := ff.mem (b := b) (by rw [efr]; exact List.mem_cons_of_mem _ hb)
    rw [e2] at ho2; cases ho2
    obtain ⟨sl', e3⟩ := up b _ e2 hd2
    exact ⟨sl', e3⟩
  · obtain ⟨o', e1⟩ := I.base.there b o e (ex0 b)
    exact u.free b o' e1 (I.base.free b o e n (ex0 b)) (by simp)
  · obtain ⟨o', e1⟩ := I.base.there b o e (ex0 b)
    by_cases hb : b ∈ X.env.locals :: X.fs
    · obtain ⟨_, o2, ho2, hd2⟩ := ff.mem (b := b) (by rw [efr]; exact hb)
      obtain ⟨sl', e2⟩ := up b _ ho2 hd2
      exact ⟨_, e2⟩
    · obtain ⟨o2, eo⟩ := c1 b o' e1 hb
      exact ⟨o2, k'' b o2 eo⟩
  · obtain ⟨m1, e1⟩ := I.base.tbls b ps e
    obtain ⟨m2, e2⟩ := u.tbls b _ e1
    exact ⟨m1 ++ m2, by rw [e2, Array.append_assoc]⟩
  · obtain ⟨o', e1⟩ := I.base.there b o e (ex0 b)
    exact c1 b o' e1 fun z => (List.mem_cons.mp z).elim (old b o e) hb
  · cases q : X.s₀.heap.get? ea with
    | none => rfl
    | some o =>
      obtain ⟨o', e1⟩ := I.base.there ea o q (ex0 ea)
      rw [n1] at e1; cases e1
end

section
variable {P : Program} {w : World} {K : PySem.W.Frag} {mg : Str → Option Value} {base : Heap}
abbrev cxE (P : Program) (w : World) (K : PySem.W.Frag) (mg : Str → Option Value) (base : Heap) (N : List Str) (qual : Str) (scope : Scope) (f : Addr) (cd : Value) (A : Around) (outer : List Env) (s : Shared) (H : Hp) (E : XK) : Cx :=
  cxOf (CXE P w) P w K mg base N qual scope f cd A outer s H E
theorem deepE {N : List Str} {qual : Str} {scope : Scope} {f : Addr} {cd : Value} {A : Around} {outer : List Env} {s : Shared} {H : Hp} {E : XK} : Deep (cxE P w K mg base N qual scope f cd A outer s H E) := ⟨rfl, rfl, rfl⟩
theorem passE {N : List Str} {qual : Str} {scope : Scope} {f : Addr} {cd : Value} {A : Around} {outer : List Env} {s : Shared} {H : Hp} {E : XK} : Passes (CXE P w) (cxE P w K mg base N qual scope f cd A outer s H E) E :=
  fun _ _ _ _ _ _ I h => fly_on deepE I h
theorem Fun.okE {x qual : Str} {st : Stmt} {f : Addr} {fd : FuncData} {N ps : List Str} {k : Nat} {sp : Sp} (F : Fun K x qual st f fd) (S : FnScope N ps (defScope st)) (len : ∀ vs H Q E, sp vs H Q E → vs.length = ps.length)
    (hbody : ∀ (cdv : Value) (A : Around) (outer : List Env) (s : Shared) (H : Hp) (vs : List V) (Q : VK) (E : XK), Room k (A.deeper (envOfC qual (defScope st) s.heap.objs.size f cdv)) → sp vs H Q E →
      ∃ t, PSs (cxE P w K mg base N qual (defScope st) f cdv A outer s H E) (defBody st) t ∧ t { nx := fun _ H' => Q .non H', rt := Q } (start N vs) H) : FnOk P w K mg base (CXE P w) (k + 1) f fd ps sp := by
  obtain ⟨oc, od, kV, doc, pm, an, cdv, ct, osl, rfl, lk, hcd⟩ := F.ex
  exact fn_of lk hcd S len fun A outer s H vs Q E hr hsp => hbody cdv A outer s H vs Q E hr hsp
end

abbrev vmro : List Value := [.type "ValueError", .type "Exception", .type "BaseException", .type "object"]
theorem xcls_obj {K : PySem.W.Frag} {h : Heap} {C : Addr} (X : K.In h) (q : PySem.W.excIn K C vmro "ValueError.__new__" = true) :
    ∃ bm N nm qn bs hdct sn sub ab col dd k0 k1 k2 k3 k5 mN, h.get? C = some (excClassObj nm qn C N bs bm hdct sn sub ab col dd k0 k1 k2 k3 k5 "ValueError.__new__") ∧ h.Ns N mN ∧ mN "__init__" = none ∧ OwnTail h vmro bm := by
  unfold PySem.W.excIn at q
  split at q
  case h_2 => exact absurd q Bool.false_ne_true
  case h_1 dd cd sl ho =>
    split at q
    case h_2 => exact absurd q Bool.false_ne_true
    case h_1 C' bm k0 k1 k2 k3 n k5 hm hs =>
      simp only [Bool.and_eq_true, beq_iff_eq, Bool.not_eq_true'] at q
      obtain ⟨⟨⟨⟨⟨e1, e2⟩, hdel⟩, ht⟩, hok⟩, hni⟩ := q
      subst e1 e2
      obtain ⟨nm, bs, mro, ns, qn, hd, sn, sub, ab, col, del⟩ := cd
      simp only at hm hdel hok hni
      subst hm; subst hdel
      obtain ⟨l⟩ := sl
      simp only at hs
      subst hs
      exact ⟨bm, ns, nm, qn, bs, hd, sn, sub, ab, col, dd, k0, k1, k2, k3, k5, _, X _ _ ho, .of_isNs (PySem.W.isNs_of_in X hok), PySem.W.nsMap_none_of_in X hok hni, PySem.W.tail_of_in X ht⟩
def tRaise (C : Addr) (E : XK) (t : TA) : TS := fun _ σ H => t σ H fun vs H1 => vs.length ≤ sizeLine ∧ E (.ref C) none H1
theorem ps_raise {X : Cx} {E : XK} {C : Addr} {x : Str} {e₀ : Expr} {rest : List Expr} {np cpos pos : Pos} {t : TA} (hc : X.calm = true) (hm : X.mg x = some (.ref C)) (hx : PySem.W.excIn X.K C vmro "ValueError.__new__" = true)
    (hE : ∀ (pins : List (Addr × Obj)) (σ : St) (H : Hp) (s : Shared) (h' : Heap) (e : Addr) (vs : List Value), Inv X pins σ H s → Heap.MadeExcOf s.heap h' e (.ref C) vs → E (.ref C) none H → X.xe (.ref e) { s with heap := h' })
    (ha : PA X (e₀ :: rest) t) (hg : Gl X x := by rfl) (he : starEach (e₀ :: rest) X.env = (false, eval e₀ X.env) :: starEach rest X.env := by rfl) (hpl : (backTo cpos (starEach rest X.env)).any (·.1) = false := by rfl)
    (hdb : (x == ("__debug__" : Str)) = false := by decide) : PS X (.Raise (some (.Call (.Name x np) (e₀ :: rest) [] cpos)) none pos) (tRaise C E t) := by
  intro pins s σ H D I h
  obtain ⟨bm, N, nm, qn, bs, hdct, sn, sub, ab, col, dd, k0, k1, k2, k3, k5, mN, _, _, hni, T⟩ := xcls_obj I.mod.kin hx
  obtain ⟨bm', N', nm', qn', bs', hdct', sn', sub', ab', col', dd', k0', k1', k2', k3', k5', mN', hC', hN', hni', T'⟩ := xcls_obj I.mod.kin hx
  refine wpAny_Raise_call_subT (C := C) (nm := nm') (q := qn') (N := N') (bs := bs') (bm := bm') (hdct := hdct') (sn := sn') (sub := sub') (ab := ab') (col := col') (dd := dd') (k0 := k0') (k1 := k1') (k2 := k2') (k3 := k3') (k5 := k5')
    PySem.F.excBase_ValueError (mN := mN') (T'.hasType PySem.F.excBase_ValueError.hasBase) (I.ok.hd hc) (by rw [he]; show (false || (backTo cpos (starEach rest X.env)).any (·.1)) = false; rw [hpl]; rfl) hni' (ld_glob I hg hm ⟨rfl, ?_⟩ hdb)
  have key := ha cpos pins s σ H _ I h
  rw [he] at key ⊢
  refine Calls.evalArgs_plain (thn key fun us s1 ⟨vs, H1, I1, r1, hl, hw⟩ => ⟨rfl, ?_, I1.bk _ _ hC', hN'.keeps I1.bk, T'.keeps I1.bk, fun h' e hm' => hE pins σ H1 s1 h' e us I1 hm' hw⟩)
  rw [← r1.length]; exact hl
theorem raiseE {P : Program} {w : World} {K : PySem.W.Frag} {mg : Str → Option Value} {base : Heap} {N : List Str} {qual : Str} {scope : Scope} {f : Addr} {cd : Value} {A : Around} {outer : List Env} {s₀ : Shared} {H₀ : Hp} {E : XK} {C : Addr} :
    ∀ (pins : List (Addr × Obj)) (σ : St) (H : Hp) (s : Shared) (h' : Heap) (e : Addr) (vs : List Value), Inv (cxE P w K mg base N qual scope f cd A outer s₀ H₀ E) pins σ H s → Heap.MadeExcOf s.heap h' e (.ref C) vs → E (.ref C) none H →
      (cxE P w K mg base N qual scope f cd A outer s₀ H₀ E).xe (.ref e) { s with heap := h' } := fun _ _ _ _ _ _ _ I hx hE => fly_made deepE I hx hE
end L2
namespace L2
open PySem PySem.Spec PyProof.Rows
theorem FnOk.down {P : Program} {w : World} {K : PySem.W.Frag} {mg : Str → Option Value} {base : Heap} {k : Nat} {f : Addr} {fd : FuncData} {ps : List Str} {sp : Sp} (F : FnOk P w K mg base (CXE P w) k f fd ps sp) :
    FnOk P w K mg base CX0 k f fd ps (fun vs H Q _ => sp vs H Q E0) :=
  ⟨fun vs H Q _ h => F.len vs H Q E0 h, fun A outer s H args us vs Q _ hr e0 hb hv h => codeAny_mono (F.run A outer s H args us vs Q E0 hr e0 hb hv h) fun r s' q => by
    cases r with
    | error e =>
      obtain ⟨_, _, _, _, _, _, _, _, _, _, _, _, _, _, _, z⟩ := q
      exact z.elim
    | ok f => cases f <;> exact q⟩
end L2

set_option Elab.async false
set_option linter.all false
set_option maxRecDepth 100000
namespace L2
open PySem PySem.Spec PyProof.Rows PySem.W
section
variable {prog : Program} {w : World} {A : Around} {E : Value → Shared → Prop} {K : PySem.W.Frag} {x C : Addr} {ox : Obj}
structure XAt (K : PySem.W.Frag) (C : Addr) : Prop where
  ga : PySem.W.findIn K (.ref C) "__getattribute__" = some (some (.builtin "BaseException.__getattribute__"))
  gt : PySem.W.findIn K (.ref C) "__getattr__" = some none
  cl : PySem.W.findIn K (.ref C) "__class__" = some (some (.builtin "object.__class__"))
  ob : PySem.W.mroIn K C (.type "object") = some true
  be : PySem.W.mroIn K C (.type "BaseException") = some true
  cs : (PySem.W.clsIn K C).isSome = true
theorem exc_get {R : Result → Shared → Prop} {s : Shared} {tp : Value} (X : K.In s.heap) (he : s.heap.get? x = some ox) (hc : ox.cls = .ref C) (hm : PySem.W.mroIn K C (.type "object") = some true)
    (h : R (.ok (.ret (.ref C))) s) : codeAny (model prog w) A (.call (.builtin "getset_descriptor.__get__") ⟨[.builtin "object.__class__", .ref x, tp], []⟩) R s := by
  obtain ⟨hh, g, dr, t, os⟩ := s
  have L0 : Looks (model prog w) hh (typeOf (.ref x)) (.ref C) := hc ▸ (Looks.ld he).andThen .now
  have L1 := looks_mroIn (M := model prog w) X hm
  have L2 : Looks (model prog w) hh (isSubtype (.ref C) (.type (".".intercalate ("object.__class__".cutAt '.').dropLast))) true := by rw [F.owner_object_class]; exact L1
  have hT5 : (⟨hh, g, dr, t, os⟩ : Shared).TypeIs (.builtin "object.__class__") "getset_descriptor" := F.typeOf_object_class
  refine codeAny_call_builtin F.slot_gs_get.plain F.entry_gs_get (F.slot_gs_get.check _ _ _ _ _ _ _ _ hT5 (F.args_gs_get _ _ _) ?_)
  repeat (any_goals (first | assumption | with_reducible refine L0.at ?_ | with_reducible refine L2.at ?_ | wp_step))
  refine ⟨Code.quiet_builtin _ (by decide +kernel), codeAny_builtin F.entry_object_class ?_⟩
  repeat (any_goals (first | assumption | with_reducible refine L0.at ?_ | wp_step))
theorem exc_entry {Q : Fin → Shared → Prop} {tk : Tok} {s : Shared} (X : K.In s.heap) (he : s.heap.get? x = some ox) (hc : ox.cls = .ref C) (T : XAt K C) (hq : Q (.done (.ret (.ref C))) s) :
    wpAny (model prog w) A (Builtin.«object.__getattribute__» ⟨[.ref x, .str "__class__" tk], []⟩) Q E s := by
  obtain ⟨hh, g, dr, t, os⟩ := s
  have L0 : Looks (model prog w) hh (typeOf (.ref x)) (.ref C) := hc ▸ (Looks.ld he).andThen .now
  have L1 := looks_findIn (M := model prog w) X T.cl
  have hT5 : (⟨hh, g, dr, t, os⟩ : Shared).TypeIs (.builtin "object.__class__") "getset_descriptor" := F.typeOf_object_class
  have f5 := F.typeOf_object_class
  have f6 := F.slot_gs_get.lookup
  have f7 := F.slot_gs_set.lookup
  repeat (any_goals (first | assumption | with_reducible refine L0.at ?_ | with_reducible refine L1.at ?_ | wp_step))
  refine exc_get (s := ⟨hh, g, dr, t, os⟩) X he hc T.ob ?_
  repeat (any_goals (first | assumption | wp_step))
theorem exc_check {M : Model} {nameV : Value} {Q : Unit → Shared → Prop} {s : Shared} (X : K.In s.heap) (he : s.heap.get? x = some ox) (hc : ox.cls = .ref C) (T : XAt K C) (hq : Q () s) :
    wpAny M A (checkBuiltinCall "BaseException.__getattribute__" ⟨[.ref x, nameV], []⟩) Q E s := by
  obtain ⟨hh, g, dr, t, os⟩ := s
  have L0 : Looks M hh (typeOf (.ref x)) (.ref C) := hc ▸ (Looks.ld he).andThen .now
  have L1 := looks_mroIn (M := M) X T.be
  have LI : Looks M hh (isInstance (.ref x) (.type "BaseException")) true := L0.andThen L1
  have hk : builtinKind "BaseException.__getattribute__" = some .slot := by decide +kernel
  have hsplit : splitId "BaseException.__getattribute__" = some ("BaseException", "__getattribute__") := by decide +kernel
  have ha := F.args_bexc_ga (.ref x) nameV
  simp only [checkBuiltinCall, hk, hsplit]
  refine wpAny_bind (LI.at ?_)
  repeat (any_goals (first | assumption | wp_step))
theorem exc_by {tk : Tok} {fill expr : Bool} {Q : Value → Shared → Prop} {s : Shared} (X : K.In s.heap) (he : s.heap.get? x = some ox) (hc : ox.cls = .ref C) (T : XAt K C) (hq : Q (.ref C) s) :
    wpAny (model prog w) A (getAttrBy (.ref x) (.str "__class__" tk) fill expr) Q E s := by
  obtain ⟨hh, g, dr, t, os⟩ := s
  have L0 : Looks (model prog w) hh (typeOf (.ref x)) (.ref C) := hc ▸ (Looks.ld he).andThen .now
  have L1 := looks_findIn (M := model prog w) X T.ga
  have L2 := looks_findIn (M := model prog w) X T.gt
  have f3 := F.attrBase_ValueError.ga.bind (.ref x)
  have hx0 : (expr && onTheHeap (Value.builtin "BaseException.__getattribute__")) = false := by cases expr <;> rfl
  have hx2 : (Value.builtin "BaseException.__getattribute__" == Value.builtin "object.__getattribute__") = false := by decide +kernel
  have hx1 : (onTheHeap (Value.ref C) && Value.builtin "BaseException.__getattribute__" == Value.builtin "object.__getattribute__") = false := by rw [hx2]; rfl
  repeat (any_goals (first | assumption | with_reducible refine L0.at ?_ | with_reducible refine L1.at ?_ | with_reducible refine L2.at ?_ | wp_step))
  refine codeAny_call_builtin F.attrBase_ValueError.ga.plain F.entry_bexc_ga (exc_check (s := ⟨hh, g, dr, t, os⟩) X he hc T (exc_entry (s := ⟨hh, g, dr, t, os⟩) X he hc T ?_))
  repeat (any_goals (first | assumption | wp_step))
theorem exc_attr {Q : Option Value → Shared → Prop} {s : Shared} (X : K.In s.heap) (he : s.heap.get? x = some ox) (hc : ox.cls = .ref C) (T : XAt K C) (hq : Q (some (.ref C)) { s with toks := s.toks + 1 }) :
    wpAny (model prog w) A (getAttr? (.ref x) "__class__") Q E s := by
  obtain ⟨hh, g, dr, t, os⟩ := s
  unfold getAttr? getAttrBy?
  refine wpAny_bind (wpAny_mkText (wpAny_bind (wpAny_attempt (exc_by (s := ⟨hh, g, dr, t + 1, os⟩) X he hc T ?_))))
  exact wpAny_pure hq
def ExcAt (x C : Addr) (h : Heap) : Prop := ∃ o, h.get? x = some o ∧ o.cls = .ref C
theorem kitx_exc (T : XAt K C) : KitX K (.ref x) (.ref C) (ExcAt x C) where
  ty := fun M h _ p => by
    obtain ⟨o, h1, h2⟩ := p
    exact h2 ▸ (Looks.ld h1).andThen .now
  it := fun _ _ X _ => by
    obtain ⟨cd, hcd⟩ := Option.isSome_iff_exists.mp T.cs
    unfold clsIn at hcd
    split at hcd
    · rename_i ho
      intro A' Q' E' s' k q
      unfold isType loadHead
      exact wpAny_bind (wpAny_loadPart (k _ _ (X _ _ ho)) (wpAny_pure q))
    · cases hcd
  ne := fun h tp dd its n sl X htp => by
    obtain ⟨cd, hcd⟩ := Option.isSome_iff_exists.mp T.cs
    refine Bool.eq_false_iff.mpr fun q => ?_
    have e : C = tp := Value.ref.inj (beq_iff_eq.mp q)
    subst e
    unfold clsIn at hcd
    split at hcd
    · rename_i ho
      have z := (X _ _ ho).symm.trans htp
      cases z
    · cases hcd
  ca := fun X p k => by
    obtain ⟨o, h1, h2⟩ := p
    exact exc_attr X h1 h2 T k
end
end L2

namespace L2
open PySem PySem.Spec PyProof.Rows
structure XSub (K : PySem.W.Frag) (C D : Addr) : Prop where
  sub : PySem.W.mroIn K C (.ref D) = some true
  be : PySem.W.mroIn K D (.type "BaseException") = some true
  cs : (PySem.W.clsIn K D).isSome = true
  ty : PySem.W.typeIn K (.ref D) = some (.type "type")
theorem takes_own {M : Model} {A : Around} {E : Value → Shared → Prop} {s : Shared} {Q : Bool → Shared → Prop} {K : PySem.W.Frag} {C D ea : Addr} {oe : Obj} (X : K.In s.heap) (he : s.heap.get? ea = some oe) (hc : oe.cls = .ref C) (S : XSub K C D) (q : Q true s) :
    wpAny M A (excMatches (.ref ea) (.ref D)) Q E s := by
  have kc : PySem.W.kitCls K (.ref C) (.ref D) = some true := by
    unfold PySem.W.kitCls
    dsimp only
    rw [if_pos (by rw [S.cs, S.ty]; rfl)]
    exact S.sub
  have LT : PySem.W.Looks M s.heap (isInstance (.ref D) (.type "tuple")) false := (PySem.W.looks_typeIn X S.ty).andThen (.of_pure tc_notTuple)
  have LE : PySem.W.Looks M s.heap (isExcClass (.ref D)) true := (PySem.W.kit_cls X kc).2.1.andThen (PySem.W.looks_mroIn X S.be)
  have LC : PySem.W.Looks M s.heap (isSubtype (.ref C) (.ref D)) true := (PySem.W.kit_cls X kc).2.2
  have LO : PySem.W.Looks M s.heap (typeOf (.ref ea)) (.ref C) := hc ▸ (PySem.W.Looks.ld he).andThen .now
  obtain ⟨hp, gn, dw, tk, oo⟩ := s
  unfold excMatches
  refine wpAny_bind (LT.at ?_)
  rw [if_neg (by simp)]
  refine wpAny_bind (m := pure [Value.ref D]) (wpAny_pure ?_)
  dsimp only
  rw [List.forIn_cons]
  refine wpAny_bind (wpAny_bind (wpAny_bind (LE.at ?_)))
  rw [if_neg (by simp)]
  refine wpAny_pure ?_
  show wpAny M A (forIn [] _ _) _ _ _
  rw [List.forIn_nil]
  refine wpAny_pure (wpAny_bind (LO.at ?_))
  rw [List.forIn_cons]
  refine wpAny_bind (wpAny_bind (wpAny_bind (LC.at ?_)))
  rw [if_pos rfl]
  exact wpAny_pure (wpAny_pure (wpAny_pure q))

section
variable {X : Cx} {pins : List (Addr × Obj)} {σ : St} {H H' : Hp} {s s' : Shared}
theorem Inv.landed {B h'' : Heap} (d : Deep X) (I : Inv X pins σ H s) (ho : s'.os = s.os) (hg : AllBare s'.gens) (u : Un (frs X.stack) [] H H' s.heap s'.heap) (hok : HOk X.prog X.w H' s'.heap)
    (k : B.StaysIn s'.heap) (ff : s'.heap.FunFrames B X.stack) (c1 : ∀ b o, s.heap.get? b = some o → b ∉ frs X.stack → ∃ o', B.get? b = some o') (c2 : ∀ b o, H' b = some o → ∃ o', B.get? b = some o')
    (k'' : B.StaysIn h'') (up : s'.heap.UpToSlots h'') (t' : Nat) : Inv X pins σ H' { s' with heap := h'', toks := t' } := by
  refine I.call' (s' := { s' with heap := h'', toks := t' }) (ch := []) ho ⟨fun b o e n hb _ => ?_, fun b o e n hb _ => ?_, u.free, fun b o e _ => ?_, u.tups, u.frzs, u.tbls⟩ (hok_flown hok k k'' c2) hg (fun b hb => nomatch hb)
  · have e2 := u.keep b o e n hb (by simp)
    obtain ⟨o', eo⟩ := c1 b o e hb
    have e3 := k b o' eo
    rw [e2] at e3; cases e3
    exact k'' b o eo
  · obtain ⟨sl, e1⟩ := u.slot b o e n hb (by simp)
    obtain ⟨_, o2, ho2, hd2⟩ := ff.mem (b := b) hb
    rw [e1] at ho2; cases ho2
    obtain ⟨sl', e3⟩ := up b _ e1 hd2
    exact ⟨sl', e3⟩
  · by_cases hb : b ∈ frs X.stack
    · obtain ⟨_, o2, ho2, hd2⟩ := ff.mem (b := b) hb
      obtain ⟨sl', e2⟩ := up b _ ho2 hd2
      exact ⟨_, e2⟩
    · obtain ⟨o2, eo⟩ := c1 b o e hb
      exact ⟨o2, k'' b o2 eo⟩
def XO (ea C : Addr) : HO := .ext (ExcAt ea C)
theorem Inv.track {s2 : Shared} {ea C : Addr} (I : Inv X pins σ H s) (I2 : Inv X pins σ H' s2) (n1 : s.heap.get? ea = none) (n2 : H' ea = none) (e : ExcAt ea C s2.heap) : Inv X pins σ (upd H' ea (XO ea C)) s2 := by
  have ne : ∀ b o, s.heap.get? b = some o → b ≠ ea := fun b o q z => by rw [z, n1] at q; cases q
  have old : ∀ b o, X.s₀.heap.get? b = some o → b ∉ X.ex → b ≠ ea := fun b o q hx => by
    obtain ⟨o', e1⟩ := I.base.there b o q hx
    exact ne b o' e1
  refine ⟨I2.ok, I2.os, I2.bare, ⟨I2.base.keep, I2.base.slot, fun b o q n hx => by rw [upd_ne (old b o q hx)]; exact I2.base.free b o q n hx, I2.base.there, fun b xs q => ?_, fun b o xs q => ?_, fun b ps q => ?_⟩, I2.loc, I2.cell, ?_, fun x c q => ?_, fun p hp => ?_, fun a o q => ?_, I2.len⟩
  · have q' := I2.base.tups b xs q
    rw [upd_ne (ne_of_none q' n2)]; exact q'
  · have q' := I2.base.frzs b o xs q
    rw [upd_ne (ne_of_none q' n2)]; exact q'
  · obtain ⟨m, q'⟩ := I2.base.tbls b ps q
    exact ⟨m, by rw [upd_ne (ne_of_none q' n2)]; exact q'⟩
  · obtain ⟨m, ⟨o, _, _, q, _⟩, _⟩ := I.loc
    rw [upd_ne (ne _ o q)]; exact I2.free
  · obtain ⟨v, o, q', _⟩ := I.cell x c q
    rw [upd_ne (ne _ o q')]; exact I2.freeC x c q
  · obtain ⟨e1, e2, e3⟩ := I2.pin p hp
    obtain ⟨f1, _⟩ := I.pin p hp
    exact ⟨e1, by rw [upd_ne (ne _ _ f1)]; exact e2, e3⟩
  · by_cases ha : a = ea
    · subst ha
      rw [upd_same] at q; cases q
      obtain ⟨ob, eo, ec⟩ := e
      exact ⟨⟨ob, eo, ec⟩, ⟨ob, eo⟩, fun h1 h2 ⟨o1, p1, p2⟩ kk => ⟨o1, kk _ p1, p2⟩⟩
    · rw [upd_ne ha] at q
      exact (I2.hok a o q).stay (fun _ _ _ z => z) (fun b z => by rw [upd_ne (ne_of_none z n2)]; exact z) fun b xs z => by rw [upd_ne (ne_of_none z n2)]; exact z

abbrev cxH (X : Cx) (ea : Addr) : Cx := { X with A := X.A.mark (some (.ref ea)), calm := false, xe := fun _ _ => False }
theorem Cx.Ok.inH (ok : X.Ok) (ea : Addr) : (cxH X ea).Ok :=
  ⟨ok.mod, ok.kind, ok.glob, ok.blt, ok.above, ok.inj, ok.has, ok.cab, fun z => absurd z Bool.false_ne_true, ok.frames, ok.stk, ok.exf, ok.bs, ok.bsz, ok.noex, ok.exfs, ok.funs, ok.frf⟩
theorem Inv.inH (I : Inv X pins σ H s) (ea : Addr) : Inv (cxH X ea) pins σ H s := ⟨I.ok.inH ea, I.os, I.bare, I.base, I.loc, I.cell, I.free, I.freeC, I.pin, I.hok, I.len⟩
theorem Inv.outH {ea : Addr} (ok : X.Ok) (I : Inv (cxH X ea) pins σ H s) : Inv X pins σ H s := ⟨ok, I.os, I.bare, I.base, I.loc, I.cell, I.free, I.freeC, I.pin, I.hok, I.len⟩
theorem Inv.gone {n : Str} {i : Nat} {h' : Heap} {v : Option Value} {m : Str → Option Value} {t' : Nat} (I : Inv X pins σ H s) (hN : X.N.Nodup) (hi : X.N[i]? = some n) (hl : X.env.kindOf n = some .local) (hm : s.heap.Ns X.env.locals m)
    (hn : h'.Ns X.env.locals (fun x => if x = n then v else m x)) (hs : Heap.SameBut X.env.locals s.heap h') : Inv X pins (σ.set i none) H { s with heap := h', toks := t' } := by
  obtain ⟨m', hm', hv⟩ := I.loc
  have em : m' = m := by
    obtain ⟨o1, es1, ep1, a1, a2, a3, a4⟩ := hm'
    obtain ⟨o2, es2, ep2, b1, b2, b3, b4⟩ := hm
    rw [a1] at b1; cases b1
    rw [a2] at b2; cases b2
    funext y
    rw [← a4, ← b4]
  subst em
  have old : ∀ b o, X.s₀.heap.get? b = some o → b ≠ X.env.locals := fun b o e => Nat.ne_of_lt (Nat.lt_of_lt_of_le (Heap.lt_size e) I.ok.above)
  have iσ : i < σ.length := by rw [I.len]; exact (List.getElem?_eq_some_iff.mp hi).1
  refine ⟨I.ok, I.os, I.bare, ⟨fun b o e n' hb hx => (hs.2 b (old b o e)).trans (I.base.keep b o e n' hb hx), fun b o e n' hb hx => ?_, I.base.free, fun b o e hx => ?_, I.base.tups, I.base.frzs, I.base.tbls⟩, ⟨_, hn, fun j y v' e1 e2 e3 => ?_⟩, fun y c e => ?_, I.free, I.freeC, fun p hp => ?_, fun a o e => ?_, by simpa using I.len⟩
  · obtain ⟨sl, e1⟩ := I.base.slot b o e n' hb hx
    exact ⟨sl, (hs.2 b (old b o e)).trans e1⟩
  · obtain ⟨o', e1⟩ := I.base.there b o e hx
    exact ⟨o', (hs.2 b (old b o e)).trans e1⟩
  · by_cases hj : j = i
    · subst hj
      rw [List.getElem?_set_self iσ] at e2
      cases e2
    · rw [List.getElem?_set_ne (Ne.symm hj)] at e2
      obtain ⟨u, r, q⟩ := hv j y v' e1 e2 e3
      refine ⟨u, r, ?_⟩
      rcases q with ⟨kk, e⟩ | ⟨kk, c, e, z⟩
      · refine .inl ⟨kk, ?_⟩
        have : y ≠ n := fun z => hj (nodup_ix hN e1 (z ▸ hi))
        simp only [this, if_false]
        exact e
      · exact .inr ⟨kk, c, e, z.sameBut hs (I.cne y c e)⟩
  · obtain ⟨w', z⟩ := I.cell y c e
    exact ⟨w', z.sameBut hs (I.cne y c e)⟩
  · obtain ⟨e, n', ne, nf, dd⟩ := I.pin p hp
    exact ⟨(hs.2 p.1 ne).trans e, n', ne, nf, dd⟩
  · refine (I.hok a o e).stay (fun c v' hc q => (hs.2 c ?_).trans q) (fun _ q => q) fun _ _ q => q
    rintro rfl
    rcases hc with z | z
    · rw [← z, I.free] at e; cases e
    · rw [I.free] at z; cases z
end
end L2
namespace L2
open PySem PySem.Spec PyProof.Rows
def PSx (X : Cx) (st : List Stmt) (t : XK → TS) : Prop :=
  ∀ (pins : List (Addr × Obj)) (s : Shared) (σ : St) (H : Hp) (D : Ends) (Ex : XK) (E' : Value → Shared → Prop), Inv X pins σ H s → t Ex D σ H →
    (∀ H1 s1 e s2, Inv X pins σ H1 s1 → CXE X.prog X.w X.stack H1 s1 Ex e s2 → E' e s2) → wpAny (model X.prog X.w) X.A (execs st X.env) (SP X pins D) E' s
section
variable {X : Cx} {k : Nat} {f C : Addr} {fd : FuncData} {ps : List Str} {sp : Sp} {x qual : Str} {st : Stmt} {p pos pos' : Pos} {e : Expr} {es : List Expr} {t : TA}
theorem run_fnx {pins : List (Addr × Obj)} {σ : St} {H : Hp} {s : Shared} {Q : VK} {Ex : XK} {E' : Value → Shared → Prop} {us : List Value} {vs : List V} (F : FnOk X.prog X.w X.K X.mg X.base (CXE X.prog X.w) k f fd ps sp) (hr : Room k X.A) (hb : Binds X.K fd ps [])
    (I : Inv X pins σ H s) (r : Vals vs us) (h : sp vs H Q Ex) (hE : ∀ e s2, CXE X.prog X.w X.stack H s Ex e s2 → E' e s2) : wpAny (model X.prog X.w) X.A (call (.ref f) us) (EP X pins σ Q) E' s := by
  have hl : (us ++ []).length = ps.length := by rw [List.append_nil, ← r.length]; exact F.len _ _ _ _ h
  have hbt := hb s us I.kIn hl
  rw [List.append_nil] at hbt
  refine wpAny_call (codeAny_mono (F.run X.A X.stack s H ⟨us, []⟩ us vs Q Ex hr I.env0 hbt r h) fun rr s' hq => ?_)
  cases rr with
  | error ev => exact hE ev s' hq
  | ok fl =>
    cases fl with
    | ret u => exact I.after hq
    | next => exact False.elim hq
    | brk => exact False.elim hq
    | cont => exact False.elim hq
theorem ev_callx {pins : List (Addr × Obj)} {σ : St} {H : Hp} {s : Shared} {Q : VK} {Ex : XK} {E' : Value → Shared → Prop} (D : Dn X.K X.mg x qual st f fd ps) (F : FnOk X.prog X.w X.K X.mg X.base (CXE X.prog X.w) k f fd ps sp) (hr : Room k X.A) (ha : PA X.nox (e :: es) t)
    (hg : Gl X x) (hdb : (x == ("__debug__" : Str)) = false) (he : starEach (e :: es) X.env = (false, eval e X.env) :: starEach es X.env) (hpl : (backTo pos (starEach es X.env)).any (·.1) = false)
    (I : Inv X pins σ H s) (h : t σ H fun vs H1 => sp vs H1 Q Ex) (hE : ∀ H1 s1 e s2, Inv X pins σ H1 s1 → CXE X.prog X.w X.stack H1 s1 Ex e s2 → E' e s2) :
    wpAny (model X.prog X.w) X.A (eval (.Call (.Name x p) (e :: es) [] pos) X.env) (EP X pins σ Q) E' s := by
  refine wpAny_Call_Name_kw (ld_glob I hg D.m ?_ hdb)
  refine PySem.W.callWith_K (h₀ := X.base) I.ok.mod.kin D.F.kp (wpAny_mono (ha pos pins s σ H _ (I.wish _) h) (fun us s1 ww => ?_) fun _ _ z => False.elim z) he hpl
  obtain ⟨vs, H1, I1, r, q⟩ := ww
  have I1' : Inv X pins σ H1 s1 := I1.unwish
  exact ⟨I1'.kIn, run_fnx F hr D.b I1' r q fun ev s2 hq => hE H1 s1 ev s2 I1' hq⟩
theorem psx_set {i : Nat} {y : Str} {py : Pos} (hN : X.N.Nodup) (hi : X.N[i]? = some y) (hy : Loc X.env.scope y) (D : Dn X.K X.mg x qual st f fd ps) (F : FnOk X.prog X.w X.K X.mg X.base (CXE X.prog X.w) k f fd ps sp) (hr : Room k X.A) (ha : PA X.nox (e :: es) t)
    (hg : Gl X x := by rfl) (hdb : (x == ("__debug__" : Str)) = false := by decide) (he : starEach (e :: es) X.env = (false, eval e X.env) :: starEach es X.env := by rfl) (hpl : (backTo pos (starEach es X.env)).any (·.1) = false := by rfl)
    (hs : swapsWith (.Call (.Name x p) (e :: es) [] pos) (some (.Name y py)) pos'.line X.env = pure false := by rfl) (hf : X.fn y = true ∨ X.env.scope.names.lookup y = some .local := by first | exact .inl rfl | exact .inr rfl | assumption) :
    PSx X [.Assign [.Name y py] (.Call (.Name x p) (e :: es) [] pos) pos'] (fun Ex D σ H => t σ H fun vs H1 => sp vs H1 (fun v H2 => D.nx (σ.set i (some v)) H2) Ex) := by
  intro pins s σ H Dn Ex E' I h hE
  refine wpAny_execs_cons (wpAny_Assign_Name (thn (ev_callx (Q := fun v H2 => Dn.nx (σ.set i (some v)) H2) D F hr ha hg hdb he hpl I h hE) fun v s1 ww => ?_) hs)
  obtain ⟨v', H1, I1, r1, q⟩ := ww
  exact store_ok I1 hN hi hy r1 (fun s2 I2 => wpAny_execs_nil ⟨_, H1, I2, q⟩) hf
end
def tTryAs (K : PySem.W.Frag) (D : Addr) (i : Nat) (tb : XK → TS) (ts : TS) : TS := fun Dn σ H =>
  tb (fun cls _ H1 => ∃ C, cls = .ref C ∧ XSub K C D ∧ ∀ ea, H1 ea = none → ts { nx := fun σ' H' => Dn.nx (σ'.set i none) H', rt := Dn.rt, bk := fun σ' H' => Dn.bk (σ'.set i none) H', ct := fun σ' H' => Dn.ct (σ'.set i none) H' } (σ.set i (some (.ref ea))) (upd H1 ea (XO ea C))) Dn σ H
theorem ps_try_as {X : Cx} {body : List Stmt} {x n : Str} {np hpos pos : Pos} {b0 : Stmt} {suite : List Stmt} {D : Addr} {i : Nat} {tb : XK → TS} {ts : TS} (d : Deep X) (hN : X.N.Nodup) (hi : X.N[i]? = some n) (hl : X.env.scope.names.lookup n = some .local) (hb : PSx X body tb)
    (hs : ∀ ea, PSs (cxH X ea) (b0 :: suite) ts) (hm : X.mg x = some (.ref D)) (hg : Gl X x := by rfl) (hdb : (x == ("__debug__" : Str)) = false := by decide) :
    PS X (.Try body [.ExceptHandler (some (.Name x np)) (some n) (b0 :: suite) hpos] [] [] pos) (tTryAs X.K D i tb ts) := by
  intro pins s σ H Dn I h
  refine wpAny_Try_except (wpAny_mono (hb pins s σ H Dn _ _ I h fun H1 s1 ev s2 I1 hf => ?_) (fun fl s1 q => ?_) fun ev s1 q => q)
  · obtain ⟨ea, C, t, B, H', rfl, ho, hgn, u, hok, fl, c1, c2, n1, n2, C', eC, hsub, hts⟩ := hf
    cases eC
    have hfr : X.A.frames = some (X.env :: X.outer) := by rw [I.ok.frames, d.stk]
    have flc := fl
    rw [d.stk] at flc
    refine wpAny_looks_onW hfr d.fr flc fun h4 held4 up4 => ?_
    refine wpAny_landsW held4 fun h5 fl5 up5 => ?_
    have up45 := up4.trans up5
    have I5 : Inv X pins σ H' { s2 with heap := h5 } := I1.landed d ho hgn u hok fl.1 fl.2.2.1 c1 c2 fl5.1 up45 s2.toks
    obtain ⟨ob, hob, hobc⟩ := fl5.there
    refine wpAny_handleBy_cons (codeAny_handlers_test (ld_glob (X := cxH X ea) (I5.inH ea) hg hm (takes_own (s := { s2 with heap := h5 }) I5.kIn hob hobc hsub ?_) hdb)) (by intro z; cases z)
    refine codeAny_handlers_suite_as ?_
    refine lands_againW fl5 fun h6 fl6 up6 => ?_
    have I6 : Inv X pins σ H' { s2 with heap := h6 } := I1.landed d ho hgn u hok fl.1 fl.2.2.1 c1 c2 fl6.1 (up45.trans up6) s2.toks
    have I6t := I1.track (s2 := { s2 with heap := h6 }) I6 n1 n2 fl6.there
    refine store_ok (X := cxH X ea) (v := .ref ea) (I6t.inH ea) hN hi (.inl hl) rfl (fun s7 I7 => ?_) (.inr hl)
    refine wpAny_mono (hs ea pins s7 _ _ _ I7 (hts ea n2)) (fun fl s8 q => ?_) fun _ _ z => False.elim z
    have hp : (X.env.scope.kind == .class || (X.env.scope.kind == .module && X.env.locals != X.env.globals)) = false := by rw [I.ok.kind]; rfl
    have ok := I.ok
    cases fl with
    | next =>
      obtain ⟨σ8, H8, I8, q⟩ := q
      have I8 := I8.outH ok
      obtain ⟨m, hm8, _⟩ := id I8.loc
      exact wpAny_nameGoes_keeps hl hm8 hp fun h' v hn hsb => ⟨_, H8, I8.gone hN hi hl hm8 hn hsb, q⟩
    | brk =>
      obtain ⟨σ8, H8, I8, q⟩ := q
      have I8 := I8.outH ok
      obtain ⟨m, hm8, _⟩ := id I8.loc
      exact wpAny_nameGoes_keeps hl hm8 hp fun h' v hn hsb => ⟨_, H8, I8.gone hN hi hl hm8 hn hsb, q⟩
    | cont =>
      obtain ⟨σ8, H8, I8, q⟩ := q
      have I8 := I8.outH ok
      obtain ⟨m, hm8, _⟩ := id I8.loc
      exact wpAny_nameGoes_keeps hl hm8 hp fun h' v hn hsb => ⟨_, H8, I8.gone hN hi hl hm8 hn hsb, q⟩
    | ret uu =>
      obtain ⟨vv, σ8, H8, I8, rr, q⟩ := q
      have I8 := I8.outH ok
      obtain ⟨m, hm8, _⟩ := id I8.loc
      exact wpAny_nameGoes_keeps hl hm8 hp fun h' v hn hsb => ⟨vv, _, H8, I8.gone hN hi hl hm8 hn hsb, rr, q⟩
  · cases fl with
    | next => exact wpAny_execs_nil q
    | brk => exact q
    | cont => exact q
    | ret v => exact q
end L2

set_option Elab.async false
set_option linter.all false
set_option maxRecDepth 100000
namespace L2
open PySem PySem.Spec PyProof.Rows
mutual
inductive Rep (K : PySem.W.Frag) (H : Hp) : V → PyData → Prop
  | non : Rep K H .non .none
  | bl (b : Bool) : Rep K H (.bl b) (.bool b)
  | int (i : Int) : Rep K H (.int i) (.int i)
  | str (x : Str) : Rep K H (.str x) (.str x)
  | lst {a : Addr} {xs : List V} {ds : List PyData} : SqL K H a xs → RepAll K H xs ds → Rep K H (.ref a) (.list ds)
  | tup {a : Addr} {xs : List V} {ds : List PyData} : SqT K H a xs → RepAll K H xs ds → Rep K H (.ref a) (.tuple ds)
inductive RepAll (K : PySem.W.Frag) (H : Hp) : List V → List PyData → Prop
  | nil : RepAll K H [] []
  | cons {x : V} {xs : List V} {d : PyData} {ds : List PyData} : Rep K H x d → RepAll K H xs ds → RepAll K H (x :: xs) (d :: ds)
end
section
variable {X : Cx} {pins : List (Addr × Obj)} {σ : St} {H : Hp} {s : Shared}
mutual
theorem Rep.reads (I : Inv X pins σ H s) {x : V} {d : PyData} {v : Value} (h : Rep X.K H x d) (r : RelV x v) : ∃ as, Reads s.heap v d as := by
  cases h with
  | non => cases r; exact ⟨_, .none⟩
  | bl b => cases r; exact ⟨_, .bool b⟩
  | int i => obtain ⟨t, rfl⟩ := r; exact ⟨_, .int i t⟩
  | str y => obtain ⟨t, rfl⟩ := r; exact ⟨_, .str y t⟩
  | lst hq hr =>
    cases r
    obtain ⟨its, rv, ⟨o, n, e1, e2, _, e4⟩, _⟩ := I.list hq
    obtain ⟨as, ha⟩ := RepAll.reads I hr rv
    exact ⟨_, .list e1 e2 e4 (by simpa using ha)⟩
  | tup hq hr =>
    cases r
    obtain ⟨its, rv, ⟨o, e1, e2, n, e4⟩, _⟩ := I.tuple hq
    obtain ⟨as, ha⟩ := RepAll.reads I hr rv
    exact ⟨_, .tuple e1 e2 e4 (by simpa using ha)⟩
theorem RepAll.reads (I : Inv X pins σ H s) {xs : List V} {ds : List PyData} {vs : List Value} (h : RepAll X.K H xs ds) (r : Vals xs vs) : ∃ as, ReadsAll s.heap vs ds as := by
  cases h with
  | nil => cases r; exact ⟨_, .nil⟩
  | cons h1 h2 =>
    cases r with
    | cons r1 r2 =>
      obtain ⟨as, ha⟩ := Rep.reads I h1 r1
      obtain ⟨bs, hb⟩ := RepAll.reads I h2 r2
      exact ⟨_, .cons ha hb⟩
end
end
section
variable {X : Cx}
def rEqD (K : PySem.W.Frag) : R2 := fun x y H Q => ∃ d e, Rep K H x d ∧ Rep K H y e ∧ SeqAt.shaped d = true ∧ SeqAt.shaped e = true ∧ SeqAt.noMix d e = true ∧ Q (.bl (same d e)) H
def rNeD (K : PySem.W.Frag) : R2 := fun x y H Q => ∃ d e, Rep K H x d ∧ Rep K H y e ∧ SeqAt.shaped d = true ∧ SeqAt.shaped e = true ∧ SeqAt.noMix d e = true ∧ Q (.bl (!same d e)) H
theorem op_eqD (hu : X.A.units + 64 < cLine) : OpR X (compareOp .Eq) (rEqD X.K) := by
  intro pins s σ H x y v u Q I rx ry h
  obtain ⟨d, e, h1, h2, s1, s2, nm, q⟩ := h
  obtain ⟨as, ra⟩ := h1.reads I rx
  obtain ⟨bs, rb⟩ := h2.reads I ry
  exact eq_dataH_same ra rb s1 s2 hu nm ⟨.bl _, H, I, rfl, q⟩
theorem op_neD (hu : X.A.units + 64 < cLine) : OpR X (compareOp .NotEq) (rNeD X.K) := by
  intro pins s σ H x y v u Q I rx ry h
  obtain ⟨d, e, h1, h2, s1, s2, nm, q⟩ := h
  obtain ⟨as, ra⟩ := h1.reads I rx
  obtain ⟨bs, rb⟩ := h2.reads I ry
  exact ne_dataH_same ra rb s1 s2 hu nm ⟨.bl _, H, I, rfl, q⟩
theorem RepAll.ints {K : PySem.W.Frag} {H : Hp} : ∀ ns : List Int, RepAll K H (ns.map V.int) (ns.map PyData.int)
  | [] => .nil
  | n :: r => .cons (.int n) (RepAll.ints r)
theorem call_isiX {K : PySem.W.Frag} (hK : X.K = K) : CallR X (.builtin "isinstance") (fun xs H Q => ∃ ea C c b, xs = [.ref ea, c] ∧ isCV c = true ∧ H ea = some (XO ea C) ∧ XAt K C ∧ PySem.W.kitOne K (.ref C) (cV c) = some b ∧ Q (.bl b) H) := by
  subst hK
  intro pins s σ H xs us Q I r h
  obtain ⟨ea, C, c, b, rfl, hc, hx, xa, e, q⟩ := h
  obtain ⟨u, v, rfl, rx, rc⟩ := vals2 r
  have ec : v = cV c := by
    cases c with
    | ty n => exact rc
    | ref a => exact rc
    | _ => exact absurd hc Bool.false_ne_true
  subst ec
  cases (show u = Value.ref ea from rx)
  exact PySem.W.kia_one (kitx_exc xa) I.kIn (I.hok ea _ hx).1 e (fun z => nomatch z) fun tk => ⟨.bl b, H, I.tok tk, rfl, q⟩
end
end L2

set_option Elab.async false
set_option linter.all false
set_option maxRecDepth 100000
namespace L2
open PySem PySem.Spec PyProof.Rows
section
variable {X : Cx}
theorem CallR.imp {f : Value} {r r' : List V → Hp → VK → Prop} (h : CallR X f r) (k : ∀ xs H Q, r' xs H Q → r xs H Q) : CallR X f r' :=
  fun pins s σ H xs us Q I rv q => h pins s σ H xs us Q I rv (k _ _ _ q)
theorem OpR.imp {f : Value → Value → Sem Value} {r r' : R2} (h : OpR X f r) (k : ∀ x y H Q, r' x y H Q → r x y H Q) : OpR X f r' :=
  fun pins s σ H x y v u Q I rx ry q => h pins s σ H x y v u Q I rx ry (k _ _ _ _ q)
def New (H : Hp) (o : HO) (Q : VK) : Prop := ∀ p H', Same H H' → H p = none → H' p = some o → Q (.ref p) H'
theorem New.at {H : Hp} {o : HO} {Q : VK} (h : New H o Q) (p : Addr) (n : H p = none) : Q (.ref p) (upd H p o) := h p _ (same_upd n) n upd_same
theorem call_tupN : CallR X (.type "tuple") (fun xs H Q => ∃ p ys, xs = [.ref p] ∧ SqL X.K H p ys ∧ New H (.tup ys) Q) :=
  call_tuple_of.imp fun _ _ _ ⟨p, ys, e, h, q⟩ => ⟨p, ys, e, .inl ⟨h, q.at⟩⟩
theorem op_catN : OpR X (binaryOp .Add) (fun x y H Q => ∃ l b xs zs, x = .ref l ∧ y = .ref b ∧ H l = some (.lst xs) ∧ H b = some (.lst zs) ∧ xs.length + zs.length ≤ sizeLine ∧ New H (.lst (xs ++ zs)) Q) :=
  op_cat.imp fun _ _ _ _ ⟨l, b, xs, zs, e1, e2, h1, h2, z, q⟩ => ⟨l, b, xs, zs, e1, e2, h1, h2, z, q.at⟩
theorem op_repN : OpR X (binaryOp .Mult) (fun x y H Q => ∃ l k xs, x = .ref l ∧ y = .int k ∧ H l = some (.lst xs) ∧ -(2 ^ 63) ≤ k ∧ k < 2 ^ 63 ∧ xs.length * k.toNat ≤ sizeLine ∧ New H (.lst (List.replicate k.toNat xs).flatten) Q) :=
  op_rep.imp fun _ _ _ _ ⟨l, k, xs, e1, e2, h, h1, h2, z, q⟩ => ⟨l, k, xs, e1, e2, h, h1, h2, z, q.at⟩
end
theorem pcallE {P : Program} {w : World} {K : PySem.W.Frag} {mg : Str → Option Value} {base : Heap} {N : List Str} {q' : Str} {scope : Scope} {f' : Addr} {cd : Value} {A : Around} {outer : List Env} {s₀ : Shared} {H₀ : Hp} {E : XK}
    {k : Nat} {f : Addr} {fd : FuncData} {ps : List Str} {sp : Sp} {x qual : Str} {st : Stmt} {p pos : Pos} {e : Expr} {es : List Expr} {t : TA}
    (D : Dn K mg x qual st f fd ps) (F : FnOk P w K mg base (CXE P w) k f fd ps sp) (hr : Room k (cxE P w K mg base N q' scope f' cd A outer s₀ H₀ E).A) (ha : PA (cxE P w K mg base N q' scope f' cd A outer s₀ H₀ E) (e :: es) t)
    (hg : Gl (cxE P w K mg base N q' scope f' cd A outer s₀ H₀ E) x := by rfl) (hdb : (x == ("__debug__" : Str)) = false := by decide)
    (he : starEach (e :: es) (cxE P w K mg base N q' scope f' cd A outer s₀ H₀ E).env = (false, eval e (cxE P w K mg base N q' scope f' cd A outer s₀ H₀ E).env) :: starEach es (cxE P w K mg base N q' scope f' cd A outer s₀ H₀ E).env := by rfl)
    (hpl : (backTo pos (starEach es (cxE P w K mg base N q' scope f' cd A outer s₀ H₀ E).env)).any (·.1) = false := by rfl) :
    PE (cxE P w K mg base N q' scope f' cd A outer s₀ H₀ E) (.Call (.Name x p) (e :: es) [] pos) (tCall sp [] E t) := pe_call F hr hg D.m D.F.kp D.b .nil passE ha hdb he hpl
end L2
namespace L2
open PySem PySem.Spec PyProof.Rows
abbrev dI (ns : List Int) : List PyData := ns.map PyData.int
theorem lay_ints : ∀ ns : List Int, PyData.canLayAll0 (dI ns) = true
  | [] => by simp [PyData.canLayAll0]
  | n :: r => by simp only [dI, List.map_cons, PyData.canLayAll0, PyData.canLay0, Bool.true_and]; exact lay_ints r
theorem dep_ints : ∀ ns : List Int, PyData.depthAll (dI ns) = 0
  | [] => by simp [PyData.depthAll]
  | n :: r => by simp only [dI, List.map_cons, PyData.depthAll, PyData.depth]; rw [show PyData.depthAll (List.map PyData.int r) = 0 from dep_ints r]; rfl
theorem noMix_ints : ∀ ns ms : List Int, SeqAt.noMixAll (dI ns) (dI ms) = true
  | [], [] => by simp [SeqAt.noMixAll]
  | [], _ :: _ => by simp [SeqAt.noMixAll]
  | _ :: _, [] => by simp [SeqAt.noMixAll]
  | n :: r, m :: q => by simp only [dI, List.map_cons, SeqAt.noMixAll, SeqAt.noMix, Bool.true_and]; exact noMix_ints r q
theorem same_ints : ∀ ns ms : List Int, sameAll (dI ns) (dI ms) = decide (ns = ms)
  | [], [] => by simp [sameAll]
  | [], _ :: _ => by simp [sameAll]
  | _ :: _, [] => by simp [sameAll]
  | n :: r, m :: q => by
    simp only [dI, List.map_cons, sameAll, same]
    rw [show sameAll (List.map PyData.int r) (List.map PyData.int q) = decide (r = q) from same_ints r q, Bool.eq_iff_iff]
    simp
theorem shaped_ti (ns : List Int) : SeqAt.shaped (.tuple (dI ns)) = true := by
  unfold SeqAt.shaped
  rw [PyData.canLay0, lay_ints, PyData.depth, dep_ints]; rfl
section
variable {X : Cx}
theorem op_neTI (hu : X.A.units + 64 < cLine) : OpR X (compareOp .NotEq) (fun x y H Q => ∃ a b ns ms, x = .ref a ∧ y = .ref b ∧ SqT X.K H a (List.map V.int ns) ∧ SqT X.K H b (List.map V.int ms) ∧ Q (.bl (!decide (ns = ms))) H) :=
  (op_neD hu).imp fun x y H Q ⟨a, b, ns, ms, e1, e2, h1, h2, q⟩ => by
    subst e1 e2
    refine ⟨.tuple (dI ns), .tuple (dI ms), .tup h1 (RepAll.ints ns), .tup h2 (RepAll.ints ms), shaped_ti ns, shaped_ti ms, by rw [SeqAt.noMix]; exact noMix_ints ns ms, ?_⟩
    rw [same, same_ints]; exact q
abbrev Ls (K : PySem.W.Frag) (H : Hp) (a : Addr) (ns : List Int) : Prop := SqL K H a (List.map V.int ns)
end
end L2
namespace L2
open PySem PySem.Spec PyProof.Rows
end L2
namespace L2
open PySem PySem.Spec PyProof.Rows
def RowsV (K : PySem.W.Frag) (H : Hp) : List V → List (List Int) → Prop := Paired fun v xs => ∃ a, v = .ref a ∧ SqL K H a (List.map V.int xs)
section
variable {X : Cx}
end
section
variable {X : Cx}
end
end L2

set_option Elab.async false
set_option linter.all false
set_option maxRecDepth 100000
namespace L2
open PySem PySem.Spec PyProof.Rows
section
variable {prog : Program} {w : World} {A : Around} {R : Result → Shared → Prop} {s : Shared}
abbrev testsOf (ifs : List Expr) (env : Env) : Sem Bool := forIn ifs true fun c r => if r = true then do let ok ← isTrue c env (eval c env); pure (ForInStep.yield ok) else pure (ForInStep.yield r)
theorem codeAny_compLoop_ifs {elt target iter : Expr} {ifs : List Expr} {scope : Scope} {pos : Pos} {it acc : Value} {env : Env} (I : Nat → Shared → Prop)
    (turn : ∀ n s, I n s → wpAny (model prog w) A (pyNext it) (fun r s₁ => match r with
      | none => R (.ok .next) s₁
      | some v => wpAny (model prog w) A (letOwnedTupleGo target it v) (fun _ s₁' => wpAny (model prog w) A (assign target env v) (fun _ s₂ => wpAny (model prog w) A (testsOf ifs env) (fun ok s₃ => match ok with
          | false => ∃ m, m < n ∧ I m s₃
          | true => wpAny (model prog w) A (eval elt env) (fun x s₄ => wpAny (model prog w) A (call (.builtin "list.append") [acc, x]) (fun _ s₅ => ∃ m, m < n ∧ I m s₅) (fun _ _ => False) s₄) (fun _ _ => False) s₃)
          (fun _ _ => False) s₂) (fun _ _ => False) s₁') (fun _ _ => False) s₁) (fun _ _ => False) s)
    (n : Nat) (h : I n s) :
    codeAny (model prog w) A (.compLoop (.ListComp elt [⟨target, iter, ifs, 0⟩] scope pos) 0 it acc env) R s := by
  refine codeAny_loop rfl I (fun n s hI => ?_) n h
  show wpAny _ _ ((compTurn (.ListComp elt [⟨target, iter, ifs, 0⟩] scope pos) 0 it acc env).onRaise (fun x => do noteFrame x env; theTreesLotGoes x)) _ _ s
  refine wpAny_noted ?_
  rw [compTurn_list]
  refine wpAny_bind (wpAny_standAt (wpAny_bind (wpAny_mono (turn n s hI) (fun r s₁ h₁ => ?_) fun _ _ z => z.elim)))
  cases r with
  | none => exact wpAny_pure h₁
  | some v =>
    refine wpAny_bind (wpAny_mono h₁ (fun _ s₁' h₁' => ?_) fun _ _ z => z.elim)
    refine wpAny_bind (wpAny_mono h₁' (fun _ s₂ h₂ => wpAny_bind (wpAny_mono h₂ (fun ok s₃ h₃ => ?_) fun _ _ z => z.elim)) fun _ _ z => z.elim)
    cases ok with
    | false => exact wpAny_pure ⟨rfl, h₃⟩
    | true =>
      exact wpAny_bind (wpAny_bind (wpAny_mono h₃ (fun x s₄ h₄ => wpAny_bind (wpAny_mono h₄ (fun _ s₅ h₅ => wpAny_pure (wpAny_pure ⟨rfl, h₅⟩)) fun _ _ z => z.elim)) fun _ _ z => z.elim))
end
abbrev TStp := St → Hp → (Option V → Hp → Prop) → Prop
def PStep (X : Cx) (ifs : List Expr) (elt : Expr) (st : TStp) : Prop :=
  ∀ (pins : List (Addr × Obj)) (s : Shared) (σ : St) (H : Hp) (K : Option V → Hp → Prop), Inv X pins σ H s → st σ H K →
    wpAny (model X.prog X.w) X.A (testsOf ifs X.env) (fun ok s3 => match ok with
      | false => ∃ H9, Inv X pins σ H9 s3 ∧ K none H9
      | true => wpAny (model X.prog X.w) X.A (eval elt X.env) (fun xv s9 => ∃ z H9, Inv X pins σ H9 s9 ∧ RelV z xv ∧ K (some z) H9) (fun _ _ => False) s3) (fun _ _ => False) s
def stIf (tt : TT) (te : TE) : TStp := fun σ H K => tt σ H fun b H' => if b = true then te σ H' (fun z H2 => K (some z) H2) else K none H'
theorem pstep_if {X : Cx} {c elt : Expr} {tt : TT} {te : TE} (hx : X.xe = fun _ _ => False) (hc : PT X c tt) (he : PE X elt te) : PStep X [c] elt (stIf tt te) := by
  intro pins s σ H K I h
  refine wpAny_tests_one ?_
  have h1 := hc pins s σ H _ I h
  rw [hx] at h1
  refine thn h1 fun b s3 ⟨H3, I3, q3⟩ => ?_
  cases b with
  | false => exact ⟨H3, I3, q3⟩
  | true =>
    have h2 := he pins s3 σ H3 _ I3 q3
    rw [hx] at h2
    exact h2
def LcEnd (D : Addr) (m : Nat) (W : Nat → Hp → Prop) : Option V → Hp → Prop
  | some z, H4 => ∃ ys, H4 D = some (.lst ys) ∧ ys.length < sizeLine ∧ ∃ m', m' < m ∧ W m' (upd H4 D (.lst (ys ++ [z])))
  | none, H4 => ∃ m', m' < m ∧ W m' H4
def tLcS (wi : TI) (js : List Nat) (st : TStp) : TE := fun σ H Q => wi σ H fun J H1 => ∀ D, H1 D = none → ∃ W : Nat → Nat → Hp → Prop, (∃ m, W 0 m (upd H1 D (.lst []))) ∧ ∀ i m H2, W i m H2 →
  (J.stop i H2 ∧ Q (.ref D) H2) ∨ (J.go i H2 ∧ ∀ y H3, J.yld i H2 y H3 → st (lcSt σ js (some y)) H3 (LcEnd D m (W (i + 1))))
section
variable {X : Cx} {elt iter : Expr} {x : Str} {px pos : Pos} {scope : Scope} {fr : List Str} {js : List Nat} {wi : TI} {te : TE}
theorem lc_core {ifs : List Expr} {pos' : Pos} {use : Option (Value → Sem Unit)} {Q0 : Value → Shared → Prop} {Q : VK} {st : TStp} {pins : List (Addr × Obj)} {s : Shared} {σ : St} {H : Hp}
    (S : LcScope x fr scope) (hc : X.calm = true) (hkm : (fr.map fun y => X.env.kindOf y) = fr.map fun _ => some NameKind.cell) (hj : js.map (fun j => X.N[j]?) = fr.map some)
    (hi : PI X (.Name x px) iter wi) (he : ∀ cl fp s H, PStep (cxLc X x fr scope cl fp s H) ifs elt st)
    (hs : ∀ x, foldedSetIterable iter X.env x = pure x) (I : Inv X pins σ H s) (h : tLcS wi js st σ H Q)
    (fin0 : ∀ (D C : Addr) (m : Str → Option Value) (s6 : Shared) (H5 : Hp) (fl : Flow), Inv X pins σ H5 s6 → FpOk X pins H5 C → s6.heap.Ns C m → Q (.ref D) H5 → compPost (model X.prog X.w) X.A X.xe use Q0 (.ref D) C (.ok fl) s6) :
    wpAny (model X.prog X.w) X.A (comprehension (.ListComp elt [⟨.Name x px, iter, ifs, 0⟩] scope pos) scope X.env pos' (newList []) false (eval iter X.env) use) Q0 X.xe s := by
  have hk : ∀ y ∈ fr, X.env.kindOf y = some .cell := List.map_inj_left.mp hkm
  have hcf : ∀ y ∈ fr, ∃ c, X.env.cells.lookup y = some c := fun y hy => I.ok.has y (.inl (hk y hy))
  let cf : Str → Addr := fun y => (X.env.cells.lookup y).getD 0
  have hcf' : ∀ y ∈ fr, X.env.cells.lookup y = some (cf y) := fun y hy => by
    obtain ⟨c, e⟩ := hcf y hy
    show _ = some ((X.env.cells.lookup y).getD 0)
    rw [e]; rfl
  have hmem : ∀ y ∈ scope.names, y.2 = .free → y.1 ∈ fr := fun y hy hf => by
    rw [← S.free]
    exact List.mem_map.mpr ⟨y, List.mem_filter.mpr ⟨hy, by rw [hf]; rfl⟩, rfl⟩
  let cl : List (Str × Addr) := ((scope.names.filter (fun y => y.2 == .free)).map fun y => (y.1, cf y.1)).reverse
  have hclos : closureFor scope X.env = pure cl := closure_of fun y hy hf => hcf' y.1 (hmem y hy hf)
  have hcl : cl = (fr.reverse.map fun n => (n, cf n)) := by
    show ((scope.names.filter (fun y => y.2 == .free)).map fun y => (y.1, cf y.1)).reverse = _
    rw [← S.free, ← List.map_reverse, ← List.map_reverse, List.map_map]
    rfl
  have clook : ∀ y c, cl.lookup y = some c → y ∈ fr ∧ c = cf y := fun y c e => by
    rw [hcl] at e
    obtain ⟨h1, h2⟩ := lookup_map_self e
    exact ⟨List.mem_reverse.mp h1, h2⟩
  have clmem : ∀ y ∈ fr, cl.lookup y = some (cf y) := fun y hy => by
    rw [hcl]
    exact lookup_map_mem (List.mem_reverse.mpr hy)
  refine wpAny_comprehension_free (use := use) (cl := cl) rfl hs hclos S.kind S.names ?_
  refine thn (hi pins s σ H _ I h) fun v s1 h1 => thn h1 fun itv s2 h2 => ?_
  obtain ⟨it, fp, tn, J, H2, rfl, I2, T, st2, f2, hR⟩ := h2
  refine wpAny_newObj_type ?_ (by show 0 ≤ sizeLine; exact Nat.zero_le _)
  have hD : H2 s2.heap.objs.size = none := I2.hok.fresh (Nat.le_refl _)
  have I3 : Inv X pins σ (upd H2 s2.heap.objs.size (.lst [])) { s2 with heap := s2.heap.push { cls := .type "list", data := .seq ([] : List Value).toArray } } := I2.lnew (t' := s2.toks) .nil (Nat.zero_le _)
  obtain ⟨W, ⟨m0, w0⟩, turn⟩ := hR s2.heap.objs.size hD
  generalize hH3 : upd H2 s2.heap.objs.size (.lst []) = H3 at I3 w0
  generalize hs3 : ({ s2 with heap := s2.heap.push { cls := .type "list", data := .seq ([] : List Value).toArray } } : Shared) = s3 at I3
  have fp3 : ∀ b ∈ fp, H3 b = none := fun b hb => by
    rw [← hH3]
    have hb2 := (f2 b hb).1
    obtain ⟨o, ho, _⟩ := T.obj 0 _ st2 b hb
    rw [upd_ne (Nat.ne_of_lt (Heap.lt_size ho))]
    exact hb2
  have tn3 : tn 0 s3.heap := T.keep 0 _ _ st2 fun b hb o e => by rw [← hs3]; exact Heap.get?_push_of_some _ e
  have fpin : ∀ b ∈ fp, ∃ o, s3.heap.get? b = some o := fun b hb => by
    obtain ⟨o, ho, _⟩ := T.obj 0 _ tn3 b hb
    exact ⟨o, ho⟩
  refine wpAny_newFunctionEnv S.nocell (by intro y hy; simp at hy) (fun h1 hns hsb => ?_) S.kind
  have keep : ∀ b o, s3.heap.get? b = some o → h1.get? b = some o := fun b o e => (hsb.2 b (Nat.ne_of_lt (Heap.lt_size e))).trans (Heap.get?_push_of_some _ e)
  have nC : ∀ b o, s3.heap.get? b = some o → b ≠ s3.heap.objs.size := fun b o e => Nat.ne_of_lt (Heap.lt_size e)
  have Ok : (cxLc X x fr scope cl fp s3 H3).Ok := by
    refine ⟨I3.ok.mod, S.kind, I3.ok.glob, I3.ok.blt, Nat.le_refl _, fun y z c e1 e2 => ?_, fun y hky => ?_, fun y c hf e => ?_, fun _ => I3.ok.hd hc, I3.ok.frames, .inl rfl, fun b hb => ⟨?_, fun y c e z => ?_⟩, fun b o e => I3.bs b o e,
      Nat.le_trans I3.ok.bsz I3.sz, fun b o e hb => ?_, fun b hb hm => ?_, I3.stack, fun b hb => I3.stkFree b hb⟩
    · obtain ⟨a1, a2⟩ := clook y c e1
      obtain ⟨b1, b2⟩ := clook z c e2
      exact I3.ok.inj y z c (by rw [a2]; exact hcf' y a1) (by rw [b2]; exact hcf' z b1)
    · have hky' : (relabel scope X.env).names.lookup y = some .cell ∨ (relabel scope X.env).names.lookup y = some .free := hky
      have er : (relabel scope X.env).names.lookup y = (scope.names.lookup y).map fun k => if (k == NameKind.free && X.env.scope.kind == .function && X.env.kindOf y == some .cell) then NameKind.cell else k := relabel_lookup (scope := scope) (env := X.env) y scope.names
      rw [er] at hky'
      refine ⟨_, clmem y (S.look y ?_)⟩
      cases q : scope.names.lookup y with
      | none => rw [q] at hky'; simp at hky'
      | some k =>
        rw [q] at hky'
        cases k <;> simp at hky' <;> simp
    · obtain ⟨a1, a2⟩ := clook y c e
      have : y = x := of_decide_eq_true hf
      exact absurd (this ▸ a1) S.notx
    · obtain ⟨o, ho⟩ := fpin b hb
      exact nC b o ho
    · obtain ⟨a1, a2⟩ := clook y c e
      exact (f2 b hb).2.2.2.2.1 y c (by rw [a2]; exact hcf' y a1) z
    · rcases (f2 b hb).2.2.2.1 with z | z
      · exact I3.ok.noex b o e z
      · exact absurd (Nat.lt_of_lt_of_le (Heap.lt_size e) (Nat.le_trans I3.ok.bsz z)) (Nat.lt_irrefl _)
    · rcases List.mem_cons.mp (I3.stkSub b hm) with z | z
      · exact (f2 b hb).2.1 z
      · exact (f2 b hb).2.2.1 z
  have hlen : js.length = fr.length := by
    have := congrArg List.length hj
    simpa using this
  have Ic : ∀ tk, Inv (cxLc X x fr scope cl fp s3 H3) [] (lcSt σ js none) H3 { s3 with heap := h1, toks := tk } := fun tk => by
    refine ⟨Ok, rfl, I3.bare, Un.kept keep, ⟨_, hns, fun i y v e1 e2 e3 => ?_⟩, fun y c e => ?_, I3.hok.fresh (Nat.le_refl _), fun y c e => ?_, fun p hp => ?_, I3.hok.kept keep, ?_⟩
    · cases i with
      | zero =>
        have e2' : (some none : Option (Option V)) = some (some v) := e2
        cases e2'
      | succ i =>
        have e1' : fr[i]? = some y := e1
        have e2' : (js.map fun j => (σ[j]?).join)[i]? = some (some v) := e2
        rw [List.getElem?_map] at e2'
        obtain ⟨j, hj1, hj2⟩ := Option.map_eq_some_iff.mp e2'
        have hjN : X.N[j]? = some y := by
          have := congrArg (fun l => l[i]?) hj
          simp only [List.getElem?_map, hj1, e1', Option.map_some] at this
          exact Option.some.inj this
        have hσ : σ[j]? = some (some v) := by
          cases q : σ[j]? with
          | none => rw [q] at hj2; cases hj2
          | some o => rw [q] at hj2; exact congrArg some hj2
        have hy : y ∈ fr := List.mem_of_getElem? e1'
        obtain ⟨m, _, hl⟩ := I3.loc
        obtain ⟨u, ru, l⟩ := hl j y v hjN hσ (.inr (.inl (hk y hy)))
        refine ⟨u, ru, ?_⟩
        rcases l with ⟨kl, _⟩ | ⟨_, c, ec, o, ho, hd⟩
        · rw [hk y hy] at kl; cases kl
        · refine .inr ⟨?_, c, ?_, o, keep c o ho, hd⟩
          · have er : (relabel scope X.env).names.lookup y = (scope.names.lookup y).map fun k => if (k == NameKind.free && X.env.scope.kind == .function && X.env.kindOf y == some .cell) then NameKind.cell else k := relabel_lookup (scope := scope) (env := X.env) y scope.names
            show (relabel scope X.env).names.lookup y = some .cell ∨ (relabel scope X.env).names.lookup y = some .free
            rw [er, S.lookfr y hy]
            have hb : (X.env.kindOf y == some NameKind.cell) = true := by rw [hk y hy]; rfl
            have hb2 : (X.env.scope.kind == ScopeKind.function) = true := by rw [I3.ok.kind]; rfl
            left
            simp only [Option.map_some, hb, hb2]
            rfl
          · show cl.lookup y = some c
            rw [clmem y hy]
            have := hcf' y hy
            rw [ec] at this
            exact this.symm
    · obtain ⟨a1, a2⟩ := clook y c e
      obtain ⟨v, o, ho, hd⟩ := I3.cell y c (by rw [a2]; exact hcf' y a1)
      exact ⟨v, o, keep c o ho, hd⟩
    · obtain ⟨a1, a2⟩ := clook y c e
      exact I3.freeC y c (by rw [a2]; exact hcf' y a1)
    · exact absurd hp (by intro z; cases z)
    · show (lcSt σ js none).length = (x :: fr).length
      simp [lcSt, hlen]
  have fin : ∀ s6 H5 m, Inv (cxLc X x fr scope cl fp s3 H3) [] (lcSt σ js none) H5 s6 → Q (.ref s2.heap.objs.size) H5 → compPost (model X.prog X.w) X.A X.xe use Q0 (.ref s2.heap.objs.size) s3.heap.objs.size (.ok m) s6 := by
    intro s6 H5 m I6 qn
    obtain ⟨mm, hm, _⟩ := id I6.loc
    have I6' : Inv X pins σ H5 s6 := I3.call' (ch := fp) I6.os I6.base I6.hok I6.bare fun b hb => ⟨(f2 b hb).2.2.2.1, (f2 b hb).2.1, (f2 b hb).2.2.2.2.1, (f2 b hb).2.2.2.2.2⟩
    exact fin0 _ _ mm s6 H5 m I6' (I3.fpOk (Nat.le_refl _) I6.free) hm qn
  have loop : ∀ tk, codeAny (model X.prog X.w) X.A (.compLoop (.ListComp elt [⟨.Name x px, iter, ifs, 0⟩] scope pos) 0 (.ref it) (.ref s2.heap.objs.size) (compEnvC scope cl s3.heap.objs.size X.env))
      (compPost (model X.prog X.w) X.A X.xe use Q0 (.ref s2.heap.objs.size) s3.heap.objs.size) { s3 with heap := h1, toks := tk } := fun tk => by
    refine codeAny_compLoop_ifs (fun m s' => ∃ i H', Inv (cxLc X x fr scope cl fp s3 H3) [] (lcSt σ js none) H' s' ∧ tn i s'.heap ∧ (∀ b ∈ fp, H' b = none) ∧ W i m H') ?_ m0
      ⟨0, H3, Ic tk, T.keep 0 _ _ tn3 fun b hb o e => keep b o e, fp3, w0⟩
    rintro n s5 ⟨i, H5, I5, t5, f5, w5⟩
    have stat : ∀ {H' : Hp}, (∀ b ∈ fp, H' b = none) → ∀ b ∈ fp, FpOk (cxLc X x fr scope cl fp s3 H3) [] H' b := fun hn b hb => ⟨hn b hb, (Ok.exf b hb).1, Ok.exfs b hb, .inl hb, (Ok.exf b hb).2, fun p hp => absurd hp (by intro z; cases z)⟩
    rcases turn i n H5 w5 with ⟨stop, qn⟩ | ⟨go, step⟩
    · refine thn (T.done (cxLc X x fr scope cl fp s3 H3) rfl rfl rfl hc i [] s5 _ H5 _ I5 (stat f5) t5 stop) fun r s6 ⟨hr, I6⟩ => ?_
      subst hr
      exact fin s6 H5 _ I6 qn
    · refine thn (T.item (cxLc X x fr scope cl fp s3 H3) rfl rfl rfl hc i [] s5 _ H5 _ I5 (stat f5) t5 go) fun r s6 ⟨u, hr, h6⟩ => ?_
      subst hr
      refine thn h6 fun _ s7 ⟨y, H7, I7, r7, y7, t7, f7⟩ => ?_
      have I7' := I7.pinned (stat f7) (T.obj _ _ t7)
      have ndN : (cxLc X x fr scope cl fp s3 H3).N.Nodup := List.nodup_cons.mpr ⟨S.notx, S.nd⟩
      have own : (cxLc X x fr scope cl fp s3 H3).env.scope.names.lookup x = some .local := lookup_relabel_local S.own
      refine thn (pg_name (X := cxLc X x fr scope cl fp s3 H3) (i := 0) (pos := px) ndN rfl (.inl own) (.inr own) _ s7 _ H7 y u (fun σ' H' => σ' = lcSt σ js (some y) ∧ H' = H7) I7' r7 ⟨rfl, rfl⟩) fun _ s8 ⟨σ8, H8, I8, e8, e8'⟩ => ?_
      subst e8 e8'
      refine thn (he cl fp s3 H3 _ s8 _ _ _ I8 (step y _ y7)) fun ok s9 q9 => ?_
      have back : ∀ {H10 : Hp} {s10 : Shared} {m' : Nat}, Inv (cxLc X x fr scope cl fp s3 H3) ([] ++ pinsAt fp s7.heap) (lcSt σ js (some y)) H10 s10 → m' < n → W (i + 1) m' H10 → ∃ m, m < n ∧ ∃ i H', Inv (cxLc X x fr scope cl fp s3 H3) [] (lcSt σ js none) H' s10 ∧ tn i s10.heap ∧ (∀ b ∈ fp, H' b = none) ∧ W i m H' := fun {H10 s10 m'} I10 hm w9 => by
        refine ⟨m', hm, i + 1, _, (I10.weak (σ' := lcSt σ js none) rfl fun j v e => ?_).unpinned, T.keep _ _ _ t7 fun b hb o e => (I10.pin (b, o) (List.mem_append_right _ (List.mem_append_right _ (mem_pinsAt hb e)))).1, fun b hb => ?_, w9⟩
        · cases j with
          | zero =>
            have e' : (some none : Option (Option V)) = some (some v) := e
            cases e'
          | succ j => exact e
        · obtain ⟨o, e, _⟩ := T.obj _ _ t7 b hb
          exact (I10.pin (b, o) (List.mem_append_right _ (List.mem_append_right _ (mem_pinsAt hb e)))).2.1
      cases ok with
      | false =>
        obtain ⟨H9, I9, m', hm, w9⟩ := q9
        exact back I9 hm w9
      | true =>
        refine thn q9 fun xv s9' ⟨z, H9, I9, r9, q9⟩ => ?_
        obtain ⟨ys, hl, hz, m', hm, w9⟩ := q9
        refine thn (mt_append (X := cxLc X x fr scope cl fp s3 H3) _ s9' _ H9 (.ref s2.heap.objs.size) [z] (.ref s2.heap.objs.size) [xv] (fun v H' => H' = upd H9 s2.heap.objs.size (.lst (ys ++ [z]))) I9 rfl (.cons r9 .nil)
          ⟨_, ys, z, rfl, rfl, hl, hz, rfl⟩) fun v s10 ⟨v', H10, I10, _, e10⟩ => ?_
        subst e10
        exact back I10 hm w9
  exact codeAny_compStart_list (loop _) (T.self X.A 0 _ _ _ (T.keep 0 _ _ tn3 fun b hb o e => keep b o e) (loop _))

theorem Inv.letGo {pins : List (Addr × Obj)} {σ : St} {H : Hp} {s : Shared} {C : Addr} {h' : Heap} (I : Inv X pins σ H s) (f : FpOk X pins H C) (hs : Heap.SameBut C s.heap h') : Inv X pins σ H { s with heap := h' } :=
  I.turned (it := C) (t' := s.toks) (fun b o ne e => (hs.2 b ne).trans e) f.1 f.2.1 f.2.2.2.1 f.2.2.2.2.1 f.2.2.2.2.2
theorem pe_lcS {ifs : List Expr} {st : TStp} (S : LcScope x fr scope) (hc : X.calm = true) (hkm : (fr.map fun y => X.env.kindOf y) = fr.map fun _ => some NameKind.cell) (hj : js.map (fun j => X.N[j]?) = fr.map some)
    (hi : PI X (.Name x px) iter wi) (he : ∀ cl fp s H, PStep (cxLc X x fr scope cl fp s H) ifs elt st)
    (hs : ∀ x, foldedSetIterable iter X.env x = pure x := by intro _; rfl) :
    PE X (.ListComp elt [⟨.Name x px, iter, ifs, 0⟩] scope pos) (tLcS wi js st) := by
  intro pins s σ H Q I h
  rw [eval_ListComp]
  exact lc_core (use := none) S hc hkm hj hi he hs I h fun D C m s6 H5 fl I6 f hn q => ⟨m, hn, fun h' hs' => ⟨.ref D, H5, I6.letGo f hs', rfl, q⟩⟩
theorem pe_lcI {c : Expr} {tt : TT} (S : LcScope x fr scope) (hc : X.calm = true) (hkm : (fr.map fun y => X.env.kindOf y) = fr.map fun _ => some NameKind.cell) (hj : js.map (fun j => X.N[j]?) = fr.map some)
    (hi : PI X (.Name x px) iter wi) (ht : ∀ cl fp s H, PT (cxLc X x fr scope cl fp s H) c tt) (he : ∀ cl fp s H, PE (cxLc X x fr scope cl fp s H) elt te)
    (hs : ∀ x, foldedSetIterable iter X.env x = pure x := by intro _; rfl) :
    PE X (.ListComp elt [⟨.Name x px, iter, [c], 0⟩] scope pos) (tLcS wi js (stIf tt te)) := pe_lcS S hc hkm hj hi (fun cl fp s H => pstep_if rfl (ht cl fp s H) (he cl fp s H)) hs
theorem ps_setS {ifs : List Expr} {st : TStp} {i : Nat} {y : Str} {py spos : Pos} (hN : X.N.Nodup) (hiy : X.N[i]? = some y) (hly : X.env.scope.names.lookup y = some .local) (S : LcScope x fr scope) (hc : X.calm = true)
    (hkm : (fr.map fun y => X.env.kindOf y) = fr.map fun _ => some NameKind.cell) (hj : js.map (fun j => X.N[j]?) = fr.map some) (hi : PI X (.Name x px) iter wi) (he : ∀ cl fp s H, PStep (cxLc X x fr scope cl fp s H) ifs elt st)
    (hs : ∀ x, foldedSetIterable iter X.env x = pure x := by intro _; rfl) (hsw : swapsWith (.ListComp elt [⟨.Name x px, iter, ifs, 0⟩] scope pos) (some (.Name y py)) spos.line X.env = pure true := by rfl) :
    PS X (.Assign [.Name y py] (.ListComp elt [⟨.Name x px, iter, ifs, 0⟩] scope pos) spos) (fun D σ H => tLcS wi js st σ H fun v H1 => D.nx (σ.set i (some v)) H1) := by
  intro pins s σ H Dn I h
  rw [exec_Assign_Name_used _ _ _ _ hsw]
  refine wpAny_bind (wpAny_standAt (wpAny_bind ?_))
  show wpAny _ X.A (do let _ ← comprehension (.ListComp elt [⟨.Name x px, iter, ifs, 0⟩] scope pos) scope X.env _ (newList []) false (eval iter X.env) (some (assign (.Name y py) X.env))) _ _ s
  refine wpAny_bind (wpAny_mono (lc_core (use := some (assign (.Name y py) X.env)) (Q0 := fun _ s' => SP X pins Dn .next s') S hc hkm hj hi he hs I h fun D C m s6 H5 fl I6 f hn q => ?_) (fun _ s' hq => wpAny_pure (wpAny_pure hq)) fun _ _ z => z)
  show wpAny _ X.A (assign (.Name y py) X.env (.ref D)) _ _ _
  refine wpAny_assign_Name (store_ok2 (v := .ref D) I6 hN hiy (.inl hly) rfl (fun s7 I7 hsb => ?_) (.inr hly))
  obtain ⟨a, hsb, ha⟩ := hsb
  have hne : C ≠ a := by
    rcases ha with ha | ha
    · rw [ha]; exact f.2.1
    · exact fun z => f.2.2.2.2.1 _ _ ha z.symm
  exact ⟨m, hn.sameBut hsb hne, fun h' hs' => ⟨_, H5, I7.letGo f hs', q⟩⟩
theorem ps_setLcI {c : Expr} {tt : TT} {i : Nat} {y : Str} {py spos : Pos} (hN : X.N.Nodup) (hiy : X.N[i]? = some y) (hly : X.env.scope.names.lookup y = some .local) (S : LcScope x fr scope) (hc : X.calm = true)
    (hkm : (fr.map fun y => X.env.kindOf y) = fr.map fun _ => some NameKind.cell) (hj : js.map (fun j => X.N[j]?) = fr.map some) (hi : PI X (.Name x px) iter wi) (ht : ∀ cl fp s H, PT (cxLc X x fr scope cl fp s H) c tt)
    (he : ∀ cl fp s H, PE (cxLc X x fr scope cl fp s H) elt te)
    (hs : ∀ x, foldedSetIterable iter X.env x = pure x := by intro _; rfl) (hsw : swapsWith (.ListComp elt [⟨.Name x px, iter, [c], 0⟩] scope pos) (some (.Name y py)) spos.line X.env = pure true := by rfl) :
    PS X (.Assign [.Name y py] (.ListComp elt [⟨.Name x px, iter, [c], 0⟩] scope pos) spos) (fun D σ H => tLcS wi js (stIf tt te) σ H fun v H1 => D.nx (σ.set i (some v)) H1) :=
  ps_setS hN hiy hly S hc hkm hj hi (fun cl fp s H => pstep_if rfl (ht cl fp s H) (he cl fp s H)) hs hsw
end
def LcT (D : Addr) (n : Nat) (Pv : Nat → List V → Hp → Prop) (i : Nat) : Option V → Hp → Prop
  | some z, H4 => ∃ ys, H4 D = some (.lst ys) ∧ ys.length < sizeLine ∧ i < n ∧ Pv (i + 1) (ys ++ [z]) (upd H4 D (.lst (ys ++ [z])))
  | none, H4 => i < n ∧ ∃ ys, Pv (i + 1) ys H4
theorem lcS_list {K : PySem.W.Frag} {a D : Addr} {xs : List V} {st : TStp} {σ : St} {js : List Nat} {H1 : Hp} {R : Hp → Prop} (Pv : Nat → List V → Hp → Prop) (h0 : Pv 0 [] (upd H1 D (.lst []))) (hl : ∀ i ys H, Pv i ys H → SqL K H a xs)
    (hs : ∀ i x ys H, xs[i]? = some x → Pv i ys H → st (lcSt σ js (some x)) H (LcEnd D (xs.length - i) (fun m' H => m' = xs.length - (i + 1) ∧ i + 1 ≤ xs.length ∧ ∃ ys, Pv (i + 1) ys H))) (hd : ∀ ys H, Pv xs.length ys H → R H) :
    ∃ W : Nat → Nat → Hp → Prop, (∃ m, W 0 m (upd H1 D (.lst []))) ∧ ∀ i m H2, W i m H2 → ((Itl K a).stop i H2 ∧ R H2) ∨ ((Itl K a).go i H2 ∧ ∀ y H3, (Itl K a).yld i H2 y H3 → st (lcSt σ js (some y)) H3 (LcEnd D m (W (i + 1)))) := by
  refine ⟨fun i m H => m = xs.length - i ∧ i ≤ xs.length ∧ ∃ ys, Pv i ys H, ⟨xs.length, by simp, Nat.zero_le _, [], h0⟩, ?_⟩
  rintro i m H ⟨rfl, hi, ys, p⟩
  have q := hl i ys H p
  by_cases hlt : i < xs.length
  · refine .inr ⟨⟨xs, xs[i], q, by simp [hlt]⟩, fun x H' y => ?_⟩
    obtain ⟨e, y⟩ := y
    subst e
    exact hs i x ys _ (y xs q) p
  · have e : i = xs.length := by omega
    subst e
    exact .inl ⟨⟨xs, q, Nat.le_refl _⟩, hd ys H p⟩
theorem lcS_put {D : Addr} {n : Nat} {Pv : Nat → List V → Hp → Prop} {i : Nat} {z : V} {H4 : Hp} {ys : List V} (h1 : H4 D = some (.lst ys)) (h2 : ys.length < sizeLine) (h3 : i < n) (h4 : Pv (i + 1) (ys ++ [z]) (upd H4 D (.lst (ys ++ [z])))) :
    LcEnd D (n - i) (fun m' H => m' = n - (i + 1) ∧ i + 1 ≤ n ∧ ∃ ys, Pv (i + 1) ys H) (some z) H4 := ⟨ys, h1, h2, n - (i + 1), by omega, rfl, h3, _, h4⟩
theorem lcS_skip {D : Addr} {n : Nat} {Pv : Nat → List V → Hp → Prop} {i : Nat} {H4 : Hp} {ys : List V} (h3 : i < n) (h4 : Pv (i + 1) ys H4) :
    LcEnd D (n - i) (fun m' H => m' = n - (i + 1) ∧ i + 1 ≤ n ∧ ∃ ys, Pv (i + 1) ys H) none H4 := ⟨n - (i + 1), by omega, rfl, h3, _, h4⟩
end L2

set_option Elab.async false
set_option linter.all false
set_option maxRecDepth 100000
namespace L2
open PySem PySem.Spec PyProof.Rows
def litOf : Expr → Option Int
  | .Constant (.int i) _ _ => some i
  | .UnaryOp .USub (.Constant (.int i) _ _) _ => some (-i)
  | _ => none
def pairOf : Expr → Option (Int × Int)
  | .Tuple [a, b] _ _ => match litOf a, litOf b with
    | some i, some j => some (i, j)
    | _, _ => none
  | _ => none
def pairsOf : List Expr → Option (List (Int × Int))
  | [] => some []
  | e :: es => match pairOf e, pairsOf es with
    | some p, some ps => some (p :: ps)
    | _, _ => none
section
variable {X : Cx}
theorem pe_lit {e : Expr} {i : Int} (h : litOf e = some i) : PE X e (tC (.int i)) := by
  unfold litOf at h
  split at h
  · cases h; exact pe_int
  · cases h
    intro pins s σ H Q I hq
    exact pe_un un_neg pe_int pins s σ H Q I ⟨_, rfl, hq⟩
  · cases h
theorem star_lit {e : Expr} {i : Int} (h : litOf e = some i) (es : List Expr) (env : Env) : starEach (e :: es) env = (false, eval e env) :: starEach es env := by
  unfold litOf at h
  split at h
  · rfl
  · rfl
  · cases h
theorem pe_pair {e : Expr} {p : Int × Int} (h : pairOf e = some p) : PE X e (fun _ H Q => New H (.tup [.int p.1, .int p.2]) Q) := by
  unfold pairOf at h
  split at h
  · split at h
    · rename_i a b c pos i j ha hb
      cases h
      intro pins s σ H Q I hq
      exact pe_tupN (pa_cons (pe_lit ha) (pa_cons (pe_lit hb) pa_nil (star_lit hb _ _)) (star_lit ha _ _)) pins s σ H Q I ⟨Nat.le_of_ble_eq_true rfl, hq⟩
    · cases h
  · cases h
theorem star_pair {e : Expr} {p : Int × Int} (h : pairOf e = some p) (es : List Expr) (env : Env) : starEach (e :: es) env = (false, eval e env) :: starEach es env := by
  unfold pairOf at h
  split at h
  · rfl
  · cases h
def Pairs (H : Hp) : List V → List (Int × Int) → Prop := Paired fun v p => ∃ a, v = .ref a ∧ H a = some (.tup [.int p.1, .int p.2])
theorem Pairs.keep {H H' : Hp} (s : Same H H') : ∀ {us : List V} {ps : List (Int × Int)}, Pairs H us ps → Pairs H' us ps
  | _, _, .nil => .nil
  | _, _, .cons ⟨a, e, h⟩ r => .cons ⟨a, e, s _ _ h⟩ (Pairs.keep s r)
theorem Pairs.get {H : Hp} : ∀ {us : List V} {ps : List (Int × Int)} {j : Nat} {p : Int × Int}, Pairs H us ps → ps[j]? = some p → ∃ a, us[j]? = some (.ref a) ∧ H a = some (.tup [.int p.1, .int p.2])
  | _, _, 0, _, .cons ⟨a, e, h⟩ _, hj => by cases hj; exact ⟨a, by rw [e]; rfl, h⟩
  | _, _, j + 1, _, .cons _ r, hj => Pairs.get (j := j) r hj
theorem pa_pairs : ∀ {es : List Expr} {ps : List (Int × Int)}, pairsOf es = some ps → PA X es (fun _ H Q => ∀ us H', Same H H' → Pairs H' us ps → Q us H')
  | [], ps, h => by
    cases h
    intro pos pins s σ H Q I hq
    exact pa_nil pos pins s σ H Q I (hq [] H (Same.refl _) .nil)
  | e :: es, ps, h => by
    unfold pairsOf at h
    split at h
    · rename_i p ps' h1 h2
      cases h
      intro pos pins s σ H Q I hq
      refine pa_cons (pe_pair h1) (pa_pairs h2) (star_pair h1 _ _) pos pins s σ H Q I fun a H1 s1 _ h1 us H2 s2 r => ?_
      exact hq _ H2 (s1.trans s2) (.cons ⟨a, rfl, s2 _ _ h1⟩ r)
    · cases h
theorem Pairs.len {H : Hp} {us : List V} {ps : List (Int × Int)} (r : Pairs H us ps) : us.length = ps.length := Paired.length r
theorem pe_pairs {es : List Expr} {ps : List (Int × Int)} {pos : Pos} (h : pairsOf es = some ps) (hz : ps.length ≤ 1000) : PE X (.List es pos) (fun _ H Q => ∀ l us H', Same H H' → H' l = some (.lst us) → Pairs H' us ps → Q (.ref l) H') := by
  intro pins s σ H Q I hq
  refine pe_lstN (pa_pairs h) pins s σ H Q I fun us H1 s1 r => ⟨Nat.le_of_lt (small1000 (by rw [r.len]; exact hz)), fun l H2 s2 _ h2 => hq l us H2 (s1.trans s2) h2 (r.keep s2)⟩
end
def retPairs : List Stmt → Option (List (Int × Int) × Str)
  | [.Return (some (.Subscript (.List es _) (.Name x _) _)) _] => (pairsOf es).map fun ps => (ps, x)
  | _ => none
theorem pss_pairs {X : Cx} {body : List Stmt} {ps : List (Int × Int)} {x : Str} {i : Nat} (h : retPairs body = some (ps, x)) (hz : ps.length ≤ 1000) (hN : X.N[i]? = some x) (hv : Vis X.env.scope x)
    (hd : (x == ("__debug__" : Str)) = false := by decide) (hcd : (x == ("__classdict__" : Str)) = false := by decide) :
    PSs X body (tRet (tOp (rIxL X.K) (fun _ H Q => ∀ l us H', Same H H' → H' l = some (.lst us) → Pairs H' us ps → Q (.ref l) H') (tVar i))) := by
  unfold retPairs at h
  split at h
  · rename_i es _ y _ _ _
    cases hp : pairsOf es with
    | none => rw [hp] at h; cases h
    | some qs =>
      rw [hp] at h
      cases h
      exact pss_one (ps_ret (pe_ix ix_list (pe_pairs hp hz) (pe_var hN hv hd hcd) (fun _ _ => rfl)))
  · cases h
section
variable {X : Cx} {K : PySem.W.Frag}
theorem ix_listK (hK : X.K = K) : IxR X (rIxL K) := by subst hK; exact ix_list
end
def sp_pairs (ps : List (Int × Int)) (K : PySem.W.Frag) : Sp := fun vs H Q _ => ∃ (i : Int) (q : Int × Int), vs = [.int i] ∧ 0 ≤ i ∧ ps[i.toNat]? = some q ∧ ∀ v H', Same H H' → Pl K H' v q.1 q.2 → Q v H'
theorem ok_pairs {P : Program} {w : World} {K : PySem.W.Frag} {mg : Str → Option Value} {base : Heap} {x qual : Str} {st : Stmt} {f : Addr} {fd : FuncData} {p : Str} {ps : List (Int × Int)} (F : Fun K x qual st f fd) (S : FnScope [p] [p] (defScope st))
    (h : retPairs (defBody st) = some (ps, p)) (hz : ps.length ≤ 1000) (hl : (defScope st).names.lookup p = some .local) (hd : (p == ("__debug__" : Str)) = false) (hcd : (p == ("__classdict__" : Str)) = false) : FnOk P w K mg base CX0 1 f fd [p] (sp_pairs ps K) := by
  refine F.ok S (fun vs H Q E h => ?_) (fun cdv A outer s H vs Q E hr h' => ?_)
  · obtain ⟨i, q, rfl, _⟩ := h; rfl
  · obtain ⟨i, q, rfl, i0, hq, k⟩ := h'
    refine ⟨_, pss_pairs h hz (i := 0) rfl (.inl hl) hd hcd, ?_⟩
    intro l us H1 s1 h1 r
    obtain ⟨a, ea, ha⟩ := r.get hq
    have hat : atI us i = some (.ref a) := by
      have := atI_nat ea
      rwa [Int.toNat_of_nonneg i0] at this
    exact ⟨_, rfl, l, us, i, .ref a, rfl, rfl, SqL.of h1, hat, k _ H1 s1 ⟨a, rfl, SqT.of ha⟩⟩
end L2

set_option Elab.async false
set_option linter.all false
set_option maxRecDepth 100000
namespace L2
open PySem PySem.Spec PyProof.Rows
section
variable {prog : Program} {w : World} {A : Around} {E : Value → Shared → Prop} {s : Shared}
def RawD (h : Heap) (d : Addr) (es : Array DictEntry) (ep : Nat) : Prop := ∃ o, h.get? d = some o ∧ o.cls = .type "dict" ∧ o.data = .dict es ep
theorem RawD.ty {d : Addr} {es : Array DictEntry} {ep : Nat} (x : RawD s.heap d es ep) : s.TypeIs (.ref d) "dict" := let ⟨o, g, c, _⟩ := x; ⟨o, g, c⟩
theorem raw_iter {d : Addr} {es : Array DictEntry} {ep : Nat} {Q : Value → Shared → Prop} (hd : (d == sysModules) = false) (hm : RawD s.heap d es ep)
    (hQ : Q (.ref s.heap.objs.size) { s with heap := s.heap.push { cls := .type "dict_keyiterator", data := .fields #[.ref d, .int 0 0, .int es.size 0, .int ep 0] } }) :
    wpAny (model prog w) A (pyIter (.ref d)) Q E s := by
  obtain ⟨ob, g, c, dt⟩ := id hm
  refine wpAny_pyIter_slot hm.ty F.slot_dict_iter (wpAny_call_entry F.slot_dict_iter hm.ty F.entry_dict_iter ?_ (F.args_dict_iter_1 _))
  unfold Builtin.«dict.__iter__»; refine wpAny_bind ?_; unfold Builtin.Dict.dictSlotNone; refine wpAny_bind (wpAny_notOrdered_dict hm.ty ?_)
  show wpAny _ _ (pure (Value.ref d)) _ _ s; refine wpAny_pure ?_; show wpAny _ _ (Builtin.Dict.showsAll d >>= _) _ _ s
  unfold Builtin.Dict.showsAll; rw [if_neg (by rw [hd]; exact Bool.false_ne_true)]
  refine wpAny_bind (wpAny_pure (wpAny_bind (wpAny_dictEntries g dt (wpAny_bind (wpAny_dictEpoch g dt ?_)))))
  refine wpAny_bind (wpAny_newObj_type (wpAny_pure ⟨_, rfl, "dict_keyiterator", _, ⟨_, Heap.get?_push_size _ rfl, rfl⟩, F.slot_dict_keyiterator_next.lookup, ?_⟩)); simpa [rawInt] using hQ
theorem raw_next {it d : Addr} {i ep : Nat} {es : Array DictEntry} {Q : Option Value → Shared → Prop} (hit : s.heap.IsKeyIter it d i es.size ep) (hm : RawD s.heap d es ep) (hlt : i < es.size)
    (hQ : ∀ h', h'.IsKeyIter it d (i + 1) es.size ep → Heap.SameBut it s.heap h' → Q (some es[i].key) { s with heap := h' }) : wpAny (model prog w) A (pyNext (.ref it)) Q E s := by
  obtain ⟨io, gi, ci, di⟩ := id hit
  obtain ⟨ob, g, c, dt⟩ := id hm
  unfold pyNext; refine wpAny_bind (wpAny_attempt (wpAny_callSpecial?_slot (name := Str.ofString "__next__") hit.typeIs F.slot_dict_keyiterator_next (wpAny_call_entry F.slot_dict_keyiterator_next hit.typeIs F.entry_dict_keyiterator_next ?_ (F.args_dict_keyiterator_next_1 _))))
  refine wpAny_bind (wpAny_pure (wpAny_bind (wpAny_bind ?_)))
  first | refine wpAny_bind (wpAny_typeNameOfWhole_keyiter hit.typeIs (wpAny_pure (wpAny_bind (wpAny_fieldsOf gi di ?_)))) | refine wpAny_bind (wpAny_typeNameOf_keyiter hit.typeIs (wpAny_pure (wpAny_bind (wpAny_fieldsOf gi di ?_))))
  simp only [show Builtin.Dict_items.ownsTuple "dict_keyiterator" = false from by decide, Bool.false_eq_true, if_false]
  show wpAny _ _ (if (Value.ref d == Value.none) = true then _ else _) _ _ s; rw [if_neg (show ¬ ((Value.ref d == Value.none) = true) from Bool.false_ne_true)]
  refine wpAny_bind (wpAny_pure (wpAny_bind (wpAny_dictEntries g dt ?_))); rw [if_neg (by simp)]
  refine wpAny_bind (wpAny_pure (wpAny_bind (wpAny_dictEpoch g dt ?_))); rw [if_neg (by simp)]; refine wpAny_pure ?_
  simp only [show ¬ ((i : Int) < 0) from by omega, if_false, Int.toNat_natCast, Array.getElem?_eq_getElem hlt]; refine wpAny_bind ?_
  first | refine wpAny_bind (wpAny_typeNameOfWhole_keyiter hit.typeIs (wpAny_pure (wpAny_bind (wpAny_isOneOf_keyiter hit.typeIs ?_)))) | refine wpAny_bind (wpAny_typeNameOf_keyiter hit.typeIs (wpAny_pure (wpAny_bind (wpAny_isOneOf_keyiter hit.typeIs ?_))))
  show wpAny _ _ (setField (.ref it) 1 (rawInt ((i : Int) + 1)) >>= _) _ _ s; refine wpAny_bind (wpAny_setField gi di (by simp) ?_)
  have nx : (s.heap.update it (Obj.mapFields (·.setIfInBounds 1 (rawInt ((i : Int) + 1))))).IsKeyIter it d (i + 1) es.size ep := ⟨_, Heap.get?_update_self _ gi (Obj.isFreed_of_fields (Obj.data_mapFields di _)), (Obj.cls_mapFields ..).trans ci, by rw [Obj.data_mapFields di]; simp [rawInt]⟩
  refine wpAny_bind (wpAny_holding (wpAny_bind (wpAny_isOneOf_keyiter (s := { s with heap := s.heap.update it (Obj.mapFields (·.setIfInBounds 1 (rawInt ((i : Int) + 1)))) }) nx.typeIs ?_)))
  show wpAny _ _ (pure es[i].key) _ _ _; exact wpAny_pure (wpAny_pure ⟨_, rfl, wpAny_pure (hQ _ nx (Heap.SameBut.update ..))⟩)
theorem raw_end {it d : Addr} {i ep : Nat} {es : Array DictEntry} {Q : Option Value → Shared → Prop} (hh : A.handled = none) (hit : s.heap.IsKeyIter it d i es.size ep) (hm : RawD s.heap d es ep) (hge : es.size ≤ i)
    (hQ : ∀ h', Heap.ExtBut it s.heap h' → Q none { s with heap := h' }) : wpAny (model prog w) A (pyNext (.ref it)) Q E s := by
  obtain ⟨io, gi, ci, di⟩ := id hit
  obtain ⟨ob, g, c, dt⟩ := id hm
  unfold pyNext; refine wpAny_bind (wpAny_attempt (wpAny_callSpecial?_slot (name := Str.ofString "__next__") hit.typeIs F.slot_dict_keyiterator_next (wpAny_call_entry F.slot_dict_keyiterator_next hit.typeIs F.entry_dict_keyiterator_next ?_ (F.args_dict_keyiterator_next_1 _))))
  refine wpAny_bind (wpAny_pure (wpAny_bind (wpAny_bind ?_)))
  first | refine wpAny_bind (wpAny_typeNameOfWhole_keyiter hit.typeIs (wpAny_pure (wpAny_bind (wpAny_fieldsOf gi di ?_)))) | refine wpAny_bind (wpAny_typeNameOf_keyiter hit.typeIs (wpAny_pure (wpAny_bind (wpAny_fieldsOf gi di ?_))))
  simp only [show Builtin.Dict_items.ownsTuple "dict_keyiterator" = false from by decide, Bool.false_eq_true, if_false]
  show wpAny _ _ (if (Value.ref d == Value.none) = true then _ else _) _ _ s; rw [if_neg (show ¬ ((Value.ref d == Value.none) = true) from Bool.false_ne_true)]
  refine wpAny_bind (wpAny_pure (wpAny_bind (wpAny_dictEntries g dt ?_))); rw [if_neg (by simp)]
  refine wpAny_bind (wpAny_pure (wpAny_bind (wpAny_dictEpoch g dt ?_))); rw [if_neg (by simp)]; refine wpAny_pure ?_
  simp only [show ¬ ((i : Int) < 0) from by omega, if_false, Int.toNat_natCast, Array.getElem?_eq_none hge]; refine wpAny_bind ?_
  first | refine wpAny_bind (wpAny_typeNameOfWhole_keyiter hit.typeIs (wpAny_pure ?_)) | refine wpAny_bind (wpAny_typeNameOf_keyiter hit.typeIs (wpAny_pure ?_))
  show wpAny _ _ (setField (.ref it) 0 .none >>= _) _ _ s; refine wpAny_bind (wpAny_setField gi di (by simp) ?_)
  show wpAny _ _ (newExc (.type "StopIteration") [] >>= _) _ _ _; refine wpAny_bind ?_; simp only [newExc, newTuple]; refine wpAny_bind (wpAny_newObj_type ?_ (by size_fits))
  refine wpAny_bind (m := firstArgMember _ _) (wpAny_of_eq (a := Value.none) (by first | rfl | (simp only [firstArgMember]; rfl)) (wpAny_newObj_type ?_ (by size_fits))); simp only [raiseNew]
  refine wpAny_bind (wpAny_handled ?_); rw [show A.in1.handled = none from hh]; refine wpAny_bind (wpAny_pure (wpAny_throw ?_))
  refine wpAny_bind (wpAny_isInstance (T := "StopIteration") (b := true) ⟨_, Heap.get?_push_size _ rfl, rfl⟩ isSubtype_stop (wpAny_pure (hQ _ (((Heap.SameBut.update ..).extBut.push _).push _))))
end
def NF (X : Cx) (d : Addr) : Prop := ∀ ob u, X.H₀ d ≠ some (.frz ob u)
section
variable {X : Cx} {pins : List (Addr × Obj)} {σ : St} {H : Hp} {s : Shared} {d : Addr}
theorem Inv.alter {o o' : HO} (I : Inv X pins σ H s) (e : H d = some o) (k1 : ∀ y, o ≠ .own y) (k2 : ∀ ys, o ≠ .tup ys) (k3 : ∀ ps, o ≠ .tbl ps) (k4 : (∀ ob u, o ≠ .frz ob u) ∨ NF X d) (new : ObjOk X.prog X.w (upd H d o') s.heap d o') :
    Inv X pins σ (upd H d o') s := by
  have nd : ∀ b, H b = none → upd H d o' b = none := fun b hb => by
    rw [upd_ne (fun z => by rw [z, e] at hb; cases hb)]; exact hb
  refine ⟨I.ok, I.os, I.bare, ⟨I.base.keep, I.base.slot, fun b ob g n x => nd b (I.base.free b ob g n x), I.base.there, fun b xs q => ?_, fun b ob u q => ?_, fun b ps q => ?_⟩, I.loc, I.cell, nd _ I.free, fun x c q => nd _ (I.freeC x c q), fun p hp => ?_, fun a oa ea => ?_, I.len⟩
  · have q' := I.base.tups b xs q
    rw [upd_ne (fun z => k2 xs (by rw [z, e] at q'; exact Option.some.inj q'))]; exact q'
  · have q' := I.base.frzs b ob u q
    refine (upd_ne fun z => ?_).trans q'
    rcases k4 with k4 | k4
    · exact k4 ob u (by rw [z, e] at q'; exact Option.some.inj q')
    · exact k4 ob u (by rw [← z]; exact q)
  · obtain ⟨more, q'⟩ := I.base.tbls b ps q
    exact ⟨more, by rw [upd_ne (fun z => k3 (ps ++ more) (by rw [z, e] at q'; exact Option.some.inj q'))]; exact q'⟩
  · obtain ⟨p1, p2, p3⟩ := I.pin p hp
    exact ⟨p1, nd _ p2, p3⟩
  · by_cases z : a = d
    · subst z
      rw [upd_same] at ea
      cases ea
      exact new
    · rw [upd_ne z] at ea
      exact (I.hok a oa ea).stay (fun _ _ _ g => g) (fun b hb => (upd_ne fun z => k1 a (by rw [z, e] at hb; exact Option.some.inj hb)).trans hb)
        fun b xs hb => (upd_ne fun z => k2 xs (by rw [z, e] at hb; exact Option.some.inj hb)).trans hb
theorem Inv.freeze {kvs : List (List Key × V)} (I : Inv X pins σ H s) (e : H d = some (.dT kvs)) {od : Obj} (g : s.heap.get? d = some od) : Inv X pins σ (upd H d (.frz od (.dT kvs))) s := by
  refine I.alter e (fun _ z => nomatch z) (fun _ z => nomatch z) (fun _ z => nomatch z) (.inl fun _ _ z => nomatch z) ⟨g, ?_⟩
  refine (I.hok d _ e).stay (fun _ _ _ q => q) (fun b hb => (upd_ne fun z => ?_).trans hb) fun b xs hb => (upd_ne fun z => ?_).trans hb
  · rw [z, e] at hb; cases hb
  · rw [z, e] at hb; cases hb
theorem Inv.thaw {kvs : List (List Key × V)} {od : Obj} (I : Inv X pins σ H s) (e : H d = some (.frz od (.dT kvs))) (nf : NF X d) : Inv X pins σ (upd H d (.dT kvs)) s := by
  refine I.alter e (fun _ z => nomatch z) (fun _ z => nomatch z) (fun _ z => nomatch z) (.inr nf) ?_
  refine ((I.hok d _ e).2).stay (fun _ _ _ q => q) (fun b hb => (upd_ne fun z => ?_).trans hb) fun b xs hb => (upd_ne fun z => ?_).trans hb
  · rw [z, e] at hb; cases hb
  · rw [z, e] at hb; cases hb
end
def Thw (X : Cx) (K : Hp → Prop) (H : Hp) : Prop := ∃ d od kvs, H d = some (.frz od (.dT kvs)) ∧ NF X d ∧ K (upd H d (.dT kvs))
theorem PS.thaw {X : Cx} {st : Stmt} {t : TS} (h : PS X st t) : PS X st (fun D σ H => t { nx := fun σ => Thw X (D.nx σ), rt := fun v => Thw X (D.rt v), bk := fun σ => Thw X (D.bk σ), ct := fun σ => Thw X (D.ct σ) } σ H) := fun pins s σ H D I q =>
  thn (h pins s σ H _ I q) fun f s1 z => by
    cases f with
    | next => obtain ⟨σ1, H1, I1, _, _, _, e1, nf, q1⟩ := z; exact ⟨σ1, _, I1.thaw e1 nf, q1⟩
    | brk => obtain ⟨σ1, H1, I1, _, _, _, e1, nf, q1⟩ := z; exact ⟨σ1, _, I1.thaw e1 nf, q1⟩
    | cont => obtain ⟨σ1, H1, I1, _, _, _, e1, nf, q1⟩ := z; exact ⟨σ1, _, I1.thaw e1 nf, q1⟩
    | ret u => obtain ⟨v, σ1, H1, I1, r, _, _, _, e1, nf, q1⟩ := z; exact ⟨v, σ1, _, I1.thaw e1 nf, r, q1⟩
def Itd (d : Addr) (od : Obj) (kvs : List (List Key × V)) : It :=
  ⟨fun i H => H d = some (.frz od (.dT kvs)) ∧ i < kvs.length, fun i H x H' => H' = H ∧ ∃ k v b, kvs[i]? = some (k, v) ∧ x = .ref b ∧ H b = some (.tup (k.map kV)), fun i H => H d = some (.frz od (.dT kvs)) ∧ kvs.length ≤ i⟩
theorem dt_raw {P : Program} {w : World} {H : Hp} {h : Heap} {d : Addr} {od : Obj} {kvs : List (List Key × V)} {es : Array DictEntry} {ep : Nat} (ok : ObjOk P w H h d (.frz od (.dT kvs))) (hdat : od.data = .dict es ep) :
    RawD h d es ep ∧ es.size = kvs.length ∧ ∀ (i : Nat) (k : List Key) (v : V), kvs[i]? = some (k, v) → ∃ b, (es[i]?).map DictEntry.key = some (Value.ref b) ∧ H b = some (.tup (k.map kV)) := by
  obtain ⟨g, _, _, xs, pr, o, es', ep', ho, hex, hd', hes, _⟩ := ok
  rw [g] at ho; cases ho
  rw [hdat] at hd'; cases hd'
  have hl : es.size = xs.length := by rw [← Array.length_toList, hes, List.length_map]
  refine ⟨⟨od, g, hex.1, hdat⟩, by rw [hl, ← Paired.length pr], fun i k v hk => ?_⟩
  have hx : ∀ {kvs : List (List Key × V)} {xs : List (List Key × Addr × Value)} {i : Nat}, Paired (fun (p : List Key × V) (q : List Key × Addr × Value) => p.1 = q.1 ∧ H q.2.1 = some (.tup (p.1.map kV)) ∧ RelV p.2 q.2.2) kvs xs → kvs[i]? = some (k, v) →
      ∃ q, xs[i]? = some q ∧ H q.2.1 = some (.tup (k.map kV)) := by
    intro kvs xs i pr
    induction pr generalizing i with
    | nil => intro z; simp at z
    | cons h _ ih =>
      intro z
      cases i with
      | zero => simp only [List.getElem?_cons_zero, Option.some.injEq] at z; subst z; exact ⟨_, rfl, h.2.1⟩
      | succ j => exact ih z
  obtain ⟨q, hq, hb⟩ := hx pr hk
  refine ⟨q.2.1, ?_, hb⟩
  rw [← Array.getElem?_toList, hes, List.getElem?_map, hq]; rfl
theorem turn_dict {P : Program} {w : World} {K : PySem.W.Frag} {tg : Expr} (d it : Addr) (od : Obj) (kvs : List (List Key × V)) (es : Array DictEntry) (ep : Nat) (hdat : od.data = .dict es ep) :
    Turn P w K tg (Itd d od kvs) [it] it (fun i h => h.IsKeyIter it d i es.size ep) where
  mem := by simp
  obj := fun i h st b hb => by
    cases (show b = it by simpa using hb)
    obtain ⟨o, e, c, dd⟩ := st
    exact ⟨o, e, fun v z => by rw [dd] at z; cases z⟩
  keep := fun i h h' st k => st.at fun o e => k it (by simp) o e
  item := by
    intro X hP hw hK hc i pins s σ H E I hf st hg
    subst hP hw hK
    obtain ⟨hd, hi⟩ := hg
    obtain ⟨raw, sz, key⟩ := dt_raw (I.hok d _ hd) hdat
    obtain ⟨f0, f1, f2, f3, f4, f5⟩ := hf it (by simp)
    obtain ⟨b, eb, hb⟩ := key i kvs[i].1 kvs[i].2 (List.getElem?_eq_getElem hi)
    have hlt : i < es.size := by omega
    rw [Array.getElem?_eq_getElem hlt] at eb
    have eb : es[i].key = .ref b := Option.some.inj eb
    refine raw_next st raw hlt fun h' st' sb => ?_
    have I1 : Inv X pins σ H { s with heap := h' } := I.turned (t' := s.toks) (fun b o hb e => (sb.2 b hb).trans e) f0 f1 f3 f4 f5
    obtain ⟨o, e, c, dd⟩ := id st'
    exact ⟨_, rfl, go_of (s := { s with heap := h' }) e c dd (by decide) ⟨.ref b, H, I1, eb, ⟨rfl, _, _, b, List.getElem?_eq_getElem hi, rfl, hb⟩, st', fun b hb => (hf b hb).1⟩⟩
  done := by
    intro X hP hw hK hc i pins s σ H E I hf st hg
    subst hP hw hK
    obtain ⟨hd, hi⟩ := hg
    obtain ⟨raw, sz, _⟩ := dt_raw (I.hok d _ hd) hdat
    obtain ⟨f0, f1, f2, f3, f4, f5⟩ := hf it (by simp)
    exact raw_end (I.ok.hd hc) st raw (by omega) fun h' eb => ⟨rfl, I.turned (t' := s.toks) (fun b o hb e => eb b o hb e) f0 f1 f3 f4 f5⟩
  self := fun _ _ _ _ _ st h => wpAny_pyIter_keyiter st h
def iDict (X : Cx) (tl : TE) : TI := fun σ H R => tl σ H fun x H1 => ∃ d kvs, x = .ref d ∧ H1 d = some (.dT kvs) ∧ ∀ od, NF X d → R (Itd d od kvs) (upd H1 d (.frz od (.dT kvs)))
theorem pi_dict {X : Cx} {tg l : Expr} {tl : TE} (hl : PE X l tl) : PI X tg l (iDict X tl) := by
  intro pins s σ H R I h
  refine thn (hl pins s σ H _ I h) fun v s1 ⟨x, H1, I1, r1, d, kvs, e, hd, q⟩ => ?_
  subst e
  cases r1
  obtain ⟨z, hsys, xs, pr, o, es, ep, ho, hex, hdat, hes, hnd⟩ := I1.hok d _ hd
  refine raw_iter hsys ⟨o, ho, hex.1, hdat⟩ ?_
  have I2 : Inv X pins σ H1 { s1 with heap := s1.heap.push { cls := .type "dict_keyiterator", data := .fields #[.ref d, .int 0 0, .int es.size 0, .int ep 0] } } := I1.kept (t' := s1.toks) fun b ob g => Heap.get?_push_of_some _ g
  refine ⟨s1.heap.objs.size, [s1.heap.objs.size], _, Itd d o kvs, _, rfl, I2.freeze hd (Heap.get?_push_of_some _ ho), turn_dict d _ o kvs es ep hdat, ⟨_, Heap.get?_push_size _ rfl, rfl, rfl⟩, fun b hb => ?_, q o fun ob u e0 => ?_⟩
  · cases (show b = s1.heap.objs.size by simpa using hb)
    have hn : H1 s1.heap.objs.size = none := I1.hok.fresh (Nat.le_refl _)
    exact I1.fpOk (Nat.le_refl _) (by rw [upd_ne (fun z => by rw [z, hd] at hn; cases hn)]; exact hn)
  · have := I1.base.frzs d ob u e0
    rw [hd] at this; cases this
theorem for_dict {d : Addr} {od : Obj} {kvs : List (List Key × V)} {g : TG} {tb : TS} {D : Ends} {σ : St} {H : Hp} (Pv : Nat → St → Hp → Prop) (h0 : Pv 0 σ H) (hl : ∀ i σ H, Pv i σ H → H d = some (.frz od (.dT kvs)))
    (hs : ∀ i k v b σ H, kvs[i]? = some (k, v) → H b = some (.tup (k.map kV)) → Pv i σ H → g (.ref b) σ H fun σ2 H2 => tb { D with nx := Pv (i + 1), ct := Pv (i + 1), bk := D.nx } σ2 H2) (hd : ∀ σ H, Pv kvs.length σ H → D.nx σ H) :
    ∃ W : Nat → Nat → St → Hp → Prop, (∃ m, W 0 m σ H) ∧ ∀ i m σ H, W i m σ H →
      ((Itd d od kvs).stop i H ∧ D.nx σ H) ∨ ((Itd d od kvs).go i H ∧ ∃ N : St → Hp → Prop, (∀ σ' H', N σ' H' → ∃ m', m' < m ∧ W (i + 1) m' σ' H') ∧ ∀ x H', (Itd d od kvs).yld i H x H' → g x σ H' fun σ2 H2 => tb { D with nx := N, ct := N, bk := D.nx } σ2 H2) := by
  refine ⟨fun i m σ H => m = kvs.length - i ∧ i ≤ kvs.length ∧ Pv i σ H, ⟨kvs.length, by simp, Nat.zero_le _, h0⟩, ?_⟩
  rintro i m σ H ⟨rfl, hi, p⟩
  by_cases hlt : i < kvs.length
  · refine .inr ⟨⟨hl i σ H p, hlt⟩, Pv (i + 1), fun σ' H' p' => ⟨kvs.length - (i + 1), by omega, rfl, hlt, p'⟩, fun x H' y => ?_⟩
    obtain ⟨e, k, v, b, hk, ex, hb⟩ := y
    subst e ex
    exact hs i k v b σ _ hk hb p
  · have e : i = kvs.length := by omega
    subst e
    exact .inl ⟨⟨hl _ σ H p, Nat.le_refl _⟩, hd σ H p⟩
theorem for_dict' {d : Addr} {od : Obj} {kvs : List (List Key × V)} {g : TG} {tb : TS} {D : Ends} {σ : St} {H : Hp} (Pv : Nat → St → Hp → Prop) (h0 : Pv 0 σ H) (hl : ∀ i σ H, Pv i σ H → H d = some (.frz od (.dT kvs)))
    (hs : ∀ i k v b σ H, kvs[i]? = some (k, v) → H b = some (.tup (k.map kV)) → Pv i σ H → ∀ D' : Ends, (∀ σ H, Pv (i + 1) σ H → D'.nx σ H) → g (.ref b) σ H fun σ2 H2 => tb D' σ2 H2) (hd : ∀ σ H, Pv kvs.length σ H → D.nx σ H) :
    ∃ W : Nat → Nat → St → Hp → Prop, (∃ m, W 0 m σ H) ∧ ∀ i m σ H, W i m σ H →
      ((Itd d od kvs).stop i H ∧ D.nx σ H) ∨ ((Itd d od kvs).go i H ∧ ∃ N : St → Hp → Prop, (∀ σ' H', N σ' H' → ∃ m', m' < m ∧ W (i + 1) m' σ' H') ∧ ∀ x H', (Itd d od kvs).yld i H x H' → g x σ H' fun σ2 H2 => tb { D with nx := N, ct := N, bk := D.nx } σ2 H2) :=
  for_dict Pv h0 hl (fun i k v b σ H e hb p => hs i k v b σ H e hb p _ fun _ _ h => h) hd
end L2

set_option Elab.async false
set_option linter.all false
set_option maxRecDepth 100000
namespace L2
open PySem PySem.Spec PyProof.Rows
structure Dm (K : PySem.W.Frag) (C : Addr) (x qual : Str) (st : Stmt) (f : Addr) (fd : FuncData) (ps : List Str) : Prop where
  F : Fun K x qual st f fd
  h : Meth K C x f
  b : Binds K fd ps []
theorem dm_mk {K : PySem.W.Frag} {C : Addr} {x qual : Str} {st : Stmt} {f : Addr} {ps : List Str} {kV doc pm cdv ct : Value} {an : Option Addr}
    (F : Fun K x qual st f (PySem.W.fnOf x qual (defArgs st) (defBody st) (defScope st) .none kV doc pm an cdv ct)) (e : PySem.W.findIn K (.ref C) x = some (some (.ref f))) (i : PySem.W.isFn K (.ref f) = true)
    (h : ∀ (kV doc pm : Value) (an : Option Addr) (cdv ct : Value) (us : List Value), us.length = ps.length → bindArgs (PySem.W.fnOf x qual (defArgs st) (defBody st) (defScope st) .none kV doc pm an cdv ct) ⟨us, []⟩ = pure (ps.zip us)) :
    Dm K C x qual st f (PySem.W.fnOf x qual (defArgs st) (defBody st) (defScope st) .none kV doc pm an cdv ct) ps := ⟨F, ⟨e, i, F.kp⟩, F.binds h⟩
section
variable {X : Cx} {k : Nat} {f C : Addr} {fd : FuncData} {ps : List Str} {sp : Sp} {x qual : Str} {st : Stmt} {p pos pos' apos : Pos} {o e : Expr} {es : List Expr} {t : TA} {ta : TE} {m : Str}
theorem pmake (hm : X.mg x = some (.ref C)) (M : Mk X.K C f) (D : Dm X.K C m qual st f fd ps) (F : FnOk X.prog X.w X.K X.mg X.base CX0 k f fd ps sp) (hr : Room (k + 1) X.A) (ha : PA X (e :: es) t) (hg : Gl X x := by rfl)
    (hdb : (x == ("__debug__" : Str)) = false := by decide) (he : starEach (e :: es) X.env = (false, eval e X.env) :: starEach es X.env := by rfl) (hpl : (backTo pos (starEach es X.env)).any (·.1) = false := by rfl) :
    PE X (.Call (.Name x p) (e :: es) [] pos) (tMake C sp [] E0 t) := pe_make M F hr hg hm D.b .nil pass0 ha hdb he hpl
theorem pmeth0 {pl : Sem Bool} (c : Cls X.K C) (D : Dm X.K C m qual st f fd ps) (F : FnOk X.prog X.w X.K X.mg X.base CX0 k f fd ps sp) (hr : Room k X.A) (he : PE X o ta)
    (ht : eval (.Call (.Attribute o m apos) [] [] pos) X.env = (eval o X.env >>= fun ov => standAt apos.atName >>= fun _ => holding [ov] (getMethod ov m pl) >>= fun z => callWith pos z.1 z.2 (backTo pos (starEach [] X.env)) (backToKw pos (keywordEach [] X.env))) := by rfl) :
    PE X (.Call (.Attribute o m apos) [] [] pos) (tMeth C m sp [] E0 ta tNil) := pe_meth0 he c D.h F hr D.b .nil pass0 ht
theorem pmeth {pl : Sem Bool} (c : Cls X.K C) (D : Dm X.K C m qual st f fd ps) (F : FnOk X.prog X.w X.K X.mg X.base CX0 k f fd ps sp) (hr : Room k X.A) (he : PE X o ta) (ha : PA X (e :: es) t)
    (hst : starEach (e :: es) X.env = (false, eval e X.env) :: starEach es X.env := by rfl) (hpl : (backTo pos (starEach es X.env)).any (·.1) = false := by rfl)
    (ht : eval (.Call (.Attribute o m apos) (e :: es) [] pos) X.env = (eval o X.env >>= fun ov => standAt apos.atName >>= fun _ => holding [ov] (getMethod ov m pl) >>= fun z => callWith pos z.1 z.2 (backTo pos (starEach (e :: es) X.env)) (backToKw pos (keywordEach [] X.env))) := by rfl) :
    PE X (.Call (.Attribute o m apos) (e :: es) [] pos) (tMeth C m sp [] E0 ta t) := pe_meth he c D.h F hr D.b .nil pass0 ha hst hpl ht
end
end L2

namespace Rg
open Sev
def figs : List Int := [0, 1, 2, 3, 4, 5, 6]
theorem mem_figs {f : Int} : f ∈ figs ↔ Fig f := by
  simp only [figs, Fig, List.mem_cons, List.not_mem_nil, or_false]
  omega
def longer (xss : List (List Int)) : List (List Int) := xss.flatMap fun xs => figs.map fun f => xs ++ [f]
def lns : Nat → List Int → List (List Int)
  | 0, xs => [xs]
  | n + 1, xs => longer (lns n xs)
theorem mem_longer {xss : List (List Int)} {ys : List Int} : ys ∈ longer xss ↔ ∃ xs ∈ xss, ∃ f, Fig f ∧ ys = xs ++ [f] := by
  simp only [longer, List.mem_flatMap, List.mem_map, mem_figs]
  constructor
  · rintro ⟨xs, h, f, hf, rfl⟩; exact ⟨xs, h, f, hf, rfl⟩
  · rintro ⟨xs, h, f, hf, rfl⟩; exact ⟨xs, h, f, hf, rfl⟩
theorem mem_lns : ∀ {n : Nat} {xs ys : List Int}, ys ∈ lns n xs ↔ ∃ t, ys = xs ++ t ∧ t.length = n ∧ ∀ f ∈ t, Fig f
  | 0, xs, ys => by
    simp only [lns, List.mem_singleton]
    constructor
    · rintro rfl; exact ⟨[], by simp, rfl, by simp⟩
    · rintro ⟨t, rfl, ht, _⟩
      have : t = [] := List.length_eq_zero_iff.mp ht
      subst this; simp
  | n + 1, xs, ys => by
    simp only [lns, mem_longer, mem_lns (n := n)]
    constructor
    · rintro ⟨_, ⟨t, rfl, ht, hf⟩, f, hfig, rfl⟩
      refine ⟨t ++ [f], by simp, by simp [ht], fun g hg => ?_⟩
      rcases List.mem_append.mp hg with hg | hg
      · exact hf g hg
      · rw [List.mem_singleton.mp hg]; exact hfig
    · rintro ⟨t, rfl, ht, hf⟩
      have hne : t ≠ [] := fun z => by rw [z] at ht; simp at ht
      refine ⟨xs ++ t.dropLast, ⟨t.dropLast, rfl, by rw [List.length_dropLast]; omega, fun g hg => hf g ((List.dropLast_sublist t).subset hg)⟩, t.getLast hne, hf _ (List.getLast_mem hne), ?_⟩
      rw [List.append_assoc, List.dropLast_concat_getLast hne]
theorem len_longer (xss : List (List Int)) : (longer xss).length = 7 * xss.length := by
  induction xss with
  | nil => rfl
  | cons x r ih =>
    show (((figs.map fun f => x ++ [f]) ++ longer r)).length = _
    rw [List.length_append, ih, List.length_map]
    simp [figs]; omega
theorem len_lns : ∀ (n : Nat) (xs : List Int), (lns n xs).length = 7 ^ n
  | 0, _ => rfl
  | n + 1, xs => by rw [lns, len_longer, len_lns n xs, Nat.pow_succ, Nat.mul_comm]
theorem lns_len {n : Nat} {xs ys : List Int} (h : ys ∈ lns n xs) : ys.length = xs.length + n := by
  obtain ⟨t, rfl, ht, _⟩ := mem_lns.mp h
  rw [List.length_append, ht]
def put (LL : List (List Int)) (x : List Int) : List (List Int) := if x ∈ LL then LL else LL ++ [x]
def puts (LL xs : List (List Int)) : List (List Int) := xs.foldl put LL
theorem put_nodup {LL : List (List Int)} (h : LL.Nodup) (x : List Int) : (put LL x).Nodup := by
  unfold put
  split
  · exact h
  · rename_i hx
    rw [List.nodup_append]
    refine ⟨h, by simp, ?_⟩
    intro a ha b hb
    rw [List.mem_singleton.mp hb]
    intro z; subst z; exact hx ha
theorem mem_put {LL : List (List Int)} {x y : List Int} : y ∈ put LL x ↔ y ∈ LL ∨ y = x := by
  unfold put
  split
  · constructor
    · exact .inl
    · rintro (h | h)
      · exact h
      · rw [h]; assumption
  · simp
theorem put_len (LL : List (List Int)) (x : List Int) : (put LL x).length ≤ LL.length + 1 := by
  unfold put
  split <;> simp
theorem puts_nodup : ∀ {xs LL : List (List Int)}, LL.Nodup → (puts LL xs).Nodup
  | [], _, h => h
  | x :: r, LL, h => puts_nodup (xs := r) (put_nodup h x)
theorem mem_puts : ∀ {xs LL : List (List Int)} {y : List Int}, y ∈ puts LL xs ↔ y ∈ LL ∨ y ∈ xs
  | [], LL, y => by simp [puts]
  | x :: r, LL, y => by
    have := mem_puts (xs := r) (LL := put LL x) (y := y)
    rw [mem_put] at this
    show y ∈ puts (put LL x) r ↔ _
    rw [this, List.mem_cons, or_assoc]
theorem puts_len : ∀ (xs LL : List (List Int)), (puts LL xs).length ≤ LL.length + xs.length
  | [], LL => by simp [puts]
  | x :: r, LL => by
    have h1 := puts_len r (put LL x)
    have h2 := put_len LL x
    show (puts (put LL x) r).length ≤ _
    rw [List.length_cons]
    omega
theorem puts_snoc (LL xs : List (List Int)) (x : List Int) : puts LL (xs ++ [x]) = put (puts LL xs) x := by simp [puts, List.foldl_append]
theorem take_snoc {α : Type} {xs : List α} {i : Nat} {x : α} (h : xs[i]? = some x) : xs.take (i + 1) = xs.take i ++ [x] := by
  rw [List.take_add_one, h]; rfl
def lall (lv : Nat) (xss : List (List Int)) : List (List Int) := puts [] ((puts [] xss).flatMap fun xs => lns (lv - xs.length) xs)
theorem lall_nodup (lv : Nat) (xss : List (List Int)) : (lall lv xss).Nodup := puts_nodup (by simp)
theorem mem_lall {lv : Nat} {xss : List (List Int)} {ys : List Int} : ys ∈ lall lv xss ↔ ∃ xs ∈ xss, ys ∈ lns (lv - xs.length) xs := by
  unfold lall
  rw [mem_puts]
  simp only [List.not_mem_nil, false_or, List.mem_flatMap, mem_puts]
theorem flat_len {lv : Nat} (hl : lv ≤ 4) : ∀ xss : List (List Int), (xss.flatMap fun xs => lns (lv - xs.length) xs).length ≤ 2401 * xss.length
  | [] => by simp
  | x :: r => by
    rw [List.flatMap_cons, List.length_append, len_lns, List.length_cons]
    have h := flat_len hl r
    have : 7 ^ (lv - x.length) ≤ 7 ^ 4 := Nat.pow_le_pow_right (by decide) (by omega)
    have e : (7 : Nat) ^ 4 = 2401 := by decide
    omega
end Rg

set_option Elab.async false
set_option linter.all false
set_option maxRecDepth 100000
namespace L2
open PySem PySem.Spec PyProof.Rows
section
variable {X : Cx}
theorem op_catTT : OpR X (binaryOp .Add) (fun x y H Q => ∃ a b xs ys, x = .ref a ∧ y = .ref b ∧ SqT X.K H a xs ∧ H b = some (.tup ys) ∧ ys ≠ [] ∧ xs.length + ys.length ≤ sizeLine ∧ ∀ p H', Same H H' → H' p = some (.tup (xs ++ ys)) → Q (.ref p) H') := by
  intro pins s σ H x y v u Q I rx ry h
  obtain ⟨a, b, xs, ys, rfl, rfl, ha, hb, hy, hz, q⟩ := h
  by_cases hx : xs = []
  · subst hx
    cases rx
    cases ry
    obtain ⟨its, r1, p1, _⟩ := I.tuple ha
    obtain ⟨its2, r2, p2, _⟩ := I.tuple (SqT.of hb)
    have e1 : its = [] := by cases r1; rfl
    subst e1
    obtain ⟨⟨c1, d1, t1, l1⟩, g1, k1, n1, m1⟩ := id p1
    obtain ⟨⟨c2, d2, t2, l2⟩, g2, k2, n2, m2⟩ := id p2
    simp only at k1 m1 k2 m2
    subst k1 m1 k2 m2
    exact concat_meets ⟨_, g1, rfl⟩ ⟨_, g2, rfl⟩ noFill_tuple_add seq_tuple_add PySem.F.slot_tuple_add PySem.F.entry_tuple_add (PySem.F.args_tuple_add_2 _ _)
      (tuple_addW0 a b _ _ n1 n2 d1 d2 l1 l2 rfl) ⟨g1, g2, .ref b, H, I, rfl, q b H (Same.refl _) (by simpa using hb)⟩
  · exact op_catT pins s σ H _ _ v u Q I rx ry ⟨a, b, xs, ys, rfl, rfl, ha, SqT.of hb, hx, hz, fun z => absurd z hy, fun _ p hp => q p _ (same_upd hp) upd_same⟩
def iSeq (K : PySem.W.Frag) (tl : TE) : TI := fun σ H R => tl σ H fun x H1 => ∃ a, x = .ref a ∧ (((∃ xs, SqL K H1 a xs) ∧ R (Itl K a) H1) ∨ ((∃ xs, SqT K H1 a xs) ∧ R (Itt K a) H1))
theorem pi_seq {tg l : Expr} {tl : TE} (hl : PE X l tl) : PI X tg l (iSeq X.K tl) := by
  intro pins s σ H R I h
  refine thn (hl pins s σ H _ I h) fun v s1 ⟨x, H1, I1, r1, q1⟩ => ?_
  obtain ⟨a, e, q⟩ := q1
  subst e
  cases r1
  rcases q with ⟨⟨xs, hq⟩, q⟩ | ⟨⟨xs, hq⟩, q⟩
  · obtain ⟨its, rv, p, hz⟩ := I1.list hq
    refine wpAny_pyIter_list p.isList ⟨s1.heap.objs.size, [s1.heap.objs.size], _, _, H1, rfl, I1.kept (t' := s1.toks) fun b o e => Heap.get?_push_of_some _ e, turn_list a _, ⟨_, Heap.get?_push_size _ rfl, rfl, rfl⟩, fun b hb => ?_, q⟩
    cases (show b = s1.heap.objs.size by simpa using hb)
    exact I1.fpOk (Nat.le_refl _) (I1.hok.fresh (Nat.le_refl _))
  · obtain ⟨its, rv, p, hz⟩ := I1.tuple hq
    refine wpAny_pyIter_tuple p ⟨s1.heap.objs.size, [s1.heap.objs.size], _, _, H1, rfl, I1.kept (t' := s1.toks) fun b o e => Heap.get?_push_of_some _ e, turn_tuple a _, ⟨_, Heap.get?_push_size _ rfl, rfl, rfl⟩, fun b hb => ?_, q⟩
    cases (show b = s1.heap.objs.size by simpa using hb)
    exact I1.fpOk (Nat.le_refl _) (I1.hok.fresh (Nat.le_refl _))
end
def Sq (K : PySem.W.Frag) (H : Hp) (a : Addr) (xs : List Int) : Prop := SqL K H a (List.map V.int xs) ∨ SqT K H a (List.map V.int xs)
def Tups (H : Hp) : List V → List (List Int) → Prop := Paired fun v xs => ∃ a, v = .ref a ∧ H a = some (.tup (List.map V.int xs))
theorem Tups.keep {H H' : Hp} (s : Same H H') : ∀ {us : List V} {xss : List (List Int)}, Tups H us xss → Tups H' us xss
  | _, _, .nil => .nil
  | _, _, .cons ⟨a, e, h⟩ r => .cons ⟨a, e, s _ _ h⟩ (Tups.keep s r)
theorem Tups.len {H : Hp} {us : List V} {xss : List (List Int)} (h : Tups H us xss) : us.length = xss.length := Paired.length h
theorem Tups.snoc {H : Hp} : ∀ {us : List V} {xss : List (List Int)} {a : Addr} {xs : List Int}, Tups H us xss → H a = some (.tup (List.map V.int xs)) → Tups H (us ++ [.ref a]) (xss ++ [xs])
  | _, _, a, xs, .nil, h => .cons ⟨a, rfl, h⟩ .nil
  | _, _, _, _, .cons p r, h => .cons p (Tups.snoc r h)
theorem Tups.get {H : Hp} : ∀ {us : List V} {xss : List (List Int)} {i : Nat} {u : V}, Tups H us xss → us[i]? = some u → ∃ a xs, u = .ref a ∧ xss[i]? = some xs ∧ H a = some (.tup (List.map V.int xs))
  | _, _, 0, _, .cons ⟨a, e, h⟩ _, hu => by cases hu; exact ⟨a, _, e, rfl, h⟩
  | _, _, i + 1, _, .cons _ r, hu => Tups.get (i := i) r hu
theorem Tups.upd {H : Hp} {p : Addr} {o : HO} (hp : ∀ ys, H p ≠ some (.tup ys)) : ∀ {us : List V} {xss : List (List Int)}, Tups H us xss → Tups (L2.upd H p o) us xss
  | _, _, .nil => .nil
  | _, _, .cons ⟨a, e, h⟩ r => .cons ⟨a, e, by rw [upd_ne (fun z => hp _ (by rw [← z]; exact h))]; exact h⟩ (Tups.upd hp r)
theorem RowsV.len {K : PySem.W.Frag} {H : Hp} {us : List V} {xss : List (List Int)} (h : RowsV K H us xss) : us.length = xss.length := Paired.length h
theorem RowsV.get {K : PySem.W.Frag} {H : Hp} : ∀ {us : List V} {xss : List (List Int)} {i : Nat} {u : V}, RowsV K H us xss → us[i]? = some u → ∃ a xs, u = .ref a ∧ xss[i]? = some xs ∧ SqL K H a (List.map V.int xs)
  | _, _, 0, _, .cons ⟨a, e, h⟩ _, hu => by cases hu; exact ⟨a, _, e, rfl, h⟩
  | _, _, i + 1, _, .cons _ r, hu => RowsV.get (i := i) r hu
theorem SqL.upd_ins {K : PySem.W.Frag} {H : Hp} {p a : Addr} {o : HO} {xs : List V} (hp : ∀ ys, ¬ Rd H p (.lst ys)) (h : SqL K H a xs) : SqL K (L2.upd H p o) a xs := by
  rcases h with (h | ⟨ob, h⟩) | h
  · exact .inl (.inl (by rw [upd_ne (fun z => hp xs (.inl (by rw [← z]; exact h)))]; exact h))
  · exact .inl (.inr ⟨ob, by rw [upd_ne (fun z => hp xs (.inr ⟨ob, by rw [← z]; exact h⟩))]; exact h⟩)
  · exact .inr h
theorem RowsV.upd_ins {K : PySem.W.Frag} {H : Hp} {p : Addr} {o : HO} (hp : ∀ ys, ¬ Rd H p (.lst ys)) : ∀ {us : List V} {xss : List (List Int)}, RowsV K H us xss → RowsV K (L2.upd H p o) us xss
  | _, _, .nil => .nil
  | _, _, .cons ⟨a, e, h⟩ r => .cons ⟨a, e, h.upd_ins hp⟩ (RowsV.upd_ins hp r)
def kk (xs : List Int) : List Key := xs.map Sum.inl
theorem kk_kV (xs : List Int) : (kk xs).map kV = List.map V.int xs := by unfold kk; rw [List.map_map]; rfl
theorem kk_inj {xs ys : List Int} (h : kk xs = kk ys) : xs = ys := by
  induction xs generalizing ys with
  | nil => cases ys with
    | nil => rfl
    | cons y r => cases h
  | cons x r ih => cases ys with
    | nil => cases h
    | cons y q =>
      unfold kk at h
      rw [List.map_cons, List.map_cons, List.cons.injEq] at h
      rw [Sum.inl.inj h.1, ih h.2]
def dset (LL : List (List Int)) : List (List Key × V) := LL.map fun xs => (kk xs, V.bl true)
theorem dset_val (LL : List (List Int)) (xs : List Int) : valV (dset LL) (kk xs) = if xs ∈ LL then some (.bl true) else none := by
  induction LL with
  | nil => rfl
  | cons y r ih =>
    by_cases h : y = xs
    · subst h
      rw [if_pos (by simp)]
      exact valV_pos rfl
    · have hk : ¬ kk y = kk xs := fun z => h (kk_inj z)
      show valV ((kk y, V.bl true) :: dset r) (kk xs) = _
      rw [valV_neg hk, ih]
      by_cases hx : xs ∈ r
      · rw [if_pos hx, if_pos (by simp [hx])]
      · rw [if_neg hx, if_neg (by simp [hx]; exact fun z => h z.symm)]
theorem dset_put (LL : List (List Int)) (xs : List Int) : putK (dset LL) (kk xs) (.bl true) = dset (Rg.put LL xs) := by
  have e := dset_val LL xs
  unfold Rg.put
  by_cases h : xs ∈ LL
  · rw [if_pos h]
    have hany : ((dset LL).any fun kv => decide (kv.1 = kk xs)) = true := by
      rw [valV_any, e, if_pos h]; rfl
    unfold putK
    rw [if_pos hany]
    unfold dset
    rw [List.map_map]
    apply List.map_congr_left
    intro y _
    simp only [Function.comp]
    split <;> rfl
  · rw [if_neg h]
    rw [if_neg h] at e
    rw [putK_new _ e]
    unfold dset
    rw [List.map_append]; rfl
theorem dset_len (LL : List (List Int)) : (dset LL).length = LL.length := by unfold dset; rw [List.length_map]
theorem dset_get {LL : List (List Int)} {i : Nat} {k : List Key} {v : V} (h : (dset LL)[i]? = some (k, v)) : ∃ xs, LL[i]? = some xs ∧ k = kk xs ∧ v = .bl true := by
  unfold dset at h
  rw [List.getElem?_map] at h
  obtain ⟨xs, e, h⟩ := Option.map_eq_some_iff.mp h
  cases h
  exact ⟨xs, e, rfl, rfl⟩
end L2

set_option Elab.async false
set_option linter.all false
set_option maxRecDepth 100000
namespace L2
open PySem PySem.Spec PyProof.Rows
section
variable {prog : Program} {w : World} {A : Around} {R : Result → Shared → Prop} {I : Addr} {fp wr : List Addr} {n : Nat} {P : Nat → Value → Prop} {St : Nat → Heap → Prop}
end
section
variable {X : Cx}
end
end L2

set_option Elab.async false
set_option linter.all false
set_option maxRecDepth 100000
namespace Srt
open PySem PySem.Spec PyProof.Rows
def Ord (M : Model) (A : Around) (E : Value → Shared → Prop) (s : Shared) (κ : SortKind) (P : Keyed → Prop) (O : KeyOrd) (key : Keyed → O.α) : Prop :=
  ∀ x y, P x → P y → ∀ (st : SortSt) (Q : Option Bool → SortSt → Prop), kindOf st = κ → Q (some (O.blt (key x) (key y))) st → wpS M A E s (lt' x y) Q st
section
variable {O : KeyOrd} {key : Keyed → O.α}
def kAt (key : Keyed → O.α) (arr : Array Keyed) (i : Nat) : O.α := key ((arr[i]?).getD (Value.none, Value.none))
theorem kAt_congr {xs ys : Array Keyed} {i j : Nat} (h : xs[i]? = ys[j]?) : kAt key xs i = kAt key ys j := by unfold kAt; rw [h]
theorem kAt_bub {xs : Array Keyed} {src d : Nat} (hs : src < xs.size) (hd : d ≤ src) (k : Nat) :
    kAt key (bubble xs src d) k = if k = src - d then kAt key xs src else if src - d < k ∧ k ≤ src then kAt key xs (k - 1) else kAt key xs k := by
  have e := getElem?_bubble hs d hd k
  split <;> rename_i h1
  · rw [if_pos h1] at e; exact kAt_congr e
  · rw [if_neg h1] at e
    split <;> rename_i h2
    · rw [if_pos h2] at e; exact kAt_congr e
    · rw [if_neg h2] at e; exact kAt_congr e
theorem kAt_mir {xs : Array Keyed} {i j : Nat} (hj : j ≤ xs.size) (k : Nat) : kAt key (mirror xs i j ((j - i) / 2)) k = if i ≤ k ∧ k < j then kAt key xs (i + j - 1 - k) else kAt key xs k := by
  have e := getElem?_mirror_all (i := i) hj k
  split <;> rename_i h1
  · rw [if_pos h1] at e; exact kAt_congr e
  · rw [if_neg h1] at e; exact kAt_congr e
theorem kAt_mir_eq {xs : Array Keyed} {i j : Nat} (hj : j ≤ xs.size) (heq : ∀ k, i ≤ k → k < j → kAt key xs k = kAt key xs (j - 1)) (k : Nat) : kAt key (mirror xs i j ((j - i) / 2)) k = kAt key xs k := by
  rw [kAt_mir hj]; split
  · rw [heq _ (by omega) (by omega), heq k (by omega) (by omega)]
  · rfl
end
structure SB (κ : SortKind) (a₀ : Array Keyed) (pd : Array (Nat × Nat × Nat)) (lo : Nat) (f : Nat → Option Keyed) (st : SortSt) : Prop where
  pm : (arrOf st).Perm a₀
  kd : kindOf st = κ
  fl : failedOf st = none
  pe : pendingOf st = pd
  pr : ∀ k, k < lo → (arrOf st)[k]? = f k
section
variable {κ : SortKind} {a₀ : Array Keyed} {pd : Array (Nat × Nat × Nat)} {lo : Nat} {f : Nat → Option Keyed} {st : SortSt}
theorem SB.sz (h : SB κ a₀ pd lo f st) : (arrOf st).size = a₀.size := h.pm.size_eq
theorem SB.mir (h : SB κ a₀ pd lo f st) {i j : Nat} (hi : lo ≤ i) (hj : j ≤ a₀.size) : SB κ a₀ pd lo f (setArr st (mirror (arrOf st) i j ((j - i) / 2))) :=
  ⟨(mirror_perm _ _ _ _).trans h.pm, h.kd, h.fl, h.pe, fun k hk => by
    show (mirror (arrOf st) i j ((j - i) / 2))[k]? = _
    rw [getElem?_mirror_all (by rw [h.sz]; exact hj), if_neg (by omega)]; exact h.pr k hk⟩
theorem SB.bub (h : SB κ a₀ pd lo f st) {src d : Nat} (hs : src < a₀.size) (hd : lo + d ≤ src) : SB κ a₀ pd lo f (setArr st (bubble (arrOf st) src d)) :=
  ⟨(bubble_perm _ _ _).trans h.pm, h.kd, h.fl, h.pe, fun k hk => by
    show (bubble (arrOf st) src d)[k]? = _
    rw [getElem?_bubble (by rw [h.sz]; exact hs) d (by omega), if_neg (by omega), if_neg (by omega)]; exact h.pr k hk⟩
theorem SB.el (h : SB κ a₀ pd lo f st) {P : Keyed → Prop} (hP : ∀ x ∈ a₀.toList, P x) {i : Nat} (hi : i < a₀.size) : ∃ x, (arrOf st)[i]? = some x ∧ P x := by
  have hi' : i < (arrOf st).size := by rw [h.sz]; exact hi
  exact ⟨(arrOf st)[i], getElem?_pos _ i hi', hP _ ((Array.perm_iff_toList_perm.mp h.pm).mem_iff.mp (by simp))⟩
end
section
variable {prog : Program} {w : World} {A : Around} {E : Value → Shared → Prop} {s : Shared} {κ : SortKind} {P : Keyed → Prop} {O : KeyOrd} {key : Keyed → O.α} {a₀ : Array Keyed} {pd : Array (Nat × Nat × Nat)} {lo : Nat} {f : Nat → Option Keyed}
def Up (key : Keyed → O.α) (xs : Array Keyed) (lo k : Nat) : Prop := ∀ i j, i ≤ j → j < k → O.kle (kAt key xs (lo + i)) (kAt key xs (lo + j))
def Dn (key : Keyed → O.α) (xs : Array Keyed) (lo k : Nat) : Prop := ∀ i j, i ≤ j → j < k → O.kle (kAt key xs (lo + j)) (kAt key xs (lo + i))
theorem ltAt_ok {st : SortSt} {i j : Nat} {Q : Option Bool → SortSt → Prop} (C : Ord (model prog w) A E s κ P O key) (hP : ∀ x ∈ a₀.toList, P x) (hB : SB κ a₀ pd lo f st) (hi : i < a₀.size) (hj : j < a₀.size)
    (h : Q (some (O.blt (kAt key (arrOf st) i) (kAt key (arrOf st) j))) st) : wpS (model prog w) A E s (ltAt' i j) Q st := by
  obtain ⟨x, e1, px⟩ := hB.el hP hi
  obtain ⟨y, e2, py⟩ := hB.el hP hj
  rw [ltAt'_eq]
  refine wpS_bind (wpS_get ?_); dsimp only; rw [elem'_eq, elem'_eq, e1, e2]
  refine wpS_bind (wpS_pure (wpS_bind (wpS_pure (C x y px py st Q hB.kd ?_))))
  unfold kAt at h; rw [e1, e2] at h; exact h
theorem binSort_ok {st : SortSt} {n ok : Nat} {Q : Bool → SortSt → Prop} (C : Ord (model prog w) A E s κ P O key) (hP : ∀ x ∈ a₀.toList, P x) (hn : lo + n ≤ a₀.size) (hok : ok ≤ n) (hB : SB κ a₀ pd lo f st) (hs : Up key (arrOf st) lo ok)
    (h : ∀ st', SB κ a₀ pd lo f st' → Up key (arrOf st') lo n → Q true st') : wpS (model prog w) A E s (binarySort' lo n ok) Q st := by
  rw [binarySort'_eq]
  refine wpS_bind (wpS_mono (wpS_forRange (I := fun k c st' => c = (none, ()) ∧ SB κ a₀ pd lo f st' ∧ Up key (arrOf st') lo (min k n)) (Q := fun c st' => c = (none, ()) ∧ SB κ a₀ pd lo f st' ∧ Up key (arrOf st') lo n) ?step ?fin ?init) ?post)
  case post => rintro c st' ⟨rfl, hB', hs'⟩; exact wpS_pure (h st' hB' hs')
  case init =>
    refine ⟨rfl, hB, fun i j hij hj => ?_⟩
    by_cases h1 : ok = 0
    · have : i = j := by omega
      subst this; exact KeyOrd.kle_refl _
    · exact hs i j hij (by omega)
  case fin => rintro c st' ⟨hc, hB', hs'⟩; rw [show min (max (max ok 1) n) n = n by omega] at hs'; exact ⟨hc, hB', hs'⟩
  case step =>
    rintro k c st' hak hkn ⟨rfl, hB', hs'⟩
    rw [show min k n = k by omega] at hs'
    have hk : lo + k < a₀.size := by omega
    refine wpS_bind (wpS_mono (wpS_forRange (I := fun x c st'' => st'' = st' ∧ ∃ l r, c = (none, l, r) ∧ l ≤ r ∧ r ≤ k ∧ r - l ≤ k - x ∧ (∀ i, i < l → O.kle (kAt key (arrOf st') (lo + i)) (kAt key (arrOf st') (lo + k))) ∧ (∀ i, r ≤ i → i < k → O.klt (kAt key (arrOf st') (lo + k)) (kAt key (arrOf st') (lo + i))))
      (Q := fun c st'' => st'' = st' ∧ ∃ l r, c = (none, l, r) ∧ l ≤ k ∧ (∀ i, i < l → O.kle (kAt key (arrOf st') (lo + i)) (kAt key (arrOf st') (lo + k))) ∧ (∀ i, l ≤ i → i < k → O.klt (kAt key (arrOf st') (lo + k)) (kAt key (arrOf st') (lo + i)))) ?istep ?ifin ?iinit) ?ipost)
    case iinit => exact ⟨rfl, 0, k, rfl, by omega, by omega, by omega, fun i hi => by omega, fun i h1 h2 => by omega⟩
    case ifin =>
      rintro c st'' ⟨rfl, l, r, rfl, hlr, hrk, hm, hlo, hhi⟩
      obtain rfl : l = r := by omega
      exact ⟨rfl, l, l, rfl, hrk, hlo, hhi⟩
    case istep =>
      rintro x c st'' _ hxk ⟨rfl, l, r, rfl, hlr, hrk, hm, hlo, hhi⟩
      dsimp only
      by_cases hge : l ≥ r
      · rw [if_pos hge]
        obtain rfl : l = r := by omega
        exact wpS_pure ⟨rfl, l, l, rfl, hrk, hlo, hhi⟩
      · rw [if_neg hge]
        refine wpS_bind (ltAt_ok C hP hB' hk (by omega) ?_)
        dsimp only
        cases hless : O.blt (kAt key (arrOf st'') (lo + k)) (kAt key (arrOf st'') (lo + (l + r) / 2)) with
        | true =>
          simp only [if_true]
          exact wpS_pure ⟨rfl, l, (l + r) / 2, rfl, by omega, by omega, by omega, hlo, fun i h1 h2 => KeyOrd.klt_of_klt_of_kle hless (hs' _ _ h1 h2)⟩
        | false =>
          simp only [Bool.false_eq_true, if_false]
          exact wpS_pure ⟨rfl, (l + r) / 2 + 1, r, rfl, by omega, by omega, by omega, fun i h1 => KeyOrd.kle_trans (hs' i ((l + r) / 2) (by omega) (by omega)) (show O.kle _ _ from hless), hhi⟩
    case ipost =>
      rintro c st'' ⟨rfl, l, r, rfl, hlk, hlo, hhi⟩
      show wpS _ _ _ _ (do moveDown' (lo + k) (lo + l); pure (ForInStep.yield (none, ()))) _ _
      rw [moveDown'_eq]
      have hks : lo + k < (arrOf st'').size := by rw [hB'.sz]; exact hk
      refine wpS_bind (wpS_modify (wpS_pure ⟨rfl, hB'.bub hk (by omega), ?_⟩))
      rw [show min (k + 1) n = k + 1 by omega]; intro i j hij hj
      show O.kle (kAt key (bubble (arrOf st'') (lo + k) (lo + k - (lo + l))) (lo + i)) (kAt key (bubble (arrOf st'') (lo + k) (lo + k - (lo + l))) (lo + j))
      rw [kAt_bub hks (by omega), kAt_bub hks (by omega), show lo + k - (lo + k - (lo + l)) = lo + l by omega]
      have prev : ∀ i, 0 < i → lo + i - 1 = lo + (i - 1) := fun i hi => by omega
      repeat' split
      all_goals first
        | (exfalso; omega)
        | exact KeyOrd.kle_refl _
        | exact hlo _ (by omega)
        | (rw [prev _ (by omega)]; exact KeyOrd.kle_of_klt (hhi _ (by omega) (by omega)))
        | exact KeyOrd.kle_of_klt (hhi _ (by omega) (by omega))
        | exact hs' _ _ (by omega) (by omega)
        | (rw [prev _ (by omega), prev _ (by omega)]; exact hs' _ _ (by omega) (by omega))
        | (rw [prev _ (by omega)]; exact hs' _ _ (by omega) (by omega))
        | (rw [prev j (by omega)]; exact hs' _ _ (by omega) (by omega))
def ascL (lo a nrem : Nat) : StateT SortSt Sem AscSt := forIn [a:nrem] ((none, a) : AscSt) fun _ c => do
    let x ← ltAt' (lo + c.snd) (lo + c.snd - 1)
    match x with
    | some smaller => if smaller = true then pure (ForInStep.done (none, c.snd)) else pure (ForInStep.yield (none, c.snd + 1))
    | _ => pure (ForInStep.done (some none, c.snd))
def tailL (lo n nrem : Nat) : StateT SortSt Sem (Option Nat) := do
  reverseSlice' lo (lo + n)
  let c ← ascL lo n nrem
  match c.fst with
  | some r => pure r
  | none => pure (some c.snd)
def descL (lo n nrem : Nat) : StateT SortSt Sem DescSt := forIn [n:nrem] ((none, n, 0) : DescSt) fun _ c => do
    let x ← ltAt' (lo + c.snd.fst) (lo + c.snd.fst - 1)
    match x with
    | some smaller =>
      if smaller = true then
        if c.snd.snd > 0 then do
          reverseSlice' (lo + c.snd.fst - (c.snd.snd + 1)) (lo + c.snd.fst)
          pure (ForInStep.yield (none, c.snd.fst + 1, 0))
        else pure (ForInStep.yield (none, c.snd.fst + 1, 0))
      else do
        let x ← ltAt' (lo + c.snd.fst - 1) (lo + c.snd.fst)
        match x with
        | some larger => if larger = true then pure (ForInStep.done (none, c.snd.fst, c.snd.snd)) else pure (ForInStep.yield (none, c.snd.fst + 1, c.snd.snd + 1))
        | _ => pure (ForInStep.done (some none, c.snd.fst, c.snd.snd))
    | _ => pure (ForInStep.done (some none, c.snd.fst, c.snd.snd))
def partL (lo n nrem : Nat) : StateT SortSt Sem (Option Nat) := do
  liftM (rule "list.sort.descending-run")
  let c ← descL lo (n + 1) nrem
  match c.fst with
  | some r => pure r
  | none =>
    if c.snd.snd > 0 then do
      reverseSlice' (lo + c.snd.fst - (c.snd.snd + 1)) (lo + c.snd.fst)
      tailL lo c.snd.fst nrem
    else tailL lo c.snd.fst nrem
theorem countRunL_eq (lo nrem : Nat) : countRun' lo nrem = (do
    let c ← ascL lo 1 nrem
    match c.fst with
    | some r => pure r
    | none =>
      if (c.snd == nrem) = true then pure (some c.snd)
      else if c.snd > 1 then do
        let x ← ltAt' lo (lo + c.snd - 1)
        match x with
        | some rose => if rose = true then pure (some c.snd) else do
            reverseSlice' lo (lo + c.snd)
            partL lo c.snd nrem
        | _ => pure none
      else partL lo c.snd nrem) := by
  rw [countRun'_eq]
  unfold partL tailL descL ascL
  refine congrArg (fun g => _ >>= g) (funext fun c => ?_); obtain ⟨r, n⟩ := c
  cases r with
  | some r => rfl
  | none =>
    dsimp only; split
    · rfl
    · split
      · congr 1; funext x
        cases x with
        | none => rfl
        | some rose =>
          dsimp only; split
          · rfl
          · congr 1; funext _r; congr 1; funext _u; congr 1; congr 1; funext s2; obtain ⟨r2, n2, q2⟩ := s2
            cases r2 with
            | some r2 => rfl
            | none =>
              dsimp only; split
              · congr 1; funext _v; congr 1; funext _w; congr 1; funext s3; obtain ⟨r3, n3⟩ := s3; cases r3 <;> rfl
              · congr 1; funext _w; congr 1; funext s3; obtain ⟨r3, n3⟩ := s3; cases r3 <;> rfl
      · congr 1; funext _u; congr 1; congr 1; funext s2; obtain ⟨r2, n2, q2⟩ := s2
        cases r2 with
        | some r2 => rfl
        | none =>
          dsimp only; split
          · congr 1; funext _v; congr 1; funext _w; congr 1; funext s3; obtain ⟨r3, n3⟩ := s3; cases r3 <;> rfl
          · congr 1; funext _w; congr 1; funext s3; obtain ⟨r3, n3⟩ := s3; cases r3 <;> rfl
theorem ascL_ok {st : SortSt} {a nrem : Nat} {Q : AscSt → SortSt → Prop} (C : Ord (model prog w) A E s κ P O key) (hP : ∀ x ∈ a₀.toList, P x) (hn : lo + nrem ≤ a₀.size) (ha : 1 ≤ a) (han : a ≤ nrem) (hB : SB κ a₀ pd lo f st) (hs : Up key (arrOf st) lo a)
    (h : ∀ n, a ≤ n → n ≤ nrem → Up key (arrOf st) lo n → (n = nrem ∨ O.klt (kAt key (arrOf st) (lo + n)) (kAt key (arrOf st) (lo + (n - 1)))) → Q (none, n) st) : wpS (model prog w) A E s (ascL lo a nrem) Q st := by
  unfold ascL
  refine wpS_forRange (I := fun x c st' => st' = st ∧ c = (none, x) ∧ Up key (arrOf st) lo x) ?step ?fin ⟨rfl, rfl, hs⟩
  case fin => rintro c st' ⟨rfl, rfl, hs'⟩; rw [show max a nrem = nrem by omega] at hs' ⊢; exact h nrem han (Nat.le_refl _) hs' (.inl rfl)
  case step =>
    rintro x c st' hax hxn ⟨rfl, rfl, hs'⟩
    dsimp only
    refine wpS_bind (ltAt_ok C hP hB (by omega) (by omega) ?_)
    dsimp only
    rw [show lo + x - 1 = lo + (x - 1) by omega]
    cases hless : O.blt (kAt key (arrOf st') (lo + x)) (kAt key (arrOf st') (lo + (x - 1))) with
    | true => simp only [if_true]; exact wpS_pure (h x hax (by omega) hs' (.inr hless))
    | false =>
      simp only [Bool.false_eq_true, if_false]
      refine wpS_pure ⟨rfl, rfl, fun i j hij hj => ?_⟩
      by_cases hjx : j < x
      · exact hs' i j hij hjx
      · obtain rfl : j = x := by omega
        by_cases hi' : i = j
        · subst hi'; exact KeyOrd.kle_refl _
        · exact KeyOrd.kle_trans (hs' i (j - 1) (by omega) (by omega)) hless
theorem tailL_ok {st : SortSt} {n nrem : Nat} {Q : Option Nat → SortSt → Prop} (C : Ord (model prog w) A E s κ P O key) (hP : ∀ x ∈ a₀.toList, P x) (hn : lo + nrem ≤ a₀.size) (h1 : 1 ≤ n) (hnn : n ≤ nrem) (hB : SB κ a₀ pd lo f st) (hs : Dn key (arrOf st) lo n)
    (h : ∀ m st', SB κ a₀ pd lo f st' → 1 ≤ m → m ≤ nrem → Up key (arrOf st') lo m → Q (some m) st') : wpS (model prog w) A E s (tailL lo n nrem) Q st := by
  unfold tailL
  have hsz : lo + n ≤ (arrOf st).size := by rw [hB.sz]; omega
  refine wpS_bind (wpS_reverse ?_)
  have hB' := hB.mir (Nat.le_refl lo) (j := lo + n) (by omega)
  refine wpS_bind (ascL_ok C hP hn h1 hnn hB' (fun i j hij hj => ?_) fun m hm1 hm2 hsm _ => wpS_pure (h m _ hB' (by omega) hm2 hsm))
  show O.kle (kAt key (mirror (arrOf st) lo (lo + n) ((lo + n - lo) / 2)) (lo + i)) (kAt key (mirror (arrOf st) lo (lo + n) ((lo + n - lo) / 2)) (lo + j))
  rw [kAt_mir hsz, kAt_mir hsz, if_pos (by omega), if_pos (by omega), show lo + (lo + n) - 1 - (lo + i) = lo + (n - 1 - i) by omega, show lo + (lo + n) - 1 - (lo + j) = lo + (n - 1 - j) by omega]
  exact hs _ _ (by omega) (by omega)
theorem descL_ok {st : SortSt} {n nrem : Nat} {Q : DescSt → SortSt → Prop} (C : Ord (model prog w) A E s κ P O key) (hP : ∀ x ∈ a₀.toList, P x) (hn : lo + nrem ≤ a₀.size) (h1 : 1 ≤ n) (hnn : n ≤ nrem) (hB : SB κ a₀ pd lo f st) (hs : Dn key (arrOf st) lo n)
    (h : ∀ m neq st', SB κ a₀ pd lo f st' → n ≤ m → m ≤ nrem → Dn key (arrOf st') lo m → neq + 1 ≤ m → (∀ i, m - (neq + 1) ≤ i → i < m → kAt key (arrOf st') (lo + i) = kAt key (arrOf st') (lo + (m - 1))) → Q (none, m, neq) st') :
    wpS (model prog w) A E s (descL lo n nrem) Q st := by
  unfold descL
  refine wpS_forRange (I := fun x c st' => ∃ neq, c = (none, x, neq) ∧ SB κ a₀ pd lo f st' ∧ Dn key (arrOf st') lo x ∧ neq + 1 ≤ x ∧ (∀ i, x - (neq + 1) ≤ i → i < x → kAt key (arrOf st') (lo + i) = kAt key (arrOf st') (lo + (x - 1)))) ?step ?fin
    ⟨0, rfl, hB, hs, by omega, fun i h1 h2 => by rw [show i = n - 1 by omega]⟩
  case fin => rintro c st' ⟨neq, rfl, hB', hs', hq, he⟩; rw [show max n nrem = nrem by omega] at hs' hq he ⊢; exact h nrem neq st' hB' hnn (Nat.le_refl _) hs' hq he
  case step =>
    rintro x c st' hax hxn ⟨neq, rfl, hB', hs', hq, he⟩
    dsimp only
    have hsz : lo + x ≤ (arrOf st').size := by rw [hB'.sz]; omega
    have he' : ∀ k, lo + x - (neq + 1) ≤ k → k < lo + x → kAt key (arrOf st') k = kAt key (arrOf st') (lo + x - 1) := fun k h1 h2 => by
      have := he (k - lo) (by omega) (by omega)
      rwa [show lo + (k - lo) = k by omega, show lo + (x - 1) = lo + x - 1 by omega] at this
    refine wpS_bind (ltAt_ok C hP hB' (by omega) (by omega) ?_)
    dsimp only
    rw [show lo + x - 1 = lo + (x - 1) by omega]
    cases hless : O.blt (kAt key (arrOf st') (lo + x)) (kAt key (arrOf st') (lo + (x - 1))) with
    | true =>
      simp only [if_true]
      have step1 : ∀ xs : Array Keyed, (∀ k, kAt key xs k = kAt key (arrOf st') k) → Dn key xs lo (x + 1) := by
        intro xs hk i j hij hj
        rw [hk, hk]
        by_cases hjx : j < x
        · exact hs' i j hij hjx
        · obtain rfl : j = x := by omega
          by_cases hi' : i = j
          · subst hi'; exact KeyOrd.kle_refl _
          · exact KeyOrd.kle_trans (KeyOrd.kle_of_klt hless) (hs' i (j - 1) (by omega) (by omega))
      by_cases hneq : neq > 0
      · rw [if_pos hneq]
        exact wpS_bind (wpS_reverse (wpS_pure ⟨0, rfl, hB'.mir (by omega) (by omega), step1 _ (kAt_mir_eq hsz he'), by omega, fun i h1 h2 => by rw [show i = x + 1 - 1 by omega]⟩))
      · rw [if_neg hneq]
        exact wpS_pure ⟨0, rfl, hB', step1 _ (fun _ => rfl), by omega, fun i h1 h2 => by rw [show i = x + 1 - 1 by omega]⟩
    | false =>
      simp only [Bool.false_eq_true, if_false]
      refine wpS_bind (ltAt_ok C hP hB' (by omega) (by omega) ?_)
      dsimp only
      cases hlarger : O.blt (kAt key (arrOf st') (lo + (x - 1))) (kAt key (arrOf st') (lo + x)) with
      | true => simp only [if_true]; exact wpS_pure (h x neq st' hB' hax (by omega) hs' hq he)
      | false =>
        simp only [Bool.false_eq_true, if_false]
        have heqx : kAt key (arrOf st') (lo + x) = kAt key (arrOf st') (lo + (x - 1)) := KeyOrd.kle_antisymm hlarger hless
        refine wpS_pure ⟨neq + 1, rfl, hB', fun i j hij hj => ?_, by omega, fun i h1 h2 => ?_⟩
        · by_cases hjx : j < x
          · exact hs' i j hij hjx
          · obtain rfl : j = x := by omega
            by_cases hi' : i = j
            · subst hi'; exact KeyOrd.kle_refl _
            · rw [heqx]; exact hs' i (j - 1) (by omega) (by omega)
        · rw [show x + 1 - 1 = x by omega]
          by_cases hix : i = x
          · subst hix; rfl
          · rw [heqx]; exact he i (by omega) (by omega)
theorem partL_ok {st : SortSt} {n nrem : Nat} {Q : Option Nat → SortSt → Prop} (C : Ord (model prog w) A E s κ P O key) (hP : ∀ x ∈ a₀.toList, P x) (hn : lo + nrem ≤ a₀.size) (hnn : n + 1 ≤ nrem) (hB : SB κ a₀ pd lo f st) (hs : Dn key (arrOf st) lo (n + 1))
    (h : ∀ m st', SB κ a₀ pd lo f st' → 1 ≤ m → m ≤ nrem → Up key (arrOf st') lo m → Q (some m) st') : wpS (model prog w) A E s (partL lo n nrem) Q st := by
  unfold partL
  refine wpS_bind (wpS_lift (wpAny_rule ⟨rfl, ?_⟩)); refine wpS_bind (descL_ok C hP hn (by omega) hnn hB hs fun m neq st' hB' hm1 hm2 hs' hq he => ?_)
  dsimp only
  have hsz : lo + m ≤ (arrOf st').size := by rw [hB'.sz]; omega
  have he' : ∀ k, lo + m - (neq + 1) ≤ k → k < lo + m → kAt key (arrOf st') k = kAt key (arrOf st') (lo + m - 1) := fun k h1 h2 => by
    have := he (k - lo) (by omega) (by omega)
    rwa [show lo + (k - lo) = k by omega, show lo + (m - 1) = lo + m - 1 by omega] at this
  by_cases hneq : neq > 0
  · rw [if_pos hneq]
    refine wpS_bind (wpS_reverse (tailL_ok C hP hn (by omega) hm2 (hB'.mir (by omega) (by omega)) (fun i j hij hj => ?_) h))
    show O.kle (kAt key (mirror (arrOf st') _ _ _) (lo + j)) (kAt key (mirror (arrOf st') _ _ _) (lo + i))
    rw [kAt_mir_eq hsz he', kAt_mir_eq hsz he']; exact hs' i j hij hj
  · rw [if_neg hneq]; exact tailL_ok C hP hn (by omega) hm2 hB' hs' h
theorem countRun_ok {st : SortSt} {nrem : Nat} {Q : Option Nat → SortSt → Prop} (C : Ord (model prog w) A E s κ P O key) (hP : ∀ x ∈ a₀.toList, P x) (hn : lo + nrem ≤ a₀.size) (h1 : 1 ≤ nrem) (hB : SB κ a₀ pd lo f st)
    (h : ∀ m st', SB κ a₀ pd lo f st' → 1 ≤ m → m ≤ nrem → Up key (arrOf st') lo m → Q (some m) st') : wpS (model prog w) A E s (countRun' lo nrem) Q st := by
  rw [countRunL_eq]
  refine wpS_bind (ascL_ok C hP hn (Nat.le_refl 1) h1 hB (fun i j hij hj => by have : i = j := (by omega); subst this; exact KeyOrd.kle_refl _) fun n hn1 hn2 hsn hor => ?_); dsimp only
  by_cases hnn : n = nrem
  · rw [if_pos (by simpa using hnn)]; exact wpS_pure (h n st hB hn1 hn2 hsn)
  · rw [if_neg (by simpa using hnn)]
    have hlt : O.klt (kAt key (arrOf st) (lo + n)) (kAt key (arrOf st) (lo + (n - 1))) := hor.resolve_left hnn
    by_cases hgt : n > 1
    · rw [if_pos hgt]
      refine wpS_bind (ltAt_ok C hP hB (by omega) (by omega) ?_)
      dsimp only
      cases hrose : O.blt (kAt key (arrOf st) lo) (kAt key (arrOf st) (lo + n - 1)) with
      | true => simp only [if_true]; exact wpS_pure (h n st hB hn1 hn2 hsn)
      | false =>
        simp only [Bool.false_eq_true, if_false]
        have hsz : lo + n ≤ (arrOf st).size := by rw [hB.sz]; omega
        have hall : ∀ k, lo ≤ k → k < lo + n → kAt key (arrOf st) k = kAt key (arrOf st) (lo + n - 1) := fun k h1 h2 => by
          have a1 := hsn 0 (k - lo) (by omega) (by omega)
          have a2 := hsn (k - lo) (n - 1) (by omega) (by omega)
          rw [show lo + (k - lo) = k by omega, show lo + 0 = lo by omega] at a1
          rw [show lo + (k - lo) = k by omega, show lo + (n - 1) = lo + n - 1 by omega] at a2
          exact KeyOrd.kle_antisymm a2 (KeyOrd.kle_trans hrose a1)
        refine wpS_bind (wpS_reverse (partL_ok C hP hn (by omega) (hB.mir (Nat.le_refl _) (by omega)) (fun i j hij hj => ?_) h))
        show O.kle (kAt key (mirror (arrOf st) _ _ _) (lo + j)) (kAt key (mirror (arrOf st) _ _ _) (lo + i))
        rw [kAt_mir_eq hsz hall, kAt_mir_eq hsz hall]
        by_cases hjn : j < n
        · rw [hall _ (by omega) (by omega), hall (lo + i) (by omega) (by omega)]; exact KeyOrd.kle_refl _
        · obtain rfl : j = n := by omega
          by_cases hi' : i = j
          · subst hi'; exact KeyOrd.kle_refl _
          · rw [hall (lo + i) (by omega) (by omega), show lo + j - 1 = lo + (j - 1) by omega]; exact KeyOrd.kle_of_klt hlt
    · rw [if_neg hgt]
      obtain rfl : n = 1 := by omega
      refine partL_ok C hP hn (by omega) hB (fun i j hij hj => ?_) h
      by_cases hi' : i = j
      · subst hi'; exact KeyOrd.kle_refl _
      · obtain rfl : i = 0 := by omega
        obtain rfl : j = 1 := by omega
        exact KeyOrd.kle_of_klt hlt
end
end Srt

set_option Elab.async false
set_option linter.all false
set_option maxRecDepth 100000
namespace Srt
open PySem PySem.Spec PyProof.Rows L2
section
variable {prog : Program} {w : World} {A : Around} {E : Value → Shared → Prop} {s : Shared} {κ : SortKind} {P : Keyed → Prop} {O : KeyOrd} {key : Keyed → O.α} {a₀ : Array Keyed} {pd : Array (Nat × Nat × Nat)} {lo : Nat} {f : Nat → Option Keyed}
theorem sortRuns_few {st : SortSt} {Q : Unit → SortSt → Prop} (C : Ord (model prog w) A E s κ P O key) (hP : ∀ x ∈ a₀.toList, P x) (hB : SB κ a₀ #[] 0 f st) (h2 : 2 ≤ a₀.size) (h64 : a₀.size < 64)
    (h : ∀ st', (arrOf st').Perm a₀ → failedOf st' = none → Up key (arrOf st') 0 a₀.size → Q () st') : wpS (model prog w) A E s sortRuns' Q st := by
  have hmr : minRun' a₀.size a₀.size 0 = a₀.size := by
    obtain ⟨n, hn⟩ : ∃ n, a₀.size = n + 1 := ⟨a₀.size - 1, by omega⟩
    have : minRun' (n + 1) a₀.size 0 = a₀.size := by rw [minRun'_succ, if_pos h64]; rfl
    rwa [← hn] at this
  let Dn' : SortSt → Prop := fun st' => (arrOf st').Perm a₀ ∧ failedOf st' = none ∧ pendingOf st' = #[(0, a₀.size, 0)] ∧ Up key (arrOf st') 0 a₀.size
  have dn : ∀ st', SB κ a₀ #[] 0 f st' → Up key (arrOf st') 0 a₀.size → Dn' (setPending st' ((pendingOf st').push (0, a₀.size, 0))) := fun st' hB' hu => ⟨hB'.pm, hB'.fl, by show (pendingOf st').push _ = _; rw [hB'.pe]; rfl, hu⟩
  rw [sortRuns'_eq]
  refine wpS_bind (wpS_get ?_); dsimp only
  simp only [hB.sz, hmr]
  refine wpS_bind (wpS_mono (wpS_forRange (I := fun x c st' => (x = 0 ∧ c = (none, 0) ∧ SB κ a₀ #[] 0 f st') ∨ (1 ≤ x ∧ c = (none, a₀.size) ∧ Dn' st')) (Q := fun c st' => c = (none, a₀.size) ∧ Dn' st') ?step ?fin (.inl ⟨rfl, rfl, hB⟩)) ?post)
  case fin => rintro c st' (⟨hx, _, _⟩ | ⟨_, hc, hD⟩) <;> first | (exfalso; omega) | exact ⟨hc, hD⟩
  case step =>
    rintro x c st' _ hx (⟨rfl, rfl, hB'⟩ | ⟨hx1, rfl, hD⟩)
    · dsimp only; rw [if_neg (by omega)]; simp only [Nat.sub_zero, Nat.min_self, Nat.zero_add]
      refine wpS_bind (countRun_ok C hP (by omega) (by omega) hB' fun m st2 hB2 hm1 hm2 hs2 => ?_); dsimp only
      by_cases hlt : m < a₀.size
      · rw [if_pos hlt]; refine wpS_bind (wpS_lift (wpAny_rule ⟨rfl, ?_⟩))
        refine wpS_bind (binSort_ok C hP (by omega) hm2 hB2 hs2 fun st3 hB3 hs3 => ?_)
        simp only [Bool.not_true, Bool.false_eq_true, if_false]; refine wpS_bind (wpS_get ?_)
        rw [show (pendingOf st3).back? = none by rw [hB3.pe]; rfl]; dsimp only
        exact wpS_bind (wpS_modify (wpS_pure (.inr ⟨by omega, rfl, dn st3 hB3 hs3⟩)))
      · rw [if_neg hlt]
        obtain rfl : m = a₀.size := by omega
        refine wpS_bind (wpS_get ?_); rw [show (pendingOf st2).back? = none by rw [hB2.pe]; rfl]; dsimp only
        exact wpS_bind (wpS_modify (wpS_pure (.inr ⟨by omega, rfl, dn st2 hB2 hs2⟩)))
    · dsimp only; rw [if_pos (Nat.le_refl _)]; exact wpS_pure ⟨rfl, hD⟩
  case post =>
    rintro c st' ⟨rfl, hD⟩; dsimp only
    refine wpS_bind (wpS_mono (wpS_forRange (I := fun _ c st'' => st'' = st' ∧ c = (none, ())) (Q := fun c st'' => st'' = st' ∧ c = (none, ())) ?_ (fun _ _ hh => hh) ⟨rfl, rfl⟩) ?_)
    · rintro x c st'' _ _ ⟨rfl, rfl⟩; refine wpS_bind (wpS_get ?_); rw [if_pos (by rw [hD.2.2.1]; exact Nat.le_refl 1)]; exact wpS_pure ⟨rfl, rfl⟩
    · rintro c st'' ⟨rfl, rfl⟩; exact wpS_pure (h _ hD.1 hD.2.1 hD.2.2.2)
abbrev sHeap (h : Heap) (a : Addr) (vs : List Value) : Heap := ((h.update a (Obj.mapSeq fun _ => #[])).push (seqObj "tuple" vs.toArray 0)).push (seqObj "list" #[] 0)
theorem sort_at {a : Addr} {vs : List Value} {n : Nat} {R : Fin → Shared → Prop} (ho : s.heap.get? a = some (seqObj "list" vs.toArray n)) (hz : vs.length ≤ sizeLine)
    (hk : 2 ≤ vs.length → ∀ (Q : SortKind → Shared → Prop), Q κ { s with heap := sHeap s.heap a vs } → wpAny (model prog w) A (keyKind' vs.toArray) Q E { s with heap := sHeap s.heap a vs })
    (C : Ord (model prog w) A E { s with heap := sHeap s.heap a vs } κ P O key) (hP : ∀ v ∈ vs, P (v, v)) (h64 : vs.length < 64)
    (h : ∀ out : Array Keyed, out.Perm (pairsOf vs) → Up key out 0 vs.length → R (.done (.ret .none)) { s with heap := sortedHeap s.heap a vs (out.map (·.2)) }) :
    wpAny (model prog w) A (Builtin.«list.sort» ⟨[.ref a], []⟩) R E s := by
  have ha : a < s.heap.objs.size := Heap.lt_size ho
  have sz : vs.toArray.size = vs.length := by simp
  rw [list_sort_plain]
  refine wpAny_bind (listItems_at ho rfl (wpAny_bind (listUpdate_at ho rfl ?_ (by rw [sz]; exact hz))))
  obtain ⟨e1, ho1⟩ : ∃ e1, (s.heap.update a (Obj.mapSeq fun _ => #[])).get? a = some (seqObj "list" #[] e1) := ⟨_, get?_update_seq ho (fun _ => #[])⟩
  refine wpAny_bind (seqEpoch_at ho1 rfl (wpAny_bind (wpAny_newTuple ?_ (by simpa using hz)))); refine wpAny_bind (wpAny_newList ?_); refine wpAny_holding ?_
  have ho6 : (sHeap s.heap a vs).get? a = some (seqObj "list" #[] e1) := by
    rw [Heap.get?_push_ne _ _ _ (by rw [size_push', Heap.size_update]; exact Nat.ne_of_lt (Nat.lt_succ_of_lt ha)), Heap.get?_push_ne _ _ _ (by rw [Heap.size_update]; exact Nat.ne_of_lt ha)]; exact ho1
  show wpAny (model prog w) A _ R E { s with heap := sHeap s.heap a vs }
  dsimp only
  have fits : ∀ out : Array Keyed, out.Perm (pairsOf vs) → (out.map (·.2)).size ≤ sizeLine + 1 := fun out p => by rw [Array.size_map, p.size_eq, pairsOf_size]; omega
  by_cases h2 : vs.toArray.size < 2
  · rw [if_pos h2, if_pos h2]
    refine wpAny_bind (wpAny_pure ?_); rw [StateT.run_pure]; refine wpAny_bind (wpAny_pure ?_); dsimp only
    refine wpAny_bind (seqEpoch_at ho6 rfl (wpAny_bind (listUpdate_at ho6 rfl ?_ (by show 0 ≤ sizeLine; exact Nat.zero_le _) (by exact fits (pairsOf vs) (Array.Perm.refl _)))))
    simp only [bne_self_eq_false, Bool.false_eq_true, if_false]
    refine wpAny_pure (h (pairsOf vs) (Array.Perm.refl _) fun i j hij hj => ?_)
    obtain rfl : i = j := by omega
    exact KeyOrd.kle_refl _
  · rw [if_neg h2, if_neg h2]
    refine wpAny_bind (hk (by omega) _ ?_)
    refine wpAny_bind (wpAny_mono (sortRuns_few (a₀ := pairsOf vs) (f := fun _ => none) (st := SortSt.mk' κ (vs.toArray.zip vs.toArray) #[] 7 none)
      (Q := fun _ st' => (arrOf st').Perm (pairsOf vs) ∧ failedOf st' = none ∧ Up key (arrOf st') 0 (pairsOf vs).size) C (fun x hx => ?_) ⟨Array.Perm.refl _, rfl, rfl, rfl, fun k hk => absurd hk (by omega)⟩ (by rw [pairsOf_size]; omega) (by rw [pairsOf_size]; exact h64) fun st' a1 a2 a3 => ⟨a1, a2, a3⟩) ?_ fun _ _ e => e)
    · rw [pairsOf_toList] at hx
      have := mem_zip_self hx
      have e : x = (x.1, x.1) := Prod.ext rfl this.1.symm
      rw [e]; exact hP _ this.2
    · rintro ⟨⟨⟩, st'⟩ s' ⟨rfl, hp, hf, hs⟩
      dsimp only
      refine wpAny_bind (seqEpoch_at ho6 rfl (wpAny_bind (listUpdate_at ho6 rfl ?_ (by show 0 ≤ sizeLine; exact Nat.zero_le _) (by exact fits _ hp))))
      rw [hf]; simp only [bne_self_eq_false, Bool.false_eq_true, if_false]
      exact wpAny_pure (h _ hp (by rw [← pairsOf_size vs]; exact hs))
end
def lx : List Int → List Int → Bool
  | [], [] => false
  | [], _ :: _ => true
  | _ :: _, [] => false
  | a :: r, b :: q => if a = b then lx r q else decide (a < b)
theorem lx_irr : ∀ a, lx a a = false
  | [] => rfl
  | a :: r => by unfold lx; rw [if_pos rfl]; exact lx_irr r
theorem lx_tr : ∀ a b c, lx a b = true → lx b c = true → lx a c = true
  | [], [], _, h, _ => by cases h
  | [], _ :: _, [], _, h => by cases h
  | [], _ :: _, _ :: _, _, _ => rfl
  | _ :: _, [], _, h, _ => by cases h
  | _ :: _, _ :: _, [], _, h => by cases h
  | a :: r, b :: q, c :: t, h1, h2 => by
    unfold lx at h1 h2 ⊢
    by_cases e1 : a = b
    · subst e1
      rw [if_pos rfl] at h1
      by_cases e2 : a = c
      · subst e2
        rw [if_pos rfl] at h2 ⊢
        exact lx_tr r q t h1 h2
      · rw [if_neg e2] at h2 ⊢; exact h2
    · rw [if_neg e1] at h1
      have h1 := of_decide_eq_true h1
      by_cases e2 : b = c
      · subst e2; rw [if_neg e1]; exact decide_eq_true h1
      · rw [if_neg e2] at h2
        have h2 := of_decide_eq_true h2
        rw [if_neg (by omega)]; exact decide_eq_true (by omega)
theorem lx_neg : ∀ a b c, lx a c = true → lx a b = true ∨ lx b c = true
  | [], _, [], h => by cases h
  | [], [], _ :: _, _ => .inr rfl
  | [], _ :: _, _ :: _, _ => .inl rfl
  | _ :: _, _, [], h => by cases h
  | _ :: _, [], _ :: _, _ => .inr rfl
  | a :: r, b :: q, c :: t, h => by
    unfold lx at h ⊢
    by_cases e : a = c
    · subst e
      rw [if_pos rfl] at h
      by_cases e1 : a = b
      · subst e1; rw [if_pos rfl, if_pos rfl]; exact lx_neg r q t h
      · rw [if_neg e1, if_neg (Ne.symm e1)]
        rcases Int.lt_or_gt_of_ne e1 with z | z
        · exact .inl (decide_eq_true z)
        · exact .inr (decide_eq_true z)
    · rw [if_neg e] at h
      have h := of_decide_eq_true h
      by_cases e1 : a = b
      · subst e1; right; rw [if_neg e]; exact decide_eq_true h
      · by_cases e2 : b = c
        · subst e2; left; rw [if_neg e1]; exact decide_eq_true h
        · rw [if_neg e1, if_neg e2]
          rcases Int.lt_or_gt_of_ne e1 with z | z
          · exact .inl (decide_eq_true z)
          · exact .inr (decide_eq_true (by omega))
theorem lx_tot : ∀ a b, lx a b = false → lx b a = false → a = b
  | [], [], _, _ => rfl
  | [], _ :: _, h, _ => by cases h
  | _ :: _, [], _, h => by cases h
  | a :: r, b :: q, h1, h2 => by
    unfold lx at h1 h2
    by_cases e : a = b
    · subst e
      rw [if_pos rfl] at h1 h2
      rw [lx_tot r q h1 h2]
    · rw [if_neg e] at h1
      rw [if_neg (Ne.symm e)] at h2
      have h1 := of_decide_eq_false h1
      have h2 := of_decide_eq_false h2
      omega
def LX : KeyOrd := ⟨List Int, lx, lx_irr, lx_tr, lx_neg, lx_tot⟩
def rowOf (h : Heap) (v : Value) : List Int := match v with
  | .ref a => match h.get? a with
    | some o => match o.data with
      | .seq xs _ => xs.toList.map numOf
      | _ => []
    | none => []
  | _ => []
def IsRow (T : String) (h : Heap) (v : Value) : Prop := ∃ a o xs n, v = .ref a ∧ h.get? a = some o ∧ o.cls = .type T ∧ o.data = .seq xs n ∧ ∀ u ∈ xs.toList, ∃ i t, u = .int i t
theorem rowOf_at {h : Heap} {a : Addr} {o : Obj} {xs : Array Value} {n : Nat} (g : h.get? a = some o) (d : o.data = .seq xs n) : rowOf h (.ref a) = xs.toList.map numOf := by unfold rowOf; simp only [g, d]
section
variable {prog : Program} {w : World} {A : Around} {E : Value → Shared → Prop} {s : Shared} {fin : Bool} {Q : Bool → Shared → Prop}
theorem kat_ints : ∀ (xs ys : List Value) (i : Nat), (∀ u ∈ xs, ∃ i t, u = .int i t) → (∀ u ∈ ys, ∃ i t, u = .int i t) → fin = decide (xs.length < ys.length) → Q (lx (xs.map numOf) (ys.map numOf)) s → PySem.W.KatLex prog w A true fin Q (xs.zip ys) i s
  | [], ys, i, _, _, hf, q => by
    rw [List.zip_nil_left]
    refine PySem.W.kat_nil ?_
    rw [hf]
    cases ys with
    | nil => exact q
    | cons y r => exact q
  | x :: r, [], i, _, _, hf, q => by
    rw [List.zip_nil_right]
    refine PySem.W.kat_nil ?_
    rw [hf]; exact q
  | x :: r, y :: t, i, hx, hy, hf, q => by
    obtain ⟨a, ta, rfl⟩ := hx x List.mem_cons_self
    obtain ⟨b, tb, rfl⟩ := hy y List.mem_cons_self
    rw [List.zip_cons_cons]
    refine PySem.W.kat_cons (wpAny_eqBool_int ?_)
    have e : lx ((Value.int a ta :: r).map numOf) ((Value.int b tb :: t).map numOf) = if a = b then lx (r.map numOf) (t.map numOf) else decide (a < b) := rfl
    rw [e] at q
    by_cases hab : a = b
    · subst hab
      rw [if_pos rfl] at q
      rw [show (a == a) = true from beq_self_eq_true a]
      exact PySem.W.kat_yes (kat_ints r t (i + 1) (fun u hu => hx u (List.mem_cons_of_mem _ hu)) (fun u hu => hy u (List.mem_cons_of_mem _ hu)) (by rw [hf]; simp) q)
    · rw [if_neg hab] at q
      rw [show (a == b) = false from beq_eq_false_iff_ne.mpr hab]
      refine PySem.W.kat_no ?_
      by_cases hi : i = 0
      · subst hi
        exact oneLt_int q
      · have : (true && i == 0) = false := by simp [hi]
        rw [this]
        exact PySem.W.kat_one _ _ (wpAny_lt_int q)
theorem ord_tups : Ord (model prog w) A E s (tuples' true) (fun x => IsRow "tuple" s.heap x.1) LX (fun x => rowOf s.heap x.1) := by
  rintro ⟨x, x'⟩ ⟨y, y'⟩ ⟨a, o, xs, n, rfl, g, _, d, hx⟩ ⟨b, p, ys, m, rfl, g', _, d', hy⟩ st Q hk q
  rw [lt'_eq]
  refine wpS_bind (wpS_get ?_)
  rw [hk]
  refine wpS_bind (wpS_lift (wpAny_attempt (PySem.W.kat_lt g d g' d' (kat_ints _ _ 0 hx hy (by simp) ⟨rfl, wpS_pure ?_⟩))))
  have e : LX.blt (rowOf s.heap (.ref a)) (rowOf s.heap (.ref b)) = lx (xs.toList.map numOf) (ys.toList.map numOf) := by rw [rowOf_at g d, rowOf_at g' d']; rfl
  rw [← e]; exact q
theorem kind_tups {vs : List Value} {Q : SortKind → Shared → Prop} (h2 : 2 ≤ vs.length) (hr : ∀ v ∈ vs, IsRow "tuple" s.heap v ∧ rowOf s.heap v ≠ []) (q : Q (tuples' true) s) : wpAny (model prog w) A (keyKind' vs.toArray) Q E s := by
  have : ∃ fs, PySem.W.KatTups s.heap vs fs ∧ fs.length = vs.length ∧ ∀ v ∈ fs, ∃ i t, v = Value.int i t := by
    clear h2 q
    induction vs with
    | nil => exact ⟨[], PySem.W.KatTups.nil, rfl, fun v hv => nomatch hv⟩
    | cons v r ih =>
      obtain ⟨fs, h1, h2, h3⟩ := ih fun u hu => hr u (List.mem_cons_of_mem _ hu)
      obtain ⟨⟨a, o, xs, n, rfl, g, c, d, hx⟩, hn⟩ := hr v List.mem_cons_self
      rw [rowOf_at g d] at hn
      obtain ⟨l, rfl⟩ : ∃ l : List Value, xs = ⟨l⟩ := ⟨xs.toList, rfl⟩
      cases l with
      | nil => exact absurd rfl hn
      | cons u l =>
        refine ⟨u :: fs, PySem.W.KatTups.cons g c d rfl h1, by simp [h2], fun z hz => ?_⟩
        rcases List.mem_cons.mp hz with rfl | hz
        · exact hx _ List.mem_cons_self
        · exact h3 z hz
  obtain ⟨fs, h1, h3, h4⟩ := this
  refine PySem.W.kat_kind (T := .type "int") h1 (by omega) (fun v hv => ?_) (by decide) q
  obtain ⟨i, t, rfl⟩ := h4 v hv
  exact PySem.W.Looks.of_pure rfl
end
end Srt

set_option Elab.async false
set_option linter.all false
set_option maxRecDepth 100000
namespace Srt
open PySem PySem.Spec PyProof.Rows L2
theorem sHeap_old {h : Heap} {a b : Addr} {vs : List Value} {o : Obj} (hb : h.get? b = some o) (ne : b ≠ a) : (sHeap h a vs).get? b = some o := by
  have hlt := Heap.lt_size hb
  rw [Heap.get?_push_ne _ _ _ (by rw [size_push', Heap.size_update]; exact Nat.ne_of_lt (Nat.lt_succ_of_lt hlt)), Heap.get?_push_ne _ _ _ (by rw [Heap.size_update]; exact Nat.ne_of_lt hlt), Heap.get?_update_ne _ _ _ _ ne]
  exact hb
theorem IsRow.keep {T : String} {h h' : Heap} {v : Value} (k : ∀ b o, h.get? b = some o → h'.get? b = some o) (r : IsRow T h v) : IsRow T h' v ∧ rowOf h' v = rowOf h v := by
  obtain ⟨a, o, xs, n, rfl, g, c, d, hx⟩ := r
  exact ⟨⟨a, o, xs, n, rfl, k _ _ g, c, d, hx⟩, by rw [rowOf_at g d, rowOf_at (k _ _ g) d]⟩
abbrev Asc (l : List (List Int)) : Prop := l.Pairwise fun a b => lx b a = false
theorem up_asc {h : Heap} {vs : List Value} {out : Array Keyed} (p : out.Perm (pairsOf vs)) (u : Up (O := LX) (fun x => rowOf h x.1) out 0 vs.length) :
    (out.map (·.2)).toList.Perm vs ∧ Asc (((out.map (·.2)).toList).map (rowOf h)) := by
  have hl : out.toList.Perm (vs.zip vs) := by rw [← pairsOf_toList]; exact Array.perm_iff_toList_perm.mp p
  have sz : out.size = vs.length := by rw [p.size_eq, pairsOf_size]
  have e12 : ∀ x ∈ out.toList, x.1 = x.2 := fun x hx => (mem_zip_self (hl.mem_iff.mp hx)).1
  have e : (out.map (·.2)).toList = out.toList.map (·.1) := by rw [Array.toList_map]; exact List.map_congr_left fun x hx => (e12 x hx).symm
  rw [e]
  refine ⟨?_, ?_⟩
  · have := hl.map Prod.fst
    rwa [List.map_fst_zip (Nat.le_refl _)] at this
  · rw [Asc, List.pairwise_iff_getElem]
    intro i j hi hj hij
    simp only [List.length_map, Array.length_toList] at hi hj
    have := u i j (by omega) (by omega)
    simp only [KeyOrd.kle, kAt, Nat.zero_add, Array.getElem?_eq_getElem hi, Array.getElem?_eq_getElem hj, Option.getD_some] at this
    simpa [LX] using this
section
variable {prog : Program} {w : World} {A : Around} {E : Value → Shared → Prop} {s : Shared} {Q : Value → Shared → Prop}
theorem sorted_rows {r : Addr} {its : List Value} (hcol : ∀ (R : List Value → Shared → Prop), (∀ h' tk, (∀ b o, s.heap.get? b = some o → h'.get? b = some o) → s.heap.objs.size ≤ h'.objs.size → R its { s with heap := h', toks := tk }) → wpAny (model prog w) A.in1 (collect (.ref r)) R E s)
    (hr : ∀ v ∈ its, IsRow "tuple" s.heap v) (hne : 2 ≤ its.length → ∀ v ∈ its, rowOf s.heap v ≠ []) (h64 : its.length < 64) (hz : its.length ≤ sizeLine)
    (hQ : ∀ D h' tk out c, (∀ b o, s.heap.get? b = some o → h'.get? b = some o) → s.heap.objs.size ≤ D → h'.get? D = some (seqObj "list" (out : List Value).toArray c) → out.Perm its → Asc (out.map (rowOf s.heap)) → Q (.ref D) { s with heap := h', toks := tk }) :
    wpAny (model prog w) A (call (.builtin "sorted") [.ref r]) Q E s := by
  refine Calls.call_function_entry kind_sorted plain_sorted entry_sorted (args_sorted1 _) ?_
  unfold Builtin.«sorted»; refine wpAny_bind (m := checkCount "sorted" 1 1 _) (wpAny_pure (wpAny_bind (hcol _ fun h1 tk k1 sz1 => wpAny_bind (wpAny_newList ?_ hz))))
  have hoL : (h1.push (seqObj "list" its.toArray 0)).get? h1.objs.size = some (seqObj "list" its.toArray 0) := Heap.get?_push_size _ rfl
  have ne : ∀ b o, s.heap.get? b = some o → b ≠ h1.objs.size := fun b o e => Nat.ne_of_lt (Heap.lt_size (k1 _ _ e))
  have k6 : ∀ b o, s.heap.get? b = some o → (sHeap (h1.push (seqObj "list" its.toArray 0)) h1.objs.size its).get? b = some o := fun b o e => sHeap_old (Heap.get?_push_of_some _ (k1 _ _ e)) (ne b o e)
  have e6 : ∀ v ∈ its, rowOf (sHeap (h1.push (seqObj "list" its.toArray 0)) h1.objs.size its) v = rowOf s.heap v := fun v hv => ((hr v hv).keep k6).2
  refine wpAny_bind (wpAny_holding (wpAny_call_entry slot_list_sort (s := { s with heap := h1.push (seqObj "list" its.toArray 0), toks := tk }) ⟨_, hoL, rfl⟩ entry_list_sort
    (sort_at (s := { s with heap := h1.push (seqObj "list" its.toArray 0), toks := tk }) hoL hz (κ := tuples' true) (P := fun x => IsRow "tuple" (sHeap (h1.push (seqObj "list" its.toArray 0)) h1.objs.size its) x.1) (fun h2 Q' q => kind_tups h2 (fun v hv => ⟨((hr v hv).keep k6).1, by
      show rowOf (sHeap (h1.push (seqObj "list" its.toArray 0)) h1.objs.size its) v ≠ []
      rw [e6 v hv]; exact hne h2 v hv⟩) q) ord_tups (fun v hv => ((hr v hv).keep k6).1) h64 fun out p u => ⟨_, rfl, ?_⟩) (args_list_sort _)))
  refine wpAny_pure ⟨_, rfl, ?_⟩
  obtain ⟨p1, a1⟩ := up_asc p u
  obtain ⟨c, gD⟩ := sortedHeap_at (out := out.map (·.2)) hoL
  have ea : ((out.map (·.2)).toList).map (rowOf (sHeap (h1.push (seqObj "list" its.toArray 0)) h1.objs.size its)) = ((out.map (·.2)).toList).map (rowOf s.heap) := List.map_congr_left fun v hv => e6 v (p1.mem_iff.mp hv)
  refine hQ h1.objs.size _ tk (out.map (·.2)).toList c (fun b o e => ?_) sz1 (by rw [Array.toArray_toList]; exact gD) p1 (by rw [← ea]; exact a1)
  have e1 := Heap.get?_push_of_some (seqObj "list" its.toArray 0) (k1 _ _ e)
  exact (sortedHeap_old (ne b o e) (Heap.lt_size e1)).trans e1
theorem coll_src {R : List Value → Shared → Prop} {T : String} {r d : Addr} {n : Nat} {Pw : Nat → Value → Prop} {OK : Heap → Prop} (K : PySem.W.KdlSrc prog w T r d n Pw OK) (hh : A.handled = none) (hok : OK s.heap) (hn : n ≤ sizeLine)
    (h : ∀ (h' : Heap) (tk : Nat) (acc : Array Value), (∀ b o, s.heap.get? b = some o → h'.get? b = some o) → s.heap.objs.size ≤ h'.objs.size → ItemsOf Pw acc n → R acc.toList { s with heap := h', toks := tk }) : wpAny (model prog w) A (collect (.ref r)) R E s := by
  have hlt := K.there _ hok
  have e0 : (s.heap.push { cls := .type "list", data := .seq ([] : List Value).toArray }).get? s.heap.objs.size = some { cls := .type "list", data := .seq #[] } := Heap.get?_push_size _ rfl
  have fin : ∀ (h' : Heap) (tk : Nat) (acc : Array Value) (c : Nat), (∀ b o, s.heap.get? b = some o → h'.get? b = some o) → h'.get? s.heap.objs.size = some { cls := .type "list", dict := none, data := .seq acc c, slots := #[] } → ItemsOf Pw acc n →
      wpAny (model prog w) A (load s.heap.objs.size >>= fun o => match o.data with | .seq xs _ => pure xs.toList | _ => unsupported "internal:collect") R E { s with heap := h', toks := tk } := fun h' tk acc c hk g ha =>
    wpAny_bind (wpAny_load g (wpAny_pure (h h' tk acc hk (Nat.le_of_lt (Heap.lt_size g)) ha)))
  unfold collect; refine wpAny_bind (wpAny_runValue (codeAny_builtin entry_proto_collect' ?_)); rw [Around.under_plainId PySem.F.plain_proto_collect _]
  show wpAny _ A.in1 (newList [] >>= _) _ _ s; refine wpAny_bind (wpAny_newObj_type (wpAny_pure ⟨plainId_quiet PySem.F.plain_list_iadd _, codeAny_builtin entry_list_iadd' ?_⟩)); rw [Around.under_plainId PySem.F.plain_list_iadd _]
  refine wpAny_mono (PySem.W.kdl_extend (A := A) (s := { s with heap := s.heap.push { cls := .type "list", data := .seq ([] : List Value).toArray } }) (R := fun q s' => ∃ h' tk acc c, q = .ok (.ret (.ref s.heap.objs.size)) ∧ s' = { s with heap := h', toks := tk } ∧
      (∀ b o, s.heap.get? b = some o → h'.get? b = some o) ∧ h'.get? s.heap.objs.size = some { cls := .type "list", dict := none, data := .seq acc c, slots := #[] } ∧ ItemsOf Pw acc n) K hh (K.keep _ _ hok fun b _ o e => Heap.get?_push_of_some _ e) s.heap.objs.size (Nat.ne_of_gt hlt.1) (Nat.ne_of_gt hlt.2) (.ref s.heap.objs.size) 0 e0
      (fun h' tk acc c hk g ha => ⟨h', tk, acc, c, rfl, rfl, fun b o e => hk b o (Nat.ne_of_lt (Heap.lt_size e)) (Heap.get?_push_of_some _ e), g, ha⟩) hn) (fun fn s' x => ?_) fun e s' ⟨_, _, _, _, z, _⟩ => by cases z
  cases fn with
  | done f => obtain ⟨h', tk, acc, c, e, rfl, hk, g, ha⟩ := x; cases e; exact fin h' tk acc c hk g ha
  | again c1 => exact ⟨x.1, codeAny_mono x.2 fun q s2 ⟨h', tk, acc, c, e, e2, hk, g, ha⟩ => by subst e e2; exact fin h' tk acc c hk g ha⟩
theorem src_dict {d : Addr} {es : Array DictEntry} {ep : Nat} (hd : (d == sysModules) = false) : PySem.W.KdlSrc prog w "dict" d d es.size (fun i v => (es[i]?).map DictEntry.key = some v) (fun h => RawD h d es ep) where
  type := fun _ hm => hm.ty
  there := fun _ ⟨o, g, _⟩ => ⟨Heap.lt_size g, Heap.lt_size g⟩
  keep := fun _ _ ⟨o, g, c, z⟩ hk => ⟨o, hk d (.inl rfl) o g, c, z⟩
  notList := by decide
  notTuple := by decide
  hint := fun _ _ _ _ hm hq => PySem.W.kdl_hint_dict hm.ty hq
  iter := fun A s hh hm => ⟨{ cls := .type "dict_keyiterator", data := .fields #[.ref d, .int 0 0, .int es.size 0, .int ep 0] }, fun i h => h.IsKeyIter s.heap.objs.size d i es.size ep ∧ RawD h d es ep, (fun _ _ hq => raw_iter hd hm hq),
    { sub := fun b hb => by rw [List.mem_singleton.mp hb]; exact List.mem_cons_self
      frame := fun i h h' st hk => ⟨st.1.at fun o e => hk _ List.mem_cons_self o e, let ⟨o, g, c, z⟩ := st.2; ⟨o, hk d (by simp) o g, c, z⟩⟩
      item := fun i s1 Q1 E1 hi st hq => raw_next st.1 st.2 hi fun h' st' sb => hq _ h' s1.toks (by rw [Array.getElem?_eq_getElem hi]; rfl) ⟨st', let ⟨o, g, c, z⟩ := st.2; ⟨o, (sb.2 d (Nat.ne_of_lt (let ⟨_, g0, _⟩ := hm; Heap.lt_size g0))).trans g, c, z⟩⟩ fun b o hb e => (sb.2 b (fun z => hb (by rw [z]; exact List.mem_singleton.mpr rfl))).trans e
      done := fun s1 Q1 E1 st hq => raw_end hh st.1 st.2 (Nat.le_refl _) fun h' eb => hq h' s1.toks fun b o hb e => eb b o (fun z => hb (by rw [z]; exact List.mem_singleton.mpr rfl)) e
      self := fun i s1 Q1 E1 st hq => wpAny_pyIter_keyiter st.1 hq },
    ⟨⟨_, Heap.get?_push_size _ rfl, rfl, rfl⟩, let ⟨o, g, c, z⟩ := hm; ⟨o, Heap.get?_push_of_some _ g, c, z⟩⟩⟩
end
section
variable {X : Cx} {pins : List (Addr × Obj)} {σ : L2.St} {H : Hp} {s : Shared}
theorem row_of {P : Program} {w : World} {h : Heap} {a : Addr} {xs : List Int} (hok : HOk P w H h) (e : H a = some (.tup (List.map V.int xs))) : IsRow "tuple" h (.ref a) ∧ rowOf h (.ref a) = xs := by
  obtain ⟨_, its, r, o, g, c, n, d⟩ : _ ∧ ∃ its : List Value, Vals _ its ∧ IsTup h a its.toArray := hok a _ e
  have hi := intsAre_of r
  refine ⟨⟨a, o, its.toArray, n, rfl, g, c, d, fun u hu => hi.all u (by simpa using hu)⟩, ?_⟩
  rw [rowOf_at g d]
  exact hi.nums
def toV : Value → V
  | .ref a => .ref a
  | _ => .non
theorem vals_tups {h : Heap} : ∀ {its : List Value}, (∀ v ∈ its, ∃ a, v = .ref a ∧ H a = some (.tup (List.map V.int (rowOf h v)))) → Vals (its.map toV) its ∧ Tups H (its.map toV) (its.map (rowOf h))
  | [], _ => ⟨.nil, .nil⟩
  | v :: r, hv => by
    obtain ⟨a, rfl, ha⟩ := hv v List.mem_cons_self
    obtain ⟨h1, h2⟩ := vals_tups fun u hu => hv u (List.mem_cons_of_mem _ hu)
    exact ⟨.cons rfl h1, .cons ⟨a, rfl, ha⟩ h2⟩
def SortedOf (H : Hp) (xss : List (List Int)) (Q : VK) : Prop := ∀ D us' xss' H', Same H H' → H D = none → H' D = some (.lst us') → Tups H' us' xss' → xss'.Perm xss → Asc xss' → Q (.ref D) H'
theorem sorted_done {Q : VK} {xss : List (List Int)} {its : List Value} (I : Inv X pins σ H s) (hm : ∀ v ∈ its, ∃ a, v = .ref a ∧ H a = some (.tup (List.map V.int (rowOf s.heap v)))) (he : its.map (rowOf s.heap) = xss) (hz : its.length ≤ sizeLine) (q : SortedOf H xss Q) :
    ∀ D h' tk out c, (∀ b o, s.heap.get? b = some o → h'.get? b = some o) → s.heap.objs.size ≤ D → h'.get? D = some (seqObj "list" (out : List Value).toArray c) → out.Perm its → Asc (out.map (rowOf s.heap)) → EP X pins σ Q (.ref D) { s with heap := h', toks := tk } := by
  intro D h' tk out c hk hD g p asc
  obtain ⟨v1, t1⟩ := vals_tups (h := s.heap) fun v hv => hm v (p.mem_iff.mp hv)
  have hn := I.hok.fresh hD
  refine ⟨.ref D, _, I.laid (t' := tk) hk hD (show ObjOk X.prog X.w (upd H D (.lst (out.map toV))) h' D (.lst (out.map toV)) from ⟨by rw [List.length_map, p.length_eq]; exact hz, out, c, v1, g⟩), rfl, q D _ _ _ (same_upd hn) hn upd_same (t1.keep (same_upd hn)) ?_ asc⟩
  rw [← he]; exact p.map _
theorem dict_keys {d : Addr} {kvs : List (List Key × V)} (I : Inv X pins σ H s) (e : H d = some (.dT kvs)) : ∃ es ep, (d == sysModules) = false ∧ RawD s.heap d es ep ∧ es.size = kvs.length ∧ kvs.length ≤ sizeLine ∧
    ∀ (i : Nat) (k : List Key) (v : V), kvs[i]? = some (k, v) → ∃ b, (es[i]?).map DictEntry.key = some (Value.ref b) ∧ H b = some (.tup (k.map kV)) := by
  obtain ⟨z, hs, _, _, o, es, ep, ho, hex, hd, _⟩ := I.hok d _ e
  obtain ⟨r1, r2, r3⟩ := dt_raw (kvs := kvs) (P := X.prog) (w := X.w) (H := H) (od := o) ⟨ho, I.hok d _ e⟩ hd
  exact ⟨es, ep, hs, r1, r2, z, r3⟩
theorem keys_rows {LL : List (List Int)} {vx : List Int → V} {es : Array DictEntry} {acc : Array Value} (I : Inv X pins σ H s)
    (hk : ∀ (i : Nat) (k : List Key) (v : V), (LL.map fun xs => (kk xs, vx xs))[i]? = some (k, v) → ∃ b, (es[i]?).map DictEntry.key = some (Value.ref b) ∧ H b = some (.tup (k.map kV)))
    (ha : ItemsOf (fun i v => (es[i]?).map DictEntry.key = some v) acc LL.length) : (∀ v ∈ acc.toList, IsRow "tuple" s.heap v) ∧ acc.toList.map (rowOf s.heap) = LL ∧ ∀ v ∈ acc.toList, ∃ a, v = .ref a ∧ H a = some (.tup (List.map V.int (rowOf s.heap v))) := by
  have key : ∀ i v, acc[i]? = some v → ∃ b xs, v = .ref b ∧ LL[i]? = some xs ∧ H b = some (.tup (List.map V.int xs)) ∧ IsRow "tuple" s.heap v ∧ rowOf s.heap v = xs := fun i v hv => by
    have hi : i < LL.length := by
      have := (Array.getElem?_eq_some_iff.mp hv).1
      rw [ha.1] at this; exact this
    obtain ⟨b, e1, e2⟩ := hk i (kk LL[i]) (vx LL[i]) (by rw [List.getElem?_map, List.getElem?_eq_getElem hi]; rfl)
    have e3 : (es[i]?).map DictEntry.key = some v := ha.2 i v hv
    rw [e1] at e3
    rw [kk_kV] at e2
    have e3 := Option.some.inj e3
    subst e3
    obtain ⟨r1, r2⟩ := row_of I.hok e2
    exact ⟨b, LL[i], rfl, List.getElem?_eq_getElem hi, e2, r1, r2⟩
  have mem : ∀ v ∈ acc.toList, ∃ i, acc[i]? = some v := fun v hv => by
    obtain ⟨i, hi, e⟩ := List.getElem_of_mem hv
    exact ⟨i, by rw [← Array.getElem?_toList, List.getElem?_eq_getElem hi, e]⟩
  refine ⟨fun v hv => ?_, ?_, fun v hv => ?_⟩
  · obtain ⟨i, hi⟩ := mem v hv
    obtain ⟨_, _, _, _, _, r, _⟩ := key i v hi
    exact r
  · apply List.ext_getElem?
    intro i
    rw [List.getElem?_map, Array.getElem?_toList]
    cases e : acc[i]? with
    | none =>
      rw [Array.getElem?_eq_none_iff, ha.1] at e
      rw [List.getElem?_eq_none e]; rfl
    | some v =>
      obtain ⟨_, xs, _, e2, _, _, r⟩ := key i v e
      rw [e2, ← r]; rfl
  · obtain ⟨i, hi⟩ := mem v hv
    obtain ⟨b, xs, e1, _, e3, _, r⟩ := key i v hi
    exact ⟨b, e1, by rw [r]; exact e3⟩
theorem call_sortedD (hc : X.calm = true) : CallR X (.builtin "sorted") (fun xs H Q => ∃ (d : Addr) (LL : List (List Int)) (vx : List Int → V), xs = [.ref d] ∧ H d = some (.dT (LL.map fun xs => (kk xs, vx xs))) ∧ (2 ≤ LL.length → ∀ xs ∈ LL, xs ≠ []) ∧ LL.length < 64 ∧ SortedOf H LL Q) := by
  intro pins s σ H xs vs Q I r h
  obtain ⟨d, LL, vx, rfl, hd, hne, h64, q⟩ := h
  obtain ⟨u, rfl, rx⟩ := vals1 r
  cases rx
  obtain ⟨es, ep, hs, raw, sz, hz, hk⟩ := dict_keys I hd
  rw [List.length_map] at sz hz
  have hfix : ∃ its : List Value, ∀ acc : Array Value, ItemsOf (fun i v => (es[i]?).map DictEntry.key = some v) acc LL.length → acc.toList = its := by
    refine ⟨es.toList.map DictEntry.key, fun acc ha => ?_⟩
    apply List.ext_getElem?
    intro i
    rw [List.getElem?_map, Array.getElem?_toList, Array.getElem?_toList]
    cases e : acc[i]? with
    | none =>
      rw [Array.getElem?_eq_none_iff, ha.1, ← sz] at e
      rw [Array.getElem?_eq_none e]; rfl
    | some v => exact (ha.2 i v e).symm
  obtain ⟨its, hits⟩ := hfix
  have acc0 : ItemsOf (fun i v => (es[i]?).map DictEntry.key = some v) (es.map DictEntry.key) LL.length := ⟨by rw [Array.size_map, sz], fun j v hj => by rw [Array.getElem?_map] at hj; exact hj⟩
  obtain ⟨h1, h2, h3⟩ := keys_rows I hk acc0
  rw [hits _ acc0] at h1 h2 h3
  have hl : its.length = LL.length := by rw [← h2, List.length_map]
  refine sorted_rows (fun R hR => ?_) h1 (fun z v hv => ?_) (by omega) (by omega) (sorted_done I h3 h2 (by omega) q)
  · refine coll_src (src_dict (es := es) (ep := ep) hs) (I.ok.hd hc) raw (by omega) fun h' tk acc k1 k2 ha => ?_
    rw [sz] at ha
    rw [hits acc ha]; exact hR h' tk k1 k2
  · exact hne (by omega) _ (by rw [← h2]; exact List.mem_map_of_mem hv)
end
end Srt

set_option Elab.async false
set_option linter.all false
set_option maxRecDepth 100000
namespace L2
open PySem PySem.Spec PyProof.Rows
section
variable {X : Cx} {pos : Pos} {k v : Expr} {tk tv : TE}
def tDisp1 (tk tv : TE) : TE := fun σ H Q => ∀ p H0, Same H H0 → H p = none → H0 p = some (.dT []) → tk σ H0 fun y H1 => tv σ H1 fun z H2 => ∃ b ks, y = .ref b ∧ H2 b = some (.tup (ks.map kV)) ∧ H2 p = some (.dT []) ∧ Q (.ref p) (upd H2 p (.dT [(ks, z)]))
theorem pe_disp1 (hu : X.A.units + 1 < cLine) (hk : PE X k tk) (hv : PE X v tv) : PE X (.Dict [some k] [v] pos) (tDisp1 tk tv) := by
  intro pins s σ H Q I q
  have hn := I.hok.fresh (Nat.le_refl s.heap.objs.size)
  have I1 := I.laid (a := s.heap.objs.size) (o := .dT []) (h' := s.heap.push { cls := .type "dict", data := .dict #[] }) (t' := s.toks) (fun _ _ q => Heap.get?_push_of_some _ q) (Nat.le_refl _) (dt_empty s.heap I.big)
  rw [arm_eval_Dict, zip_pairTrees [some k] [v] X.env pos rfl rfl, dictDisplay_pairs _ (by exact fun z => nomatch z) (by show 1 < 17; decide)]
  refine wpAny_bind (wpAny_standAt (wpAny_bind ?_)); unfold subDict; refine wpAny_bind (wpAny_alloc (wpAny_bind (wpAny_holding ?_)))
  rw [if_pos (by show 1 ≤ 15; decide)]
  refine wpAny_bind (pairTrees_cons_walk (thn (hk pins _ σ _ _ I1 (q _ _ (same_upd hn) hn upd_same)) fun kv s2 ⟨y, H1, I2, ry, q2⟩ => thn (hv pins _ σ _ _ I2 q2) fun vv s3 ⟨z, H2, I3, rz, b, ks, ey, hb, hp, q3⟩ => pairTrees_nil_walk ?_))
  subst ey
  cases (show kv = Value.ref b from ry)
  obtain ⟨_, hd, xs, rel, dd⟩ := dt_of I3.hok hp
  cases rel
  refine wpAny_holding ?_
  rw [List.forIn_cons]
  refine wpAny_bind (wpAny_bind (wpAny_bind (wpAny_dictSet_heap (knd := tupleKind (mixKind X.prog X.w)) (hsz := Nat.zero_le _) (by exact Nat.lt_of_succ_lt hu) (key_of I3.hok hb) dd fun h' dd' hs => wpAny_pure ?_)))
  dsimp only; rw [List.forIn_nil]
  obtain ⟨qo, es, ep, hq, h2, h3, h4, _, h5⟩ := dd'
  refine wpAny_pure (wpAny_pure (wpAny_pure (wpAny_pure ⟨.ref s.heap.objs.size, _, d_write (ob := .dT [(ks, z)]) I3 (by rw [hp]; exact True.intro) hs ⟨qo, hq⟩ ⟨by show 1 ≤ sizeLine; decide, hd, _, ((KT.put (kvs := []) .nil ks hb rz).keeps fun c ys ec => ?_), qo, es, ep, hq, h2, h3, h4, h5⟩, rfl, q3⟩)))
  rw [upd_ne (ne_of ec hp (fun z => nomatch z))]; exact ec
end
section
variable {prog : Program} {w : World} {A : Around} {E : Value → Shared → Prop} {s : Shared}
theorem raw_pairs {nm : String} {a b : Addr} {es : Array DictEntry} {ep ep' : Nat} {Q : Bool → Shared → Prop} (ha : (a == sysModules) = false) (hb : (b == sysModules) = false) (da : RawD s.heap a es ep) (db : RawD s.heap b #[] ep') (h : Q (decide (es.size = 0)) s) :
    wpAny (model prog w) A (Builtin.Dict.samePairs nm a b) Q E s := by
  obtain ⟨oa, ga, _, xa⟩ := da
  obtain ⟨ob, gb, _, xb⟩ := db
  unfold Builtin.Dict.samePairs Builtin.Dict.showsAll
  rw [if_neg (by rw [ha]; exact Bool.false_ne_true), if_neg (by rw [hb]; exact Bool.false_ne_true)]
  refine wpAny_bind (wpAny_pure (wpAny_bind (wpAny_pure (wpAny_bind (wpAny_dictEntries ga xa ?_))))); dsimp only
  refine wpAny_bind (wpAny_dictEntries gb xb ?_)
  by_cases hz : es.size = 0
  · rw [hz, if_neg (by decide)]
    rw [decide_eq_true hz] at h
    refine wpAny_bind (wpAny_dictEpoch ga xa ?_)
    refine wpAny_bind ?_; rw [Std.Legacy.Range.forIn_eq_forIn_range']
    exact wpAny_pure (wpAny_pure h)
  · rw [if_pos (by simpa using hz)]
    rw [decide_eq_false hz] at h
    exact wpAny_bind (wpAny_rule (wpAny_pure h))
theorem raw_ne {a b : Addr} {es : Array DictEntry} {ep ep' : Nat} {Q : Value → Shared → Prop} (ha : (a == sysModules) = false) (hb : (b == sysModules) = false) (da : RawD s.heap a es ep) (db : RawD s.heap b #[] ep') (hu : A.units < cLine) (h : Q (.bool (!decide (es.size = 0))) s) :
    wpAny (model prog w) A (compareOp .NotEq (.ref a) (.ref b)) Q E s := by
  refine wpAny_richCompare_same_room (op := .NotEq) da.ty db.ty PySem.F.slot_dict_ne (wpAny_call_entry PySem.F.slot_dict_ne da.ty PySem.F.entry_dict_ne ?_ (PySem.F.args_dict_ne_2 _ _)) hu
  show wpAny _ _ (Builtin.Dict.dictSlotArgs "__ne__" ⟨[.ref a, .ref b], []⟩ >>= _) _ _ s; refine wpAny_bind ?_; unfold Builtin.Dict.dictSlotArgs; refine wpAny_bind (wpAny_notOrdered_dict da.ty ?_)
  show wpAny _ _ (pure (Value.ref a, Value.ref b)) _ _ s; refine wpAny_pure (wpAny_bind (wpAny_isInstance (T := "dict") db.ty PySem.F.sub_dict_dict ?_)); simp only [Bool.not_true, Bool.false_eq_true, if_false]
  refine wpAny_bind (wpAny_pure (wpAny_bind (wpAny_pure (wpAny_bind (raw_pairs ha hb da db (wpAny_pure ⟨_, rfl, (fun x => nomatch x), ?_⟩)))))); simpa using h
theorem raw_len {d : Addr} {es : Array DictEntry} {ep : Nat} {Q : Value → Shared → Prop} (hd : (d == sysModules) = false) (hm : RawD s.heap d es ep) (hfit : ((es.size : Nat) : Int) < 2 ^ 63) (h : ∀ t tk, Q (.int es.size t) { s with toks := tk }) :
    wpAny (model prog w) A (call (.builtin "len") [.ref d]) Q E s := by
  obtain ⟨o, g, c, x⟩ := id hm
  refine Calls.call_function_entry kind_len plain_len entry_len (args_len1 _) ?_; unfold Builtin.«len»; refine wpAny_bind (m := oneArg "len" _) (wpAny_pure ?_)
  refine wpAny_bind (m := callSpecial? (.ref d) (Str.ofString "__len__")) (wpAny_callSpecial?_slot (name := Str.ofString "__len__") hm.ty F.slot_dict_len (wpAny_call_entry F.slot_dict_len hm.ty F.entry_dict_len ?_ (F.args_dict_len_1 _)))
  show wpAny _ _ (dictSize d >>= _) _ _ s; unfold dictSize; refine wpAny_bind (wpAny_bind (wpAny_dictEntries g x (wpAny_pure ?_)))
  show wpAny _ _ (Builtin.Dict.pendingCount d >>= _) _ _ s; refine wpAny_bind (wpAny_pendingCount_other hd ?_)
  refine wpAny_bind (wpAny_mkInt (wpAny_pure ⟨_, rfl, ?_⟩)); rw [Nat.add_zero]
  refine wpAny_bind (wpAny_holding (wpAny_pure (wpAny_bind (wpAny_letGo ?_))))
  show wpAny _ _ (if ((es.size : Nat) : Int) < 0 then _ else _) _ _ _; rw [if_neg (by omega)]
  show wpAny _ _ (if ((es.size : Nat) : Int) ≥ 2 ^ 63 then _ else _) _ _ _; rw [if_neg (by omega)]
  exact wpAny_bind (wpAny_mkInt (wpAny_pure ⟨_, rfl, h _ _⟩))
end
section
variable {X : Cx}
theorem dict_raw {pins : List (Addr × Obj)} {σ : St} {H : Hp} {s : Shared} {d : Addr} {kvs : List (List Key × V)} (I : Inv X pins σ H s) (e : Rd H d (.dT kvs)) : ∃ o es ep, s.heap.get? d = some o ∧ o.ExactDict ∧ o.data = .dict es ep ∧ (d == sysModules) = false ∧ es.size = kvs.length ∧ kvs.length ≤ sizeLine := by
  obtain ⟨z, hd, xs, rel, o, es, ep, h1, h2, h3, h4, _⟩ := dt_rd I.hok e
  refine ⟨o, es, ep, h1, h2, h3, hd, ?_, z⟩
  rw [← Array.length_toList, h4, List.length_map, ← Paired.length rel]
theorem op_neDE (hu : X.A.units < cLine) : OpR X (compareOp .NotEq) (fun x y H Q => ∃ a b kvs, x = .ref a ∧ y = .ref b ∧ Rd H a (.dT kvs) ∧ H b = some (.dT []) ∧ Q (.bl (!decide (kvs = []))) H) := by
  intro pins s σ H x y v u Q I rx ry h
  obtain ⟨a, b, kvs, rfl, rfl, ha, hb, q⟩ := h
  cases rx
  cases ry
  obtain ⟨o, es, ep, g, c, d, z, sz, _⟩ := dict_raw I ha
  obtain ⟨o', es', ep', g', c', d', z', sz', _⟩ := dict_raw I (.inl hb)
  obtain rfl : es' = #[] := by exact Array.eq_empty_of_size_eq_zero sz'
  refine raw_ne z z' ⟨o, g, c.1, d⟩ ⟨o', g', c'.1, d'⟩ hu ⟨.bl (!decide (kvs = [])), H, I, ?_, q⟩
  have e : decide (es.size = 0) = decide (kvs = []) := by rw [sz, decide_eq_decide]; exact List.length_eq_zero_iff
  rw [e]; rfl
theorem call_lenDT : CallR X (.builtin "len") (fun xs H Q => ∃ a kvs, xs = [V.ref a] ∧ Rd H a (.dT kvs) ∧ Q (.int kvs.length) H) := by
  intro pins s σ H xs us Q I r h
  obtain ⟨a, kvs, rfl, ha, q⟩ := h
  obtain ⟨u, rfl, ru⟩ := vals1 r
  cases ru
  obtain ⟨o, es, ep, g, c, d, z, sz, hz⟩ := dict_raw I ha
  have raw : RawD s.heap a es ep := ⟨o, g, c.1, d⟩
  have hfit : ((es.size : Nat) : Int) < 2 ^ 63 := by rw [sizeLine_eq] at hz; omega
  refine raw_len z raw hfit fun t tk => ?_
  rw [sz]
  exact ⟨.int kvs.length, H, I.tok _, ⟨_, rfl⟩, q⟩
end
end L2

namespace Bfs
open Sev
abbrev P := Int × Int
def pr (p : P) : List Int := [p.1, p.2]
theorem pr_inj {p q : P} (h : pr p = pr q) : p = q := by
  obtain ⟨a, b⟩ := p
  obtain ⟨c, d⟩ := q
  simp [pr] at h
  rw [h.1, h.2]
def nears (p : P) : List P := [1, 2, 3, 4, 5, 6].map fun f => (p.1 + fq f, p.2 + fr f)
theorem nears_eq (p : P) : nears p = [(p.1 + 1, p.2 + 0), (p.1 + 0, p.2 + 1), (p.1 + -1, p.2 + 1), (p.1 + -1, p.2 + 0), (p.1 + 0, p.2 + -1), (p.1 + 1, p.2 + -1)] := rfl
theorem nears_len (p : P) : (nears p).length = 6 := rfl
theorem nears_symm {p q : P} (h : q ∈ nears p) : p ∈ nears q := by
  obtain ⟨a, b⟩ := p
  obtain ⟨c, d⟩ := q
  have key : ∀ x y : Int, (x, y) ∈ [((1 : Int), (0 : Int)), (0, 1), (-1, 1), (-1, 0), (0, -1), (1, -1)] → (-x, -y) ∈ [((1 : Int), (0 : Int)), (0, 1), (-1, 1), (-1, 0), (0, -1), (1, -1)] := by
    intro x y hm
    simp only [List.mem_cons, Prod.mk.injEq, List.not_mem_nil, or_false] at hm
    rcases hm with ⟨rfl, rfl⟩ | ⟨rfl, rfl⟩ | ⟨rfl, rfl⟩ | ⟨rfl, rfl⟩ | ⟨rfl, rfl⟩ | ⟨rfl, rfl⟩ <;> decide
  have e : ∀ a b : Int, nears (a, b) = [((1 : Int), (0 : Int)), (0, 1), (-1, 1), (-1, 0), (0, -1), (1, -1)].map fun z => (a + z.1, b + z.2) := fun a b => rfl
  rw [e] at h ⊢
  obtain ⟨⟨x, y⟩, hm, hz⟩ := List.mem_map.mp h
  cases hz
  refine List.mem_map.mpr ⟨(-x, -y), key x y hm, ?_⟩
  show (a + x + -x, b + y + -y) = (a, b)
  rw [Int.add_neg_cancel_right, Int.add_neg_cancel_right]
abbrev FL := List (P × Int)
def push1 (C : P → Bool) (d : Int) (fl : FL) (q : P) : FL := if C q = true ∧ q ∉ fl.map Prod.fst then fl ++ [(q, d)] else fl
def node (C : P → Bool) (fl : FL) (i : Nat) : FL := match fl[i]? with
  | some x => (nears x.1).foldl (push1 C (x.2 + 1)) fl
  | none => fl
def bfs (C : P → Bool) (p : P) : Nat → FL
  | 0 => [(p, 0)]
  | i + 1 => node C (bfs C p i) i
def look : FL → P → Option Int
  | [], _ => none
  | x :: r, q => if x.1 = q then some x.2 else look r q
theorem look_isSome : ∀ (fl : FL) (q : P), (look fl q).isSome = true ↔ q ∈ fl.map Prod.fst
  | [], q => by simp [look]
  | x :: r, q => by
    unfold look
    by_cases h : x.1 = q
    · simp [h]
    · rw [if_neg h, look_isSome r q]
      simp only [List.map_cons, List.mem_cons]
      exact ⟨.inr, fun z => z.resolve_left (Ne.symm h)⟩
theorem look_mem : ∀ {fl : FL} {q : P} {d : Int}, look fl q = some d → (q, d) ∈ fl
  | x :: r, q, d, h => by
    unfold look at h
    by_cases e : x.1 = q
    · rw [if_pos e] at h
      cases h
      subst e
      exact List.mem_cons_self
    · rw [if_neg e] at h
      exact List.mem_cons_of_mem _ (look_mem h)
theorem mem_look : ∀ {fl : FL} {q : P} {d : Int}, (fl.map Prod.fst).Nodup → (q, d) ∈ fl → look fl q = some d
  | x :: r, q, d, nd, h => by
    rw [List.map_cons, List.nodup_cons] at nd
    unfold look
    rcases List.mem_cons.mp h with e | h
    · subst e; rw [if_pos rfl]
    · rw [if_neg fun z => nd.1 (by rw [z]; exact List.mem_map.mpr ⟨_, h, rfl⟩)]
      exact mem_look nd.2 h
theorem nodup_sub : ∀ {l m : List P}, l.Nodup → (∀ x ∈ l, x ∈ m) → l.length ≤ m.length
  | [], _, _, _ => Nat.zero_le _
  | x :: r, m, nd, h => by
    rw [List.nodup_cons] at nd
    have hx := h x List.mem_cons_self
    have := nodup_sub (m := m.erase x) nd.2 fun y hy => (List.mem_erase_of_ne (fun z => nd.1 (by rw [← z]; exact hy))).mpr (h y (List.mem_cons_of_mem _ hy))
    rw [List.length_erase_of_mem hx] at this
    have : 0 < m.length := List.length_pos_of_mem hx
    rw [List.length_cons]
    omega
section
variable {C : P → Bool} {p : P}
structure Good (C : P → Bool) (p : P) (fl : FL) : Prop where
  h0 : fl[0]? = some (p, 0)
  nd : (fl.map Prod.fst).Nodup
  inC : ∀ x ∈ fl, C x.1 = true
  pos : ∀ (j : Nat) x, fl[j]? = some x → 0 < j → 1 ≤ x.2 ∧ ∃ y ∈ fl, y.2 = x.2 - 1 ∧ x.1 ∈ nears y.1
  mono : (fl.map Prod.snd).Pairwise (· ≤ ·)
theorem Good.len0 {fl : FL} (g : Good C p fl) : 0 < fl.length := (List.getElem?_eq_some_iff.mp g.h0).1
theorem good0 (h : C p = true) : Good C p [(p, 0)] := by
  refine ⟨rfl, by simp, fun x hx => ?_, fun j x hx hj => ?_, by simp⟩
  · rw [List.mem_singleton.mp hx]; exact h
  · have := (List.getElem?_eq_some_iff.mp hx).1
    simp at this
    omega
theorem Good.push {fl : FL} {y : P × Int} {q : P} (g : Good C p fl) (hy : y ∈ fl) (y0 : 0 ≤ y.2) (top : ∀ x ∈ fl, x.2 ≤ y.2 + 1) (hq : q ∈ nears y.1) : Good C p (push1 C (y.2 + 1) fl q) ∧ (∀ x ∈ push1 C (y.2 + 1) fl q, x.2 ≤ y.2 + 1) := by
  unfold push1
  by_cases h : C q = true ∧ q ∉ fl.map Prod.fst
  · rw [if_pos h]
    refine ⟨⟨?_, ?_, ?_, ?_, ?_⟩, ?_⟩
    · rw [List.getElem?_append_left g.len0]; exact g.h0
    · rw [List.map_append, List.nodup_append]
      refine ⟨g.nd, by simp, fun a ha b hb => ?_⟩
      simp at hb
      subst hb
      exact fun z => h.2 (by rw [← z]; exact ha)
    · intro x hx
      rcases List.mem_append.mp hx with hx | hx
      · exact g.inC x hx
      · rw [List.mem_singleton.mp hx]; exact h.1
    · intro j x hx hj
      by_cases hl : j < fl.length
      · rw [List.getElem?_append_left hl] at hx
        obtain ⟨h1, z, hz, h2, h3⟩ := g.pos j x hx hj
        exact ⟨h1, z, List.mem_append_left _ hz, h2, h3⟩
      · rw [List.getElem?_append_right (by omega)] at hx
        have hm := List.mem_of_getElem? hx
        rw [List.mem_singleton.mp hm]
        exact ⟨by show 1 ≤ y.2 + 1; omega, y, List.mem_append_left _ hy, by show y.2 = y.2 + 1 - 1; omega, hq⟩
    · rw [List.map_append, List.pairwise_append]
      refine ⟨g.mono, by simp, fun a ha b hb => ?_⟩
      simp at hb
      subst hb
      obtain ⟨x, hx, rfl⟩ := List.mem_map.mp ha
      exact top x hx
    · intro x hx
      rcases List.mem_append.mp hx with hx | hx
      · exact top x hx
      · rw [List.mem_singleton.mp hx]; exact Int.le_refl _
  · rw [if_neg h]; exact ⟨g, top⟩
theorem push_pre {fl : FL} {d : Int} {q : P} : fl <+: push1 C d fl q := by
  unfold push1
  by_cases h : C q = true ∧ q ∉ fl.map Prod.fst
  · rw [if_pos h]; exact List.prefix_append _ _
  · rw [if_neg h]; exact List.prefix_rfl
theorem pushes_pre {d : Int} : ∀ (qs : List P) (fl : FL), fl <+: qs.foldl (push1 C d) fl
  | [], fl => List.prefix_rfl
  | q :: qs, fl => List.IsPrefix.trans push_pre (pushes_pre qs _)
theorem pre_get {fl fm : FL} {i : Nat} {x : P × Int} (h : fl <+: fm) (e : fl[i]? = some x) : fm[i]? = some x := by
  obtain ⟨t, rfl⟩ := h
  rw [List.getElem?_append_left (List.getElem?_eq_some_iff.mp e).1]; exact e
theorem pre_mem {fl fm : FL} {x : P × Int} (h : fl <+: fm) (e : x ∈ fl) : x ∈ fm := by
  obtain ⟨t, rfl⟩ := h
  exact List.mem_append_left _ e
theorem Good.pushes {y : P × Int} (y0 : 0 ≤ y.2) : ∀ (qs : List P) {fl : FL}, Good C p fl → y ∈ fl → (∀ x ∈ fl, x.2 ≤ y.2 + 1) → (∀ q ∈ qs, q ∈ nears y.1) →
    Good C p (qs.foldl (push1 C (y.2 + 1)) fl) ∧ (∀ x ∈ qs.foldl (push1 C (y.2 + 1)) fl, x.2 ≤ y.2 + 1) ∧ ∀ q ∈ qs, C q = true → ∃ e, (q, e) ∈ qs.foldl (push1 C (y.2 + 1)) fl
  | [], fl, g, _, top, _ => ⟨g, top, fun q hq => nomatch hq⟩
  | q :: qs, fl, g, hy, top, hq => by
    obtain ⟨g1, t1⟩ := g.push hy y0 top (hq q List.mem_cons_self)
    obtain ⟨g2, t2, c2⟩ := Good.pushes y0 qs g1 (pre_mem push_pre hy) t1 fun z hz => hq z (List.mem_cons_of_mem _ hz)
    refine ⟨g2, t2, fun z hz hc => ?_⟩
    rcases List.mem_cons.mp hz with rfl | hz
    · have : ∃ e, (z, e) ∈ push1 C (y.2 + 1) fl z := by
        unfold push1
        by_cases h : C z = true ∧ z ∉ fl.map Prod.fst
        · rw [if_pos h]; exact ⟨_, List.mem_append_right _ (List.mem_singleton.mpr rfl)⟩
        · rw [if_neg h]
          have : z ∈ fl.map Prod.fst := by
            by_cases hh : z ∈ fl.map Prod.fst
            · exact hh
            · exact absurd ⟨hc, hh⟩ h
          obtain ⟨x, hx, rfl⟩ := List.mem_map.mp this
          exact ⟨x.2, hx⟩
      obtain ⟨e, he⟩ := this
      exact ⟨e, pre_mem (pushes_pre qs _) he⟩
    · exact c2 z hz hc
structure Run (C : P → Bool) (p : P) (fl : FL) (i : Nat) : Prop extends Good C p fl where
  top : ∀ y, fl[i]? = some y → ∀ x ∈ fl, x.2 ≤ y.2 + 1
  closed : ∀ (j : Nat) x, j < i → fl[j]? = some x → ∀ q ∈ nears x.1, C q = true → ∃ e, (q, e) ∈ fl ∧ e ≤ x.2 + 1
theorem Good.nonneg {fl : FL} (g : Good C p fl) {i : Nat} {x : P × Int} (h : fl[i]? = some x) : 0 ≤ x.2 := by
  rcases Nat.eq_zero_or_pos i with z | z
  · subst z; rw [g.h0] at h; cases h; exact Int.le_refl _
  · have := (g.pos i x h z).1; omega
theorem run0 (h : C p = true) : Run C p [(p, 0)] 0 := by
  refine ⟨good0 h, fun y hy x hx => ?_, fun j x hj => absurd hj (Nat.not_lt_zero _)⟩
  cases hy
  rw [List.mem_singleton.mp hx]; show (0 : Int) ≤ 0 + 1; decide
theorem Run.next {fl : FL} {i : Nat} (r : Run C p fl i) {y : P × Int} (hy : fl[i]? = some y) : Run C p ((nears y.1).foldl (push1 C (y.2 + 1)) fl) (i + 1) := by
  have ym := List.mem_of_getElem? hy
  have y0 := r.toGood.nonneg hy
  obtain ⟨g, t, c⟩ := Good.pushes y0 (nears y.1) r.toGood ym (r.top y hy) fun q hq => hq
  have pre := pushes_pre (C := C) (d := y.2 + 1) (nears y.1) fl
  refine ⟨g, fun z hz x hx => ?_, fun j x hj hx q hq hc => ?_⟩
  · have h1 := t x hx
    have hl : i < ((nears y.1).foldl (push1 C (y.2 + 1)) fl).length := (List.getElem?_eq_some_iff.mp (pre_get pre hy)).1
    have hl2 := (List.getElem?_eq_some_iff.mp hz).1
    have := List.pairwise_iff_getElem.mp g.mono i (i + 1) (by rw [List.length_map]; exact hl) (by rw [List.length_map]; exact hl2) (Nat.lt_succ_self i)
    rw [List.getElem_map, List.getElem_map] at this
    rw [(List.getElem?_eq_some_iff.mp (pre_get pre hy)).2, (List.getElem?_eq_some_iff.mp hz).2] at this
    omega
  · rcases Nat.lt_or_ge j i with hji | hji
    · have hl : j < fl.length := Nat.lt_trans hji (List.getElem?_eq_some_iff.mp hy).1
      have e0 : fl[j]? = some fl[j] := List.getElem?_eq_getElem hl
      have := pre_get pre e0
      rw [hx] at this
      cases this
      obtain ⟨e, he, h1⟩ := r.closed j _ hji e0 q hq hc
      exact ⟨e, pre_mem pre he, h1⟩
    · obtain rfl : j = i := by omega
      have := pre_get pre hy
      rw [hx] at this
      cases this
      obtain ⟨e, he⟩ := c q hq hc
      exact ⟨e, he, t _ he⟩
theorem run_bfs (h : C p = true) : ∀ i, i ≤ (bfs C p i).length → Run C p (bfs C p i) i
  | 0, _ => run0 h
  | i + 1, hl => by
    have : i < (bfs C p i).length := by
      apply Nat.lt_of_not_le
      intro hc
      have e : bfs C p (i + 1) = bfs C p i := by
        show node C (bfs C p i) i = _
        unfold node
        rw [List.getElem?_eq_none hc]
      rw [e] at hl
      omega
    have r := run_bfs h i (by omega)
    have e : bfs C p (i + 1) = (nears (bfs C p i)[i].1).foldl (push1 C ((bfs C p i)[i].2 + 1)) (bfs C p i) := by
      show node C (bfs C p i) i = _
      unfold node
      rw [List.getElem?_eq_getElem this]
    rw [e]
    exact r.next (List.getElem?_eq_getElem this)
structure Fin (C : P → Bool) (p : P) (fl : FL) : Prop extends Good C p fl where
  closed : ∀ x ∈ fl, ∀ q ∈ nears x.1, C q = true → ∃ e, (q, e) ∈ fl ∧ e ≤ x.2 + 1
theorem Good.zero {fl : FL} (g : Good C p fl) {q : P} {d : Int} (h : (q, d) ∈ fl) : (d = 0 ↔ q = p) ∧ 0 ≤ d := by
  obtain ⟨j, hj, e⟩ := List.getElem_of_mem h
  have e' : fl[j]? = some (q, d) := by rw [List.getElem?_eq_getElem hj, e]
  have m0 := List.mem_of_getElem? g.h0
  refine ⟨⟨fun z => ?_, fun z => ?_⟩, g.nonneg e'⟩
  · rcases Nat.eq_zero_or_pos j with zj | zj
    · subst zj; rw [g.h0] at e'; cases e'; rfl
    · have := (g.pos j _ e' zj).1
      simp only at this
      omega
  · subst z
    have h1 := mem_look g.nd h
    have h2 := mem_look g.nd m0
    rw [h1] at h2
    cases h2; rfl
theorem Good.parent {fl : FL} (g : Good C p fl) {q : P} {d : Int} (h : (q, d) ∈ fl) (hd : 0 < d) : ∃ y, (y, d - 1) ∈ fl ∧ y ∈ nears q := by
  obtain ⟨j, hj, e⟩ := List.getElem_of_mem h
  have e' : fl[j]? = some (q, d) := by rw [List.getElem?_eq_getElem hj, e]
  rcases Nat.eq_zero_or_pos j with zj | zj
  · subst zj; rw [g.h0] at e'; cases e'; exact absurd hd (Int.lt_irrefl _)
  · obtain ⟨_, y, hy, h1, h2⟩ := g.pos j _ e' zj
    refine ⟨y.1, ?_, nears_symm h2⟩
    rw [← h1]; exact hy
theorem bfs_len {CL : List P} (hC : ∀ q, C q = true → q ∈ CL) {fl : FL} (g : Good C p fl) : fl.length ≤ CL.length := by
  have := nodup_sub (m := CL) g.nd fun q hq => by
    obtain ⟨x, hx, rfl⟩ := List.mem_map.mp hq
    exact hC _ (g.inC x hx)
  rwa [List.length_map] at this
def nx (fl : FL) (q : P) : P := (((nears q).filter fun z => decide (look fl z = some ((look fl q).getD 0 - 1))).head?).getD q
def pth (fl : FL) (q : P) : Nat → P
  | 0 => q
  | k + 1 => nx fl (pth fl q k)
theorem nx_ok {fl : FL} (g : Good C p fl) {q : P} {d : Int} (h : look fl q = some d) (hd : 0 < d) : ∃ t, (nears q).filter (fun z => decide (look fl z = some (d - 1))) = nx fl q :: t ∧ look fl (nx fl q) = some (d - 1) ∧ nx fl q ∈ nears q := by
  obtain ⟨y, hy, hn⟩ := g.parent (look_mem h) hd
  have hm : y ∈ (nears q).filter fun z => decide (look fl z = some (d - 1)) := List.mem_filter.mpr ⟨hn, decide_eq_true (mem_look g.nd hy)⟩
  have e : nx fl q = (((nears q).filter fun z => decide (look fl z = some (d - 1))).head?).getD q := by unfold nx; rw [h]; rfl
  cases hc : (nears q).filter fun z => decide (look fl z = some (d - 1)) with
  | nil => rw [hc] at hm; cases hm
  | cons z t =>
    rw [e, hc]
    have hz : z ∈ (nears q).filter fun z => decide (look fl z = some (d - 1)) := by rw [hc]; exact List.mem_cons_self
    obtain ⟨h1, h2⟩ := List.mem_filter.mp hz
    exact ⟨t, rfl, of_decide_eq_true h2, h1⟩
theorem pth_look {fl : FL} (g : Good C p fl) {q : P} {d : Int} (h : look fl q = some d) : ∀ k : Nat, (k : Int) ≤ d → look fl (pth fl q k) = some (d - k)
  | 0, _ => by rw [Int.natCast_zero, Int.sub_zero]; exact h
  | k + 1, hk => by
    have h1 := pth_look g h k (by omega)
    obtain ⟨_, _, h2, _⟩ := nx_ok g h1 (by omega)
    show look fl (nx fl (pth fl q k)) = _
    rw [h2]
    congr 1
    omega
end
end Bfs
namespace Bfs
section
variable {C : P → Bool} {p : P}
theorem bfs_uniq {n m : Nat} (h1 : n = (bfs C p n).length) (h2 : m = (bfs C p m).length) : n = m := by
  have stay : ∀ a : Nat, a = (bfs C p a).length → ∀ k, bfs C p (a + k) = bfs C p a := by
    intro a ha k
    induction k with
    | zero => rfl
    | succ k ih =>
      show node C (bfs C p (a + k)) (a + k) = _
      unfold node
      rw [ih, List.getElem?_eq_none (by omega)]
  rcases Nat.le_total n m with h | h
  · obtain ⟨k, rfl⟩ := Nat.le.dest h
    rw [stay n h1 k] at h2
    omega
  · obtain ⟨k, rfl⟩ := Nat.le.dest h
    rw [stay m h2 k] at h1
    omega
theorem dist_lt {fl : FL} (g : Good C p fl) {q : P} {d : Int} (h : look fl q = some d) : d.toNat < fl.length := by
  have d0 := (g.zero (look_mem h)).2
  have nd : ((List.range (d.toNat + 1)).map (pth fl q)).Nodup := by
    unfold List.Nodup
    rw [List.pairwise_map]
    refine List.Pairwise.imp_of_mem (fun {a b} ha hb hab => ?_) List.pairwise_lt_range
    have ha := List.mem_range.mp ha
    have hb := List.mem_range.mp hb
    intro z
    have e1 := pth_look g h a (by omega)
    have e2 := pth_look g h b (by omega)
    rw [z, e2] at e1
    have := Option.some.inj e1
    omega
  have := nodup_sub (m := fl.map Prod.fst) nd fun x hx => by
    obtain ⟨k, hk, rfl⟩ := List.mem_map.mp hx
    have hk := List.mem_range.mp hk
    exact (look_isSome fl _).mp (by rw [pth_look g h k (by omega)]; rfl)
  rw [List.length_map, List.length_map, List.length_range] at this
  omega
theorem pth_end {fl : FL} (g : Good C p fl) {q : P} {d : Int} (h : look fl q = some d) {k : Nat} (hk : (k : Int) ≤ d) : pth fl q k = p ↔ (k : Int) = d := by
  have e := look_mem (pth_look g h k hk)
  have := (g.zero e).1
  constructor
  · intro z
    have := this.mpr z
    omega
  · intro z
    exact this.mp (by omega)
end
end Bfs

set_option Elab.async false
set_option linter.all false
set_option maxRecDepth 100000
namespace L2
open PySem PySem.Spec PyProof.Rows
def Pt (H : Hp) (v : V) (p : Bfs.P) : Prop := ∃ a, v = .ref a ∧ H a = some (.tup [.int p.1, .int p.2])
theorem Pt.pl {K : PySem.W.Frag} {H : Hp} {v : V} {p : Bfs.P} (h : Pt H v p) : Pl K H v p.1 p.2 := let ⟨a, e, h⟩ := h; ⟨a, e, SqT.of h⟩
theorem Pt.keep {H H' : Hp} {v : V} {p : Bfs.P} (s : Same H H') (h : Pt H v p) : Pt H' v p := let ⟨a, e, h⟩ := h; ⟨a, e, s _ _ h⟩
theorem Pt.upd {H : Hp} {v : V} {p : Bfs.P} {b : Addr} {o : HO} (hb : ∀ ys, H b ≠ some (.tup ys)) (h : Pt H v p) : Pt (L2.upd H b o) v p := let ⟨a, e, h⟩ := h; ⟨a, e, by rw [upd_ne (fun z => hb _ (by rw [← z]; exact h))]; exact h⟩
theorem Tups.getPt {H : Hp} {us : List V} {ps : List Bfs.P} {i : Nat} {u : V} (h : Tups H us (ps.map Bfs.pr)) (e : us[i]? = some u) : ∃ p, ps[i]? = some p ∧ Pt H u p := by
  obtain ⟨a, xs, rfl, hx, ha⟩ := h.get e
  rw [List.getElem?_map] at hx
  obtain ⟨p, hp, rfl⟩ := Option.map_eq_some_iff.mp hx
  exact ⟨p, hp, a, rfl, ha⟩
theorem Tups.at {H : Hp} : ∀ {us : List V} {xss : List (List Int)} {i : Nat} {xs : List Int}, Tups H us xss → xss[i]? = some xs → ∃ a, us[i]? = some (.ref a) ∧ H a = some (.tup (List.map V.int xs))
  | _, _, 0, _, .cons ⟨a, e, h⟩ _, hu => by cases hu; exact ⟨a, by rw [e]; rfl, h⟩
  | _, _, i + 1, _, .cons _ r, hu => Tups.at (i := i) r hu
theorem Tups.atPt {H : Hp} {us : List V} {ps : List Bfs.P} {i : Nat} {p : Bfs.P} (h : Tups H us (ps.map Bfs.pr)) (e : ps[i]? = some p) : ∃ u, us[i]? = some u ∧ Pt H u p := by
  obtain ⟨a, h1, h2⟩ := h.at (i := i) (xs := Bfs.pr p) (by rw [List.getElem?_map, e]; rfl)
  exact ⟨_, h1, a, rfl, h2⟩
theorem Tups.snocPt {H : Hp} {us : List V} {ps : List Bfs.P} {u : V} {p : Bfs.P} (h : Tups H us (ps.map Bfs.pr)) (hp : Pt H u p) : Tups H (us ++ [u]) ((ps ++ [p]).map Bfs.pr) := by
  obtain ⟨a, rfl, ha⟩ := hp
  rw [List.map_append]
  exact h.snoc ha
theorem Tups.one {H : Hp} {u : V} {p : Bfs.P} (hp : Pt H u p) : Tups H [u] ([p].map Bfs.pr) := let ⟨a, e, h⟩ := hp; .cons ⟨a, e, h⟩ .nil
theorem Tups.app {H : Hp} : ∀ {us ws : List V} {xss yss : List (List Int)}, Tups H us xss → Tups H ws yss → Tups H (us ++ ws) (xss ++ yss)
  | _, _, _, _, .nil, t => t
  | _, _, _, _, .cons p r, t => .cons p (Tups.app r t)
def dF (fl : Bfs.FL) : List (List Key × V) := fl.map fun x => (kk (Bfs.pr x.1), V.int x.2)
theorem dF_len (fl : Bfs.FL) : (dF fl).length = fl.length := by unfold dF; rw [List.length_map]
theorem dF_val : ∀ (fl : Bfs.FL) (q : Bfs.P), valV (dF fl) (kk (Bfs.pr q)) = (Bfs.look fl q).map V.int
  | [], q => rfl
  | x :: r, q => by
    show valV ((kk (Bfs.pr x.1), V.int x.2) :: dF r) (kk (Bfs.pr q)) = _
    unfold Bfs.look
    by_cases h : x.1 = q
    · rw [if_pos h, valV_pos (by rw [h])]; rfl
    · rw [if_neg h, valV_neg (fun z => h (Bfs.pr_inj (kk_inj z))), dF_val r q]
theorem dF_put {fl : Bfs.FL} {q : Bfs.P} (d : Int) (h : q ∉ fl.map Prod.fst) : putK (dF fl) (kk (Bfs.pr q)) (.int d) = dF (fl ++ [(q, d)]) := by
  have e : valV (dF fl) (kk (Bfs.pr q)) = none := by
    rw [dF_val]
    cases hl : Bfs.look fl q with
    | none => rfl
    | some z => exact absurd ((Bfs.look_isSome fl q).mp (by rw [hl]; rfl)) h
  rw [putK_new _ e]
  unfold dF
  rw [List.map_append]; rfl
section
variable {H : Hp} {d : Addr} {v : V} {q : Bfs.P}
theorem getFl {fl : Bfs.FL} (e : Rd H d (.dT (dF fl))) (hq : Pt H v q) : DGet H d v ((Bfs.look fl q).map V.int) := by
  obtain ⟨b, rfl, hb⟩ := hq
  exact .inr ⟨dF fl, kk (Bfs.pr q), b, e, rfl, hb, (dF_val fl q).symm⟩
theorem getC {CL : List (List Int)} (e : Rd H d (.dT (dset CL))) (hq : Pt H v q) : DGet H d v (if Bfs.pr q ∈ CL then some (.bl true) else none) := by
  obtain ⟨b, rfl, hb⟩ := hq
  exact .inr ⟨dset CL, kk (Bfs.pr q), b, e, rfl, hb, (dset_val CL (Bfs.pr q)).symm⟩
theorem putC {CL : List (List Int)} (e : H d = some (.dT (dset CL))) (hq : Pt H v q) (hl : CL.length < sizeLine) : DPut H d v (.bl true) (upd H d (.dT (dset (Rg.put CL (Bfs.pr q))))) := by
  obtain ⟨b, rfl, hb⟩ := hq
  rw [← dset_put]
  exact DPut.t (k := kk (Bfs.pr q)) e hb (by rw [dset_len]; exact hl)
theorem putFl {fl : Bfs.FL} {x : Int} (e : H d = some (.dT (dF fl))) (hq : Pt H v q) (hn : q ∉ fl.map Prod.fst) (hl : fl.length < sizeLine) : DPut H d v (.int x) (upd H d (.dT (dF (fl ++ [(q, x)])))) := by
  obtain ⟨b, rfl, hb⟩ := hq
  rw [← dF_put x hn]
  exact DPut.t (k := kk (Bfs.pr q)) e hb (by rw [dF_len]; exact hl)
end
theorem for_seq {K : PySem.W.Frag} {a : Addr} {xs : List V} {g : TG} {tb : TS} {D : Ends} {σ : St} {H : Hp} (sq : SqL K H a xs ∨ SqT K H a xs) (Pv : Nat → St → Hp → Prop) (h0 : Pv 0 σ H) (hl : ∀ i σ H', Pv i σ H' → Same H H')
    (hs : ∀ i x σ H, xs[i]? = some x → Pv i σ H → g x σ H fun σ2 H2 => tb { D with nx := Pv (i + 1), ct := Pv (i + 1), bk := D.nx } σ2 H2) (hd : ∀ σ H, Pv xs.length σ H → D.nx σ H) :
    ((∃ xs, SqL K H a xs) ∧ ∃ W : Nat → Nat → St → Hp → Prop, (∃ m, W 0 m σ H) ∧ ∀ i m σ H, W i m σ H →
      ((Itl K a).stop i H ∧ D.nx σ H) ∨ ((Itl K a).go i H ∧ ∃ N : St → Hp → Prop, (∀ σ' H', N σ' H' → ∃ m', m' < m ∧ W (i + 1) m' σ' H') ∧ ∀ x H', (Itl K a).yld i H x H' → g x σ H' fun σ2 H2 => tb { D with nx := N, ct := N, bk := D.nx } σ2 H2)) ∨
    ((∃ xs, SqT K H a xs) ∧ ∃ W : Nat → Nat → St → Hp → Prop, (∃ m, W 0 m σ H) ∧ ∀ i m σ H, W i m σ H →
      ((Itt K a).stop i H ∧ D.nx σ H) ∨ ((Itt K a).go i H ∧ ∃ N : St → Hp → Prop, (∀ σ' H', N σ' H' → ∃ m', m' < m ∧ W (i + 1) m' σ' H') ∧ ∀ x H', (Itt K a).yld i H x H' → g x σ H' fun σ2 H2 => tb { D with nx := N, ct := N, bk := D.nx } σ2 H2)) := by
  rcases sq with h | h
  · exact .inl ⟨⟨_, h⟩, for_list (xs := xs) Pv h0 (fun i σ H' _ p => (hl i σ H' p).seq h) hs hd⟩
  · exact .inr ⟨⟨_, h⟩, for_tup (xs := xs) Pv h0 (fun i σ H' _ p => (hl i σ H' p).sqT h) hs hd⟩
end L2
namespace Rg
open Sev
theorem wk_near : ∀ (xs : List Int), (∀ f ∈ xs, Fig f) → ∀ B : Int, B = 5 ^ xs.length → -B ≤ (wk xs).1 ∧ (wk xs).1 ≤ B ∧ -B ≤ (wk xs).2 ∧ (wk xs).2 ≤ B := by
  intro xs
  induction xs using snoc_ind with
  | h0 => intro _ B hB; subst hB; decide
  | h1 xs f ih =>
    intro hf B hB
    have h1 := ih (fun g hg => hf g (List.mem_append_left _ hg)) _ rfl
    have hff := hf f (by simp)
    rw [wk_snoc]
    unfold stp
    rw [List.length_append, List.length_singleton, Int.pow_succ] at hB
    have hp : (1 : Int) ≤ 5 ^ xs.length := by
      have := Nat.one_le_pow xs.length 5 (by decide)
      exact_mod_cast this
    generalize (5 : Int) ^ xs.length = M at *
    have : (-1 ≤ fq f ∧ fq f ≤ 1) ∧ (-1 ≤ fr f ∧ fr f ≤ 1) := by
      rcases fig_cases hff with rfl | rfl | rfl | rfl | rfl | rfl | rfl <;> decide
    obtain ⟨⟨a1, a2⟩, a3, a4⟩ := this
    subst hB
    refine ⟨?_, ?_, ?_, ?_⟩ <;> omega
def lnOf (lv : Nat) (A : List Int) : List Int := List.replicate (lv - A.length) 0 ++ A
theorem bare_zeros : ∀ (xs : List Int), ∃ n, xs = List.replicate n 0 ++ bare xs
  | [] => ⟨0, rfl⟩
  | x :: r => by
    by_cases h : x = 0
    · subst h
      obtain ⟨n, e⟩ := bare_zeros r
      refine ⟨n + 1, ?_⟩
      have : bare (0 :: r) = bare r := by simp [bare, List.dropWhile]
      rw [this, List.replicate_succ, List.cons_append, ← e]
    · refine ⟨0, ?_⟩
      have : (x == 0) = false := by simpa using h
      simp [bare, List.dropWhile, this]
theorem mem_line {lv : Nat} {LL : List (List Int)} (hL : ∀ xs ∈ LL, xs.length = lv ∧ ∀ f ∈ xs, Fig f) {q r : Int} {A : List Int} (a : Adr q r A) : lnOf lv A ∈ LL ↔ ∃ xs ∈ LL, wk xs = (q, r) := by
  constructor
  · intro h
    exact ⟨_, h, by unfold lnOf; rw [wk_zeros]; exact a.walk⟩
  · rintro ⟨xs, hx, e⟩
    obtain ⟨hl, hf⟩ := hL xs hx
    have h1 := (adr_wk xs hf).1
    rw [e] at h1
    have h2 := h1.det a
    obtain ⟨n, en⟩ := bare_zeros xs
    rw [h2] at en
    have : lnOf lv A = xs := by
      unfold lnOf
      have : n = lv - A.length := by
        have := congrArg List.length en
        rw [hl, List.length_append, List.length_replicate] at this
        omega
      rw [← this]; exact en.symm
    rw [this]; exact hx
end Rg

set_option Elab.async false
set_option linter.all false
set_option maxRecDepth 100000
namespace L2
open PySem PySem.Spec PyProof.Rows
def HRows (H : Hp) : List V → List (List Int) → Prop := Paired fun v xs => ∃ a, v = .ref a ∧ H a = some (.lst (List.map V.int xs))
theorem HRows.rows {K : PySem.W.Frag} {H : Hp} : ∀ {us : List V} {xss : List (List Int)}, HRows H us xss → RowsV K H us xss
  | _, _, .nil => .nil
  | _, _, .cons ⟨a, e, h⟩ r => .cons ⟨a, e, SqL.of h⟩ (HRows.rows r)
theorem HRows.keep {H H' : Hp} (s : Same H H') : ∀ {us : List V} {xss : List (List Int)}, HRows H us xss → HRows H' us xss
  | _, _, .nil => .nil
  | _, _, .cons ⟨a, e, h⟩ r => .cons ⟨a, e, s _ _ h⟩ (HRows.keep s r)
theorem HRows.snoc {H : Hp} : ∀ {us : List V} {xss : List (List Int)} {a : Addr} {xs : List Int}, HRows H us xss → H a = some (.lst (List.map V.int xs)) → HRows H (us ++ [.ref a]) (xss ++ [xs])
  | _, _, a, xs, .nil, h => .cons ⟨a, rfl, h⟩ .nil
  | _, _, _, _, .cons p r, h => .cons p (HRows.snoc r h)
theorem HRows.upd {H : Hp} {p : Addr} {o : HO} : ∀ {us : List V} {xss : List (List Int)}, (∀ u ∈ us, u ≠ .ref p) → HRows H us xss → HRows (L2.upd H p o) us xss
  | _, _, _, .nil => .nil
  | _, _, n, .cons ⟨a, e, h⟩ r => .cons ⟨a, e, by rw [upd_ne (fun z => n _ List.mem_cons_self (by rw [e, z]))]; exact h⟩ (HRows.upd (fun u hu => n u (List.mem_cons_of_mem _ hu)) r)
theorem HRows.len {H : Hp} {us : List V} {xss : List (List Int)} (h : HRows H us xss) : us.length = xss.length := Paired.length h
theorem HRows.app {H : Hp} : ∀ {us ws : List V} {xss yss : List (List Int)}, HRows H us xss → HRows H ws yss → HRows H (us ++ ws) (xss ++ yss)
  | _, _, _, _, .nil, t => t
  | _, _, _, _, .cons p r, t => .cons p (HRows.app r t)
end L2

set_option Elab.async false
set_option linter.all false
set_option maxRecDepth 100000
namespace L2
open PySem PySem.Spec PyProof.Rows
abbrev dTT (xss : List (List Int)) : List PyData := xss.map fun xs => PyData.tuple (dI xs)
theorem lay_tts : ∀ xss : List (List Int), PyData.canLayAll0 (dTT xss) = true
  | [] => by simp [PyData.canLayAll0]
  | xs :: r => by
    simp only [dTT, List.map_cons, PyData.canLayAll0, PyData.canLay0, lay_ints, Bool.true_and]
    exact lay_tts r
theorem dep_tts : ∀ xss : List (List Int), PyData.depthAll (dTT xss) ≤ 1
  | [] => by simp [PyData.depthAll]
  | xs :: r => by
    simp only [dTT, List.map_cons, PyData.depthAll, PyData.depth, dep_ints]
    have := dep_tts r
    simp only [dTT] at this
    omega
theorem noMix_tts : ∀ xss yss : List (List Int), SeqAt.noMixAll (dTT xss) (dTT yss) = true
  | [], [] => by simp [SeqAt.noMixAll]
  | [], _ :: _ => by simp [SeqAt.noMixAll]
  | _ :: _, [] => by simp [SeqAt.noMixAll]
  | x :: r, y :: q => by simp only [dTT, List.map_cons, SeqAt.noMixAll, SeqAt.noMix, noMix_ints, Bool.true_and]; exact noMix_tts r q
theorem same_tts : ∀ xss yss : List (List Int), sameAll (dTT xss) (dTT yss) = decide (xss = yss)
  | [], [] => by simp [sameAll]
  | [], _ :: _ => by simp [sameAll]
  | _ :: _, [] => by simp [sameAll]
  | x :: r, y :: q => by
    simp only [dTT, List.map_cons, sameAll, same, same_ints]
    rw [show sameAll (dTT r) (dTT q) = decide (r = q) from same_tts r q, Bool.eq_iff_iff]
    simp
theorem shaped_tts (xss : List (List Int)) : SeqAt.shaped (.list (dTT xss)) = true := by
  unfold SeqAt.shaped
  rw [PyData.canLay0, lay_tts, PyData.depth, Bool.true_and]
  exact decide_eq_true (by have := dep_tts xss; omega)
theorem Tups.rep {K : PySem.W.Frag} {H : Hp} : ∀ {us : List V} {xss : List (List Int)}, Tups H us xss → RepAll K H us (dTT xss)
  | _, _, .nil => .nil
  | _, _, .cons ⟨_, e, h⟩ r => by subst e; exact .cons (.tup (SqT.of h) (RepAll.ints _)) (Tups.rep r)
section
variable {X : Cx}
theorem op_eqLT (hu : X.A.units + 64 < cLine) : OpR X (compareOp .Eq) (fun x y H Q => ∃ a b us ws xss yss, x = .ref a ∧ y = .ref b ∧ SqL X.K H a us ∧ SqL X.K H b ws ∧ Tups H us xss ∧ Tups H ws yss ∧ Q (.bl (decide (xss = yss))) H) :=
  (op_eqD hu).imp fun x y H Q ⟨a, b, us, ws, xss, yss, e1, e2, h1, h2, t1, t2, q⟩ => by
    subst e1 e2
    refine ⟨.list (dTT xss), .list (dTT yss), .lst h1 t1.rep, .lst h2 t2.rep, shaped_tts xss, shaped_tts yss, by rw [SeqAt.noMix]; exact noMix_tts xss yss, ?_⟩
    rw [same, same_tts]; exact q
end
theorem op_eqNB {X : Cx} (hu : X.A.units + 64 < cLine) : OpR X (compareOp .Eq) (fun x y H Q => ∃ a b la lb b1 b2 b3 b4 c1 c2 c3 c4, x = .ref a ∧ y = .ref b ∧ H a = some (.tup [.non, .ref la]) ∧ H b = some (.tup [.non, .ref lb]) ∧ H la = some (.lst [.bl b1, .bl b2, .bl b3, .bl b4]) ∧ H lb = some (.lst [.bl c1, .bl c2, .bl c3, .bl c4]) ∧
    (b1 = c1 ∧ b2 = c2 ∧ b3 = c3 ∧ b4 = c4) ∧ Q (.bl true) H) :=
  (op_eqD hu).imp fun x y H Q ⟨a, b, la, lb, b1, b2, b3, b4, c1, c2, c3, c4, e1, e2, h1, h2, h3, h4, ⟨f1, f2, f3, f4⟩, q⟩ => by
    subst e1 e2 f1 f2 f3 f4
    refine ⟨.tuple [.none, .list [.bool b1, .bool b2, .bool b3, .bool b4]], .tuple [.none, .list [.bool b1, .bool b2, .bool b3, .bool b4]], .tup (SqT.of h1) (.cons .non (.cons (.lst (SqL.of h3) (.cons (.bl _) (.cons (.bl _) (.cons (.bl _) (.cons (.bl _) .nil))))) .nil)),
      .tup (SqT.of h2) (.cons .non (.cons (.lst (SqL.of h4) (.cons (.bl _) (.cons (.bl _) (.cons (.bl _) (.cons (.bl _) .nil))))) .nil)), ?_, ?_, ?_, ?_⟩
    · cases b1 <;> cases b2 <;> cases b3 <;> cases b4 <;> rfl
    · cases b1 <;> cases b2 <;> cases b3 <;> cases b4 <;> rfl
    · cases b1 <;> cases b2 <;> cases b3 <;> cases b4 <;> rfl
    · have : same (PyData.tuple [.none, .list [.bool b1, .bool b2, .bool b3, .bool b4]]) (.tuple [.none, .list [.bool b1, .bool b2, .bool b3, .bool b4]]) = true := by cases b1 <;> cases b2 <;> cases b3 <;> cases b4 <;> rfl
      rw [this]; exact q
theorem nodup_len {α : Type} [BEq α] [LawfulBEq α] : ∀ {l m : List α}, l.Nodup → (∀ x ∈ l, x ∈ m) → l.length ≤ m.length
  | [], _, _, _ => Nat.zero_le _
  | x :: r, m, nd, h => by
    rw [List.nodup_cons] at nd
    have hx := h x List.mem_cons_self
    have := nodup_len (m := m.erase x) nd.2 fun y hy => (List.mem_erase_of_ne (fun z => nd.1 (by rw [← z]; exact hy))).mpr (h y (List.mem_cons_of_mem _ hy))
    rw [List.length_erase_of_mem hx] at this
    have : 0 < m.length := List.length_pos_of_mem hx
    rw [List.length_cons]
    omega
end L2
namespace Rg
open Sev
theorem lines_few {lv : Nat} {LL : List (List Int)} (nd : LL.Nodup) (h : ∀ xs ∈ LL, xs.length = lv ∧ ∀ f ∈ xs, Fig f) : LL.length ≤ 7 ^ lv := by
  have := L2.nodup_len (m := lns lv []) nd fun xs hx => mem_lns.mpr ⟨xs, rfl, (h xs hx).1, (h xs hx).2⟩
  rwa [len_lns] at this
theorem lall_ok {lv : Nat} {xss : List (List Int)} (hf : ∀ xs ∈ xss, ∀ f ∈ xs, Fig f) (hs : ∀ xs ∈ xss, xs.length ≤ lv) : ∀ ys ∈ lall lv xss, ys.length = lv ∧ ∀ f ∈ ys, Fig f := by
  intro ys hy
  obtain ⟨xs, hx, h⟩ := mem_lall.mp hy
  have hl := lns_len h
  obtain ⟨t, rfl, _, ht⟩ := mem_lns.mp h
  have := hs xs hx
  refine ⟨by omega, fun f hf' => ?_⟩
  rcases List.mem_append.mp hf' with z | z
  · exact hf xs hx f z
  · exact ht f z
def Nr (p : Int × Int) : Prop := (-1000 ≤ p.1 ∧ p.1 ≤ 1000) ∧ (-1000 ≤ p.2 ∧ p.2 ≤ 1000)
theorem Nr.adr {p : Int × Int} (h : Nr p) : ∃ A, Adr p.1 p.2 A ∧ A.length ≤ 1000 := by
  obtain ⟨A, a⟩ := adr_ex p.1 p.2
  obtain ⟨⟨h1, h2⟩, h3, h4⟩ := h
  have big : (1000 : Int) < 10 ^ 39 := by decide
  have := len100 a (by omega) (by omega) (by omega) (by omega)
  exact ⟨A, a, by omega⟩
theorem nr_wk {xs : List Int} (hl : xs.length ≤ 4) (hf : ∀ f ∈ xs, Fig f) : (-625 ≤ (wk xs).1 ∧ (wk xs).1 ≤ 625) ∧ (-625 ≤ (wk xs).2 ∧ (wk xs).2 ≤ 625) := by
  have h := wk_near xs hf _ rfl
  have : (5 : Int) ^ xs.length ≤ 625 := by
    have h5 : 5 ^ xs.length ≤ 5 ^ 4 := Nat.pow_le_pow_right (by decide) hl
    have e : (5 : Nat) ^ 4 = 625 := by decide
    rw [e] at h5
    exact_mod_cast h5
  generalize (5 : Int) ^ xs.length = B at *
  omega
end Rg

namespace My
open PySem L2 Spi Sev
local macro_rules | `(tactic| walk_at "sq") => `(tactic| repeat (first | assumption | exact SqT.of upd_same | exact SqL.of upd_same | refine Same.sqT (by first | assumption | exact same_upd (by assumption)) ?_ | refine Same.seq (by first | assumption | exact same_upd (by assumption)) ?_))
local macro_rules | `(tactic| walk_at "rdc") => `(tactic| first | exact Nat.le_of_ble_eq_true rfl | decide | (show (0 : Int) < _; omega) | (exact ⟨by decide, by decide⟩) | (exact ⟨by decide, by decide, by decide⟩) | (exact Or.inl ⟨by decide, by decide⟩) | (exact Or.inr ⟨by decide, by decide⟩) | omega | (simp only [Int.reduceToNat]; omega))
local macro_rules | `(tactic| walk_at "rd") => `(tactic| repeat (first
  | refine ⟨_, rfl, ?_⟩
  | refine ⟨_, _, _, _, rfl, rfl, (by walk_at "sq"), (by rfl), ?_⟩
  | refine ⟨_, _, rfl, rfl, ?_⟩
  | refine ⟨_, _, _, rfl, ?_⟩
  | refine ⟨rfl, ?_⟩
  | refine ⟨(by walk_at "rdc"), ?_⟩))

def top (i : Nat) : Stmt := PySem.Challenge.pw_hexaddress_k20_whole_a_way.main.body.getD i (.Pass ⟨0, 0, 0, 0⟩)
abbrev s_added : Stmt := top 11
theorem sc_added : FnScope ["one", "other"] ["one", "other"] (defScope s_added) := ⟨rfl, rfl, rfl, by decide +kernel, rfl, by decide +kernel, by decide +kernel⟩
abbrev s_taken : Stmt := top 12
theorem sc_taken : FnScope ["one", "other"] ["one", "other"] (defScope s_taken) := ⟨rfl, rfl, rfl, by decide +kernel, rfl, by decide +kernel, by decide +kernel⟩
abbrev s_turned : Stmt := top 13
theorem sc_turned : FnScope ["place", "sixths", "now", "turn"] ["place", "sixths"] (defScope s_turned) := ⟨rfl, rfl, rfl, by decide +kernel, rfl, by decide +kernel, by decide +kernel⟩
abbrev s_step : Stmt := top 14
theorem sc_step : FnScope ["direction"] ["direction"] (defScope s_step) := ⟨rfl, rfl, rfl, by decide +kernel, rfl, by decide +kernel, by decide +kernel⟩
abbrev s_neighbours : Stmt := top 15
theorem sc_neighbours : FnScope ["place"] ["place"] (defScope s_neighbours) := ⟨rfl, rfl, rfl, by decide +kernel, rfl, by decide +kernel, by decide +kernel⟩
abbrev s_great : Stmt := top 24
theorem sc_great : FnScope ["place"] ["place"] (defScope s_great) := ⟨rfl, rfl, rfl, by decide +kernel, rfl, by decide +kernel, by decide +kernel⟩
abbrev s_rest : Stmt := top 25
theorem sc_rest : FnScope ["place"] ["place"] (defScope s_rest) := ⟨rfl, rfl, rfl, by decide +kernel, rfl, by decide +kernel, by decide +kernel⟩
abbrev s_place_of_rest : Stmt := top 26
theorem sc_place_of_rest : FnScope ["figure"] ["figure"] (defScope s_place_of_rest) := ⟨rfl, rfl, rfl, by decide +kernel, rfl, by decide +kernel, by decide +kernel⟩
abbrev s_centre : Stmt := top 27
theorem sc_centre : FnScope ["place", "great_step"] ["place"] (defScope s_centre) := ⟨rfl, rfl, rfl, by decide +kernel, rfl, by decide +kernel, by decide +kernel⟩
abbrev s_address : Stmt := top 28
theorem sc_address : FnScope ["place", "figures", "now"] ["place"] (defScope s_address) := ⟨rfl, rfl, rfl, by decide +kernel, rfl, by decide +kernel, by decide +kernel⟩
abbrev s_place_of : Stmt := top 29
theorem sc_place_of : FnScope ["figures", "now", "figure"] ["figures"] (defScope s_place_of) := ⟨rfl, rfl, rfl, by decide +kernel, rfl, by decide +kernel, by decide +kernel⟩
abbrev s_refuse_no_level : Stmt := top 33
theorem sc_refuse_no_level : FnScope ["level"] ["level"] (defScope s_refuse_no_level) := ⟨rfl, rfl, rfl, by decide +kernel, rfl, by decide +kernel, by decide +kernel⟩
abbrev s_refuse_no_figures : Stmt := top 34
theorem sc_refuse_no_figures : FnScope ["beginnings", "beginning", "figure"] ["beginnings"] (defScope s_refuse_no_figures) := ⟨rfl, rfl, rfl, by decide +kernel, rfl, by decide +kernel, by decide +kernel⟩
abbrev s_refuse_too_long : Stmt := top 35
theorem sc_refuse_too_long : FnScope ["level", "beginnings", "beginning"] ["level", "beginnings"] (defScope s_refuse_too_long) := ⟨rfl, rfl, rfl, by decide +kernel, rfl, by decide +kernel, by decide +kernel⟩
abbrev s_line_of : Stmt := top 36
theorem sc_line_of : FnScope ["level", "place", "figures"] ["level", "place"] (defScope s_line_of) := ⟨rfl, rfl, rfl, by decide +kernel, rfl, by decide +kernel, by decide +kernel⟩
abbrev s_one_figure_longer : Stmt := top 37
theorem sc_one_figure_longer : FnScope ["beginnings", "longer", "beginning", "figure"] ["beginnings"] (defScope s_one_figure_longer) := ⟨rfl, rfl, rfl, by decide +kernel, rfl, by decide +kernel, by decide +kernel⟩
abbrev s_lines_of : Stmt := top 38
theorem sc_lines_of : FnScope ["level", "beginning", "lines", "missing"] ["level", "beginning"] (defScope s_lines_of) := ⟨rfl, rfl, rfl, by decide +kernel, rfl, by decide +kernel, by decide +kernel⟩
abbrev s_lines_of_all : Stmt := top 39
theorem sc_lines_of_all : FnScope ["level", "beginnings", "unlike", "beginning", "lines", "line"] ["level", "beginnings"] (defScope s_lines_of_all) := ⟨rfl, rfl, rfl, by decide +kernel, rfl, by decide +kernel, by decide +kernel⟩
abbrev s_Region_init : Stmt := inClass (top 32) 0
theorem sc_Region_init : FnScope ["self", "level", "beginnings"] ["self", "level", "beginnings"] (defScope s_Region_init) := ⟨rfl, rfl, rfl, by decide +kernel, rfl, by decide +kernel, by decide +kernel⟩
abbrev s_Region_holds : Stmt := inClass (top 32) 2
theorem sc_Region_holds : FnScope ["self", "place"] ["self", "place"] (defScope s_Region_holds) := ⟨rfl, rfl, rfl, by decide +kernel, rfl, by decide +kernel, by decide +kernel⟩
abbrev s_Region_cells : Stmt := inClass (top 32) 4
theorem sc_Region_cells : FnScope ["self"] ["self"] (defScope s_Region_cells) := ⟨rfl, rfl, rfl, by decide +kernel, rfl, by decide +kernel, by decide +kernel⟩
abbrev s_refuse_outside : Stmt := top 17
theorem sc_refuse_outside : FnScope ["region", "place"] ["region", "place"] (defScope s_refuse_outside) := ⟨rfl, rfl, rfl, by decide +kernel, rfl, by decide +kernel, by decide +kernel⟩
abbrev s_levels : Stmt := top 18
theorem sc_levels : FnScope ["region", "place", "inside", "cell", "steps_to", "reached", "walked", "now", "beside"] ["region", "place"] (defScope s_levels) := ⟨rfl, rfl, rfl, by decide +kernel, rfl, by decide +kernel, by decide +kernel⟩
abbrev s_first_one_nearer : Stmt := top 19
theorem sc_first_one_nearer : FnScope ["place", "steps_left", "nearer"] ["place", "steps_left"] (defScope s_first_one_nearer) := ⟨rfl, rfl, rfl, by decide +kernel, rfl, by decide +kernel, by decide +kernel⟩
abbrev s_way : Stmt := top 20
theorem sc_way : FnScope ["region", "one", "other", "steps_left", "places", "now"] ["region", "one", "other"] (defScope s_way) := ⟨rfl, rfl, rfl, by decide +kernel, rfl, by decide +kernel, by decide +kernel⟩
abbrev s_law_cell_at : Stmt := top 41
theorem sc_law_cell_at : FnScope ["script", "k"] ["script", "k"] (defScope s_law_cell_at) := ⟨rfl, rfl, rfl, by decide +kernel, rfl, by decide +kernel, by decide +kernel⟩
abbrev s_law_whole : Stmt := top 42
theorem sc_law_whole : FnScope ["found"] ["found"] (defScope s_law_whole) := ⟨rfl, rfl, rfl, by decide +kernel, rfl, by decide +kernel, by decide +kernel⟩
abbrev s_law_place_alike : Stmt := top 43
theorem sc_law_place_alike : FnScope ["found", "due"] ["found", "due"] (defScope s_law_place_alike) := ⟨rfl, rfl, rfl, by decide +kernel, rfl, by decide +kernel, by decide +kernel⟩
abbrev s_law_step : Stmt := top 44
theorem sc_law_step : FnScope ["figure"] ["figure"] (defScope s_law_step) := ⟨rfl, rfl, rfl, by decide +kernel, rfl, by decide +kernel, by decide +kernel⟩
abbrev s_law_place : Stmt := top 45
theorem sc_law_place : FnScope ["figures", "q", "r", "figure", "far", "left"] ["figures"] (defScope s_law_place) := ⟨rfl, rfl, rfl, by decide +kernel, rfl, by decide +kernel, by decide +kernel⟩
abbrev s_law_lines : Stmt := top 46
theorem sc_law_lines : FnScope ["beginning", "level", "rows", "k", "fresh", "row", "figure"] ["beginning", "level"] (defScope s_law_lines) := ⟨rfl, rfl, rfl, by decide +kernel, rfl, by decide +kernel, by decide +kernel⟩
abbrev s_law_rows : Stmt := top 48
theorem sc_law_rows : FnScope ["script", "first", "level", "rows", "k", "cell", "size", "row", "j"] ["script", "first", "level"] (defScope s_law_rows) := ⟨rfl, rfl, rfl, by decide +kernel, rfl, by decide +kernel, by decide +kernel⟩
abbrev s_law_all : Stmt := top 49
theorem sc_law_all : FnScope ["rows", "level", "lines", "row", "line"] ["rows", "level"] (defScope s_law_all) := ⟨rfl, rfl, rfl, by decide +kernel, rfl, by decide +kernel, by decide +kernel⟩
abbrev s_law_near : Stmt := top 50
theorem sc_law_near : FnScope ["place", "out", "figure", "far"] ["place"] (defScope s_law_near) := ⟨rfl, rfl, rfl, by decide +kernel, rfl, by decide +kernel, by decide +kernel⟩
abbrev s_law_levels : Stmt := top 51
theorem sc_law_levels : FnScope ["cells", "place", "found", "line", "at", "far"] ["cells", "place"] (defScope s_law_levels) := ⟨rfl, rfl, rfl, by decide +kernel, rfl, by decide +kernel, by decide +kernel⟩
abbrev s_law_due : Stmt := top 52
theorem sc_law_due : FnScope ["found", "one", "row", "closer"] ["found", "one"] (defScope s_law_due) := ⟨rfl, rfl, rfl, by decide +kernel, rfl, by decide +kernel, by decide +kernel⟩
abbrev s_law_tried : Stmt := top 53
theorem sc_law_tried : FnScope ["region", "one", "other", "found", "kinds", "e"] ["region", "one", "other"] (defScope s_law_tried) := ⟨rfl, rfl, rfl, by decide +kernel, rfl, by decide +kernel, by decide +kernel⟩
abbrev s_law : Stmt := top 54
theorem sc_law : FnScope ["script", "level", "rows", "region", "cells", "line", "some", "edge", "one", "other", "tried", "found", "due", "k"] ["script"] (defScope s_law) := ⟨rfl, rfl, rfl, by decide +kernel, rfl, by decide +kernel, by decide +kernel⟩
set_option genInjectivity false in
set_option genSizeOfSpec false in
structure Adr where
  f_added : Addr
  x_added : FuncData
  f_taken : Addr
  x_taken : FuncData
  f_turned : Addr
  x_turned : FuncData
  f_step : Addr
  x_step : FuncData
  f_neighbours : Addr
  x_neighbours : FuncData
  f_great : Addr
  x_great : FuncData
  f_rest : Addr
  x_rest : FuncData
  f_place_of_rest : Addr
  x_place_of_rest : FuncData
  f_centre : Addr
  x_centre : FuncData
  f_address : Addr
  x_address : FuncData
  f_place_of : Addr
  x_place_of : FuncData
  f_refuse_no_level : Addr
  x_refuse_no_level : FuncData
  f_refuse_no_figures : Addr
  x_refuse_no_figures : FuncData
  f_refuse_too_long : Addr
  x_refuse_too_long : FuncData
  f_line_of : Addr
  x_line_of : FuncData
  f_one_figure_longer : Addr
  x_one_figure_longer : FuncData
  f_lines_of : Addr
  x_lines_of : FuncData
  f_lines_of_all : Addr
  x_lines_of_all : FuncData
  f_Region_init : Addr
  x_Region_init : FuncData
  f_Region_holds : Addr
  x_Region_holds : FuncData
  f_Region_cells : Addr
  x_Region_cells : FuncData
  f_refuse_outside : Addr
  x_refuse_outside : FuncData
  f_levels : Addr
  x_levels : FuncData
  f_first_one_nearer : Addr
  x_first_one_nearer : FuncData
  f_way : Addr
  x_way : FuncData
  f_law_cell_at : Addr
  x_law_cell_at : FuncData
  f_law_whole : Addr
  x_law_whole : FuncData
  f_law_place_alike : Addr
  x_law_place_alike : FuncData
  f_law_step : Addr
  x_law_step : FuncData
  f_law_place : Addr
  x_law_place : FuncData
  f_law_lines : Addr
  x_law_lines : FuncData
  f_law_rows : Addr
  x_law_rows : FuncData
  f_law_all : Addr
  x_law_all : FuncData
  f_law_near : Addr
  x_law_near : FuncData
  f_law_levels : Addr
  x_law_levels : FuncData
  f_law_due : Addr
  x_law_due : FuncData
  f_law_tried : Addr
  x_law_tried : FuncData
  f_law : Addr
  x_law : FuncData
  a_MIDDLE : Addr
  a_FIRST_STEP : Addr
  a_DIRECTIONS : Addr
  a_FIGURES : Addr
  a_FIGURE_BY_REMAINDER : Addr
  a_LEVELS : Addr
  c_NoFigure : Addr
  c_FloorError : Addr
  c_NoCell : Addr
  c_NoLevel : Addr
  c_Apart : Addr
  c_Region : Addr
structure Txt (K : PySem.W.Frag) (mg : Str → Option Value) (t : Adr) : Prop where
  d_added : Dn K mg "added" "added" s_added t.f_added t.x_added ["one", "other"]
  d_taken : Dn K mg "taken" "taken" s_taken t.f_taken t.x_taken ["one", "other"]
  d_turned : Dn K mg "turned" "turned" s_turned t.f_turned t.x_turned ["place", "sixths"]
  d_step : Dn K mg "step" "step" s_step t.f_step t.x_step ["direction"]
  d_neighbours : Dn K mg "neighbours" "neighbours" s_neighbours t.f_neighbours t.x_neighbours ["place"]
  d_great : Dn K mg "great" "great" s_great t.f_great t.x_great ["place"]
  d_rest : Dn K mg "rest" "rest" s_rest t.f_rest t.x_rest ["place"]
  d_place_of_rest : Dn K mg "place_of_rest" "place_of_rest" s_place_of_rest t.f_place_of_rest t.x_place_of_rest ["figure"]
  d_centre : Dn K mg "centre" "centre" s_centre t.f_centre t.x_centre ["place"]
  d_address : Dn K mg "address" "address" s_address t.f_address t.x_address ["place"]
  d_place_of : Dn K mg "place_of" "place_of" s_place_of t.f_place_of t.x_place_of ["figures"]
  d_refuse_no_level : Dn K mg "refuse_no_level" "refuse_no_level" s_refuse_no_level t.f_refuse_no_level t.x_refuse_no_level ["level"]
  d_refuse_no_figures : Dn K mg "refuse_no_figures" "refuse_no_figures" s_refuse_no_figures t.f_refuse_no_figures t.x_refuse_no_figures ["beginnings"]
  d_refuse_too_long : Dn K mg "refuse_too_long" "refuse_too_long" s_refuse_too_long t.f_refuse_too_long t.x_refuse_too_long ["level", "beginnings"]
  d_line_of : Dn K mg "line_of" "line_of" s_line_of t.f_line_of t.x_line_of ["level", "place"]
  d_one_figure_longer : Dn K mg "one_figure_longer" "one_figure_longer" s_one_figure_longer t.f_one_figure_longer t.x_one_figure_longer ["beginnings"]
  d_lines_of : Dn K mg "lines_of" "lines_of" s_lines_of t.f_lines_of t.x_lines_of ["level", "beginning"]
  d_lines_of_all : Dn K mg "lines_of_all" "lines_of_all" s_lines_of_all t.f_lines_of_all t.x_lines_of_all ["level", "beginnings"]
  d_Region_init : Dm K t.c_Region "__init__" "Region.__init__" s_Region_init t.f_Region_init t.x_Region_init ["self", "level", "beginnings"]
  d_Region_holds : Dm K t.c_Region "holds" "Region.holds" s_Region_holds t.f_Region_holds t.x_Region_holds ["self", "place"]
  d_Region_cells : Dm K t.c_Region "cells" "Region.cells" s_Region_cells t.f_Region_cells t.x_Region_cells ["self"]
  d_refuse_outside : Dn K mg "refuse_outside" "refuse_outside" s_refuse_outside t.f_refuse_outside t.x_refuse_outside ["region", "place"]
  d_levels : Dn K mg "levels" "levels" s_levels t.f_levels t.x_levels ["region", "place"]
  d_first_one_nearer : Dn K mg "first_one_nearer" "first_one_nearer" s_first_one_nearer t.f_first_one_nearer t.x_first_one_nearer ["place", "steps_left"]
  d_way : Dn K mg "way" "way" s_way t.f_way t.x_way ["region", "one", "other"]
  d_law_cell_at : Dn K mg "_law_cell_at" "_law_cell_at" s_law_cell_at t.f_law_cell_at t.x_law_cell_at ["script", "k"]
  d_law_whole : Dn K mg "_law_whole" "_law_whole" s_law_whole t.f_law_whole t.x_law_whole ["found"]
  d_law_place_alike : Dn K mg "_law_place_alike" "_law_place_alike" s_law_place_alike t.f_law_place_alike t.x_law_place_alike ["found", "due"]
  d_law_step : Dn K mg "_law_step" "_law_step" s_law_step t.f_law_step t.x_law_step ["figure"]
  d_law_place : Dn K mg "_law_place" "_law_place" s_law_place t.f_law_place t.x_law_place ["figures"]
  d_law_lines : Dn K mg "_law_lines" "_law_lines" s_law_lines t.f_law_lines t.x_law_lines ["beginning", "level"]
  d_law_rows : Dn K mg "_law_rows" "_law_rows" s_law_rows t.f_law_rows t.x_law_rows ["script", "first", "level"]
  d_law_all : Dn K mg "_law_all" "_law_all" s_law_all t.f_law_all t.x_law_all ["rows", "level"]
  d_law_near : Dn K mg "_law_near" "_law_near" s_law_near t.f_law_near t.x_law_near ["place"]
  d_law_levels : Dn K mg "_law_levels" "_law_levels" s_law_levels t.f_law_levels t.x_law_levels ["cells", "place"]
  d_law_due : Dn K mg "_law_due" "_law_due" s_law_due t.f_law_due t.x_law_due ["found", "one"]
  d_law_tried : Dn K mg "_law_tried" "_law_tried" s_law_tried t.f_law_tried t.x_law_tried ["region", "one", "other"]
  d_law : Dn K mg "law" "law" s_law t.f_law t.x_law ["script"]
  g_MIDDLE : mg "MIDDLE" = some (.ref t.a_MIDDLE)
  v_MIDDLE : ∀ H, SqT K H t.a_MIDDLE [.int 0, .int 0]
  g_FIRST_STEP : mg "FIRST_STEP" = some (.ref t.a_FIRST_STEP)
  v_FIRST_STEP : ∀ H, SqT K H t.a_FIRST_STEP [.int 1, .int 0]
  g_DIRECTIONS : mg "DIRECTIONS" = some (.ref t.a_DIRECTIONS)
  v_DIRECTIONS : ∀ H, SqT K H t.a_DIRECTIONS [.int 1, .int 2, .int 3, .int 4, .int 5, .int 6]
  g_FIGURES : mg "FIGURES" = some (.ref t.a_FIGURES)
  v_FIGURES : ∀ H, SqT K H t.a_FIGURES [.int 0, .int 1, .int 2, .int 3, .int 4, .int 5, .int 6]
  g_FIGURE_BY_REMAINDER : mg "FIGURE_BY_REMAINDER" = some (.ref t.a_FIGURE_BY_REMAINDER)
  v_FIGURE_BY_REMAINDER : ∀ H, SqT K H t.a_FIGURE_BY_REMAINDER [.int 0, .int 1, .int 5, .int 6, .int 3, .int 2, .int 4]
  g_LEVELS : mg "LEVELS" = some (.ref t.a_LEVELS)
  v_LEVELS : ∀ H, SqT K H t.a_LEVELS [.int 0, .int 1, .int 2, .int 3, .int 4]
  n_len : mg "len" = none
  n_isinstance : mg "isinstance" = none
  n_range : mg "range" = none
  n_tuple : mg "tuple" = none
  n_list : mg "list" = none
  n_max : mg "max" = none
  n_sorted : mg "sorted" = none
  n_int : mg "int" = none
  n_bool : mg "bool" = none
  m_NoFigure : mg "NoFigure" = some (.ref t.c_NoFigure)
  m_FloorError : mg "FloorError" = some (.ref t.c_FloorError)
  m_NoCell : mg "NoCell" = some (.ref t.c_NoCell)
  m_NoLevel : mg "NoLevel" = some (.ref t.c_NoLevel)
  m_Apart : mg "Apart" = some (.ref t.c_Apart)
  m_Region : mg "Region" = some (.ref t.c_Region)
  xc_NoLevel : PySem.W.excIn K t.c_NoLevel vmro "ValueError.__new__" = true
  xa_NoLevel : XAt K t.c_NoLevel
  xc_NoFigure : PySem.W.excIn K t.c_NoFigure vmro "ValueError.__new__" = true
  xa_NoFigure : XAt K t.c_NoFigure
  xc_NoCell : PySem.W.excIn K t.c_NoCell vmro "ValueError.__new__" = true
  xa_NoCell : XAt K t.c_NoCell
  xc_Apart : PySem.W.excIn K t.c_Apart vmro "ValueError.__new__" = true
  xa_Apart : XAt K t.c_Apart
  xs_NoCell_FloorError : XSub K t.c_NoCell t.c_FloorError
  xs_Apart_FloorError : XSub K t.c_Apart t.c_FloorError
  ki_NoCell_Apart : PySem.W.kitOne K (.ref t.c_NoCell) (.ref t.c_Apart) = some false
  ki_NoCell_NoCell : PySem.W.kitOne K (.ref t.c_NoCell) (.ref t.c_NoCell) = some true
  ki_NoCell_NoFigure : PySem.W.kitOne K (.ref t.c_NoCell) (.ref t.c_NoFigure) = some false
  ki_NoCell_NoLevel : PySem.W.kitOne K (.ref t.c_NoCell) (.ref t.c_NoLevel) = some false
  ki_Apart_Apart : PySem.W.kitOne K (.ref t.c_Apart) (.ref t.c_Apart) = some true
  ki_Apart_NoCell : PySem.W.kitOne K (.ref t.c_Apart) (.ref t.c_NoCell) = some false
  ki_Apart_NoFigure : PySem.W.kitOne K (.ref t.c_Apart) (.ref t.c_NoFigure) = some false
  ki_Apart_NoLevel : PySem.W.kitOne K (.ref t.c_Apart) (.ref t.c_NoLevel) = some false
  k_Region : Mk K t.c_Region t.f_Region_init
  cl_Region : Cls K t.c_Region
  na_Region_level : NoAttr K t.c_Region "level"
  na_Region_lines : NoAttr K t.c_Region "lines"
section
variable {P : Program} {w : World} {K : PySem.W.Frag} {mg : Str → Option Value} {base : Heap} {t : Adr}
theorem txt_ex {P : Adr → Prop} (h : ∃ t, Txt K mg t ∧ P t) : ∃ t, Txt K mg t := let ⟨t, T, _⟩ := h; ⟨t, T⟩
def sp_two (f : Int → Int → Int) (K : PySem.W.Frag) : Sp := fun vs H Q _ => ∃ v u q r q' r', vs = [v, u] ∧ Pl K H v q r ∧ Pl K H u q' r' ∧ ∀ p H', Same H H' → Pl K H' p (f q q') (f r r') → Q p H'

def sp_twoP (f : Int → Int → Int) (K : PySem.W.Frag) : Sp := fun vs H Q _ => ∃ v u q r q' r', vs = [v, u] ∧ Pl K H v q r ∧ Pl K H u q' r' ∧ ∀ p H', Same H H' → Pt H' p (f q q', f r r') → Q p H'
theorem ok_addedP (T : Txt K mg t) : FnOk P w K mg base CX0 1 t.f_added t.x_added ["one", "other"] (sp_twoP (· + ·) K) := by
  refine T.d_added.F.ok sc_added (fun vs H Q E h => ?_) (fun cdv A outer s H vs Q E hr h => ?_)
  · obtain ⟨v, u, q, r, q', r', rfl, _⟩ := h; rfl
  · obtain ⟨_, _, q, r, q', r', rfl, ⟨a, rfl, ha⟩, ⟨b, rfl, hb⟩, k⟩ := h
    refine ⟨_, (pss_one (ps_ret (pe_tupN (pa_cons (pe_op op_add (pe_ix ix_tup (pv 0) pe_int (fun _ _ => rfl)) (pe_ix ix_tup (pv 1) pe_int (fun _ _ => rfl))) (pa_cons (pe_op op_add (pe_ix ix_tup (pv 0) pe_int (fun _ _ => rfl)) (pe_ix ix_tup (pv 1) pe_int (fun _ _ => rfl))) pa_nil))))), ?_⟩
    walk_at "rd"
    intro p H' s' _ hp
    exact k _ _ s' ⟨p, rfl, hp⟩
theorem ok_taken (T : Txt K mg t) : FnOk P w K mg base CX0 1 t.f_taken t.x_taken ["one", "other"] (sp_two (· - ·) K) := by
  refine T.d_taken.F.ok sc_taken (fun vs H Q E h => ?_) (fun cdv A outer s H vs Q E hr h => ?_)
  · obtain ⟨v, u, q, r, q', r', rfl, _⟩ := h; rfl
  · obtain ⟨_, _, q, r, q', r', rfl, ⟨a, rfl, ha⟩, ⟨b, rfl, hb⟩, k⟩ := h
    refine ⟨_, (pss_one (ps_ret (pe_tupN (pa_cons (pe_op op_sub (pe_ix ix_tup (pv 0) pe_int (fun _ _ => rfl)) (pe_ix ix_tup (pv 1) pe_int (fun _ _ => rfl))) (pa_cons (pe_op op_sub (pe_ix ix_tup (pv 0) pe_int (fun _ _ => rfl)) (pe_ix ix_tup (pv 1) pe_int (fun _ _ => rfl))) pa_nil))))), ?_⟩
    walk_at "rd"
    intro p H' s' _ hp
    exact k _ _ s' ⟨p, rfl, SqT.of hp⟩

def sp_turned (K : PySem.W.Frag) : Sp := fun vs H Q _ => ∃ v n q r, vs = [v, .int n] ∧ Pl K H v q r ∧ ∀ p H', Same H H' → Pl K H' p (tq (n % 6) q r) (tr (n % 6) q r) → Q p H'
theorem ok_turned (T : Txt K mg t) : FnOk P w K mg base CX0 1 t.f_turned t.x_turned ["place", "sixths"] (sp_turned K) := by
  refine T.d_turned.F.ok sc_turned (fun vs H Q E h => ?_) (fun cdv A outer s H vs Q E hr h => ?_)
  · obtain ⟨v, n, q, r, rfl, _⟩ := h; rfl
  · obtain ⟨_, n, q, r, rfl, ⟨a, rfl, ha⟩, k⟩ := h
    refine ⟨_, (pss_cons (ps_set (i := 2) sc_turned.nd rfl (by first | exact Or.inl rfl | exact Or.inr rfl) (pe_tupN (pa_cons (pe_ix ix_tup (pv 0) pe_int (fun _ _ => rfl)) (pa_cons (pe_ix ix_tup (pv 0) pe_int (fun _ _ => rfl)) pa_nil))))
      (pss_cons (ps_for PassesOwn.never rfl (pi_range1 rfl T.n_range (pa_cons (pe_op op_mod (pv 1) pe_int) pa_nil)) (pg_name (i := 3) sc_turned.nd rfl (by first | exact Or.inl rfl | exact Or.inr rfl))
        (pss_one (ps_set (i := 2) sc_turned.nd rfl (by first | exact Or.inl rfl | exact Or.inr rfl) (pe_tupN (pa_cons (pe_un un_neg (pe_ix ix_tup (pv 2) pe_int (fun _ _ => rfl))) (pa_cons (pe_op op_add (pe_ix ix_tup (pv 2) pe_int (fun _ _ => rfl)) (pe_ix ix_tup (pv 2) pe_int (fun _ _ => rfl))) pa_nil))))))
      (pss_one (ps_ret (pv 2))))), ?_⟩
    walk_at "rd"
    intro p H0 s0 _ hp
    walk_at "rd"
    refine for_range (lo := 0) (n := (n % 6).toNat) (fun i σ H' => ∃ p x, σ = [some (.ref a), some (.int n), some (.ref p), x] ∧ Same H H' ∧ SqT K H' p [.int (tq i q r), .int (tr i q r)])
      ⟨p, none, rfl, s0, SqT.of hp⟩ ?_ ?_
    · rintro i σ H' hi ⟨p', x, rfl, s', hp'⟩
      walk_at "rd"
      intro p2 H2 s2 _ hp2
      refine ⟨p2, _, rfl, s'.trans s2, ?_⟩
      have e := tq_step (i := (i : Int)) (by omega) (by omega) q r
      rw [show (((i + 1 : Nat)) : Int) = (i : Int) + 1 by omega, e.1, e.2]
      exact SqT.of hp2
    · rintro σ H' ⟨p', x, rfl, s', hp'⟩
      walk_at "rd"
      refine k _ _ s' ⟨p', rfl, ?_⟩
      rw [show (((n % 6).toNat : Nat) : Int) = n % 6 by omega] at hp'
      exact hp'

def sp_step (K : PySem.W.Frag) : Sp := fun vs H Q _ => ∃ d, vs = [.int d] ∧ 1 ≤ d ∧ d ≤ 6 ∧ ∀ p H', Same H H' → Pl K H' p (tq (d - 1) 1 0) (tr (d - 1) 1 0) → Q p H'
theorem ok_step (T : Txt K mg t) : FnOk P w K mg base CX0 2 t.f_step t.x_step ["direction"] (sp_step K) := by
  have G_turned := ok_turned (P := P) (w := w) (base := base) T
  refine T.d_step.F.ok sc_step (fun vs H Q E h => ?_) (fun cdv A outer s H vs Q E hr h => ?_)
  · obtain ⟨d, rfl, _⟩ := h; rfl
  · obtain ⟨d, rfl, d1, d6, k⟩ := h
    refine ⟨_, (pss_cons (ps_if (pt_cmpR op_notIn_seq (pv 0) (pe_glob (v := .ref t.a_DIRECTIONS) rfl T.g_DIRECTIONS rfl) rfl)
        (pss_one ps_never)
        pss_nil)
      (pss_one (ps_ret (pcall T.d_turned G_turned (hr.mono (by decide)) (pa_cons (pe_glob (v := .ref t.a_FIRST_STEP) rfl T.g_FIRST_STEP rfl) (pa_cons (pe_op op_sub (pv 0) pe_int) pa_nil)))))), ?_⟩
    refine ⟨_, rfl, _, _, rfl, .inr (T.v_DIRECTIONS H), rfl, rfl, _, rfl, ?_⟩
    have hin : inV (V.int d) [.int 1, .int 2, .int 3, .int 4, .int 5, .int 6] = true := by
      have : d = 1 ∨ d = 2 ∨ d = 3 ∨ d = 4 ∨ d = 5 ∨ d = 6 := by omega
      rcases this with rfl | rfl | rfl | rfl | rfl | rfl <;> rfl
    rw [hin]
    refine iteF ?_
    refine ⟨_, rfl, _, _, rfl, rfl, _, d - 1, 1, 0, rfl, ⟨_, rfl, T.v_FIRST_STEP H⟩, fun p H' s' hp => ?_⟩
    rw [show (d - 1) % 6 = d - 1 by omega] at hp
    exact k p H' s' hp

def sp_great (K : PySem.W.Frag) : Sp := fun vs H Q _ => ∃ v q r, vs = [v] ∧ Pl K H v q r ∧ ∀ p H', Same H H' → Pl K H' p (2 * q - r) (q + 3 * r) → Q p H'
theorem ok_great (T : Txt K mg t) : FnOk P w K mg base CX0 1 t.f_great t.x_great ["place"] (sp_great K) := by
  refine T.d_great.F.ok sc_great (fun vs H Q E h => ?_) (fun cdv A outer s H vs Q E hr h => ?_)
  · obtain ⟨v, q, r, rfl, _⟩ := h; rfl
  · obtain ⟨_, q, r, rfl, ⟨a, rfl, ha⟩, k⟩ := h
    refine ⟨_, (pss_one (ps_ret (pe_tupN (pa_cons (pe_op op_sub (pe_op op_mul pe_int (pe_ix ix_tup (pv 0) pe_int (fun _ _ => rfl))) (pe_ix ix_tup (pv 0) pe_int (fun _ _ => rfl))) (pa_cons (pe_op op_add (pe_ix ix_tup (pv 0) pe_int (fun _ _ => rfl)) (pe_op op_mul pe_int (pe_ix ix_tup (pv 0) pe_int (fun _ _ => rfl)))) pa_nil))))), ?_⟩
    walk_at "rd"
    intro p H' s' _ hp
    exact k _ _ s' ⟨p, rfl, SqT.of hp⟩
theorem at_rest (q r : Int) : atI [V.int 0, .int 1, .int 5, .int 6, .int 3, .int 2, .int 4] ((q - 2 * r) % 7) = some (V.int (rs q r)) := by
  rcases rs_cases q r with ⟨m, h⟩ | ⟨m, h⟩ | ⟨m, h⟩ | ⟨m, h⟩ | ⟨m, h⟩ | ⟨m, h⟩ | ⟨m, h⟩ <;> rw [m, h] <;> rfl
def sp_rest (K : PySem.W.Frag) : Sp := fun vs H Q _ => ∃ v q r, vs = [v] ∧ Pl K H v q r ∧ Q (.int (rs q r)) H
theorem ok_rest (T : Txt K mg t) : FnOk P w K mg base CX0 1 t.f_rest t.x_rest ["place"] (sp_rest K) := by
  refine T.d_rest.F.ok sc_rest (fun vs H Q E h => ?_) (fun cdv A outer s H vs Q E hr h => ?_)
  · obtain ⟨v, q, r, rfl, _⟩ := h; rfl
  · obtain ⟨_, q, r, rfl, ⟨a, rfl, ha⟩, k⟩ := h
    refine ⟨_, (pss_one (ps_ret (pe_ix ix_tup (pe_glob (v := .ref t.a_FIGURE_BY_REMAINDER) rfl T.g_FIGURE_BY_REMAINDER rfl) (pe_op op_mod (pe_op op_sub (pe_ix ix_tup (pv 0) pe_int (fun _ _ => rfl)) (pe_op op_mul pe_int (pe_ix ix_tup (pv 0) pe_int (fun _ _ => rfl)))) pe_int) (fun _ _ => rfl)))), ?_⟩
    refine ⟨_, rfl, _, _, _, _, rfl, rfl, ha, (by rfl), _, rfl, _, _, _, _, rfl, rfl, ha, (by rfl), _, _, rfl, rfl, .inl ⟨by decide, by decide⟩, _, _, rfl, rfl, _, _, rfl, rfl, (by show (0 : Int) < 7; decide), ?_⟩
    exact ⟨_, _, _, .int (rs q r), rfl, rfl, T.v_FIGURE_BY_REMAINDER H, at_rest q r, k⟩
theorem f_dir {f : Int} (h1 : 1 ≤ f) (h6 : f ≤ 6) : tq (f - 1) 1 0 = fq f ∧ tr (f - 1) 1 0 = fr f := by
  have : f = 1 ∨ f = 2 ∨ f = 3 ∨ f = 4 ∨ f = 5 ∨ f = 6 := by omega
  rcases this with rfl | rfl | rfl | rfl | rfl | rfl <;> exact ⟨by decide, by decide⟩
def sp_porE (K : PySem.W.Frag) (c : Addr) : Sp := fun vs H Q E => ∃ f, vs = [.int f] ∧ (Fig f → ∀ p H', Same H H' → Pl K H' p (fq f) (fr f) → Q p H') ∧ (¬ Fig f → E (.ref c) none H)
theorem okE_place_of_rest (T : Txt K mg t) : FnOk P w K mg base (CXE P w) 3 t.f_place_of_rest t.x_place_of_rest ["figure"] (sp_porE K t.c_NoFigure) := by
  have G_step := ok_step (P := P) (w := w) (base := base) T
  refine T.d_place_of_rest.F.okE sc_place_of_rest (fun vs H Q E h => ?_) (fun cdv A outer s H vs Q E hr h => ?_)
  · obtain ⟨d, rfl, _⟩ := h; rfl
  · obtain ⟨f, rfl, k1, k2⟩ := h
    refine ⟨_, (pss_cons (ps_if (pt_cmpR op_notIn_seq (pv 0) (pe_glob (v := .ref t.a_FIGURES) rfl T.g_FIGURES rfl) rfl)
        (pss_one (ps_raise rfl T.m_NoFigure T.xc_NoFigure raiseE (pa_cons pe_str pa_nil)))
        pss_nil)
      (pss_cons (ps_if (pt_cmpR op_eq (pv 0) pe_int (nomark _))
        (pss_one (ps_ret (pe_glob (v := .ref t.a_MIDDLE) rfl T.g_MIDDLE rfl)))
        pss_nil)
      (pss_one (ps_ret (pcall T.d_step G_step (hr.mono (by decide)) (pa_cons (pv 0) pa_nil)))))), ?_⟩
    refine ⟨_, rfl, _, _, rfl, .inr (T.v_FIGURES H), rfl, rfl, _, rfl, ?_⟩
    by_cases hd : Fig f
    · have hin : inV (V.int f) [.int 0, .int 1, .int 2, .int 3, .int 4, .int 5, .int 6] = true := by
        rcases fig_cases hd with rfl | rfl | rfl | rfl | rfl | rfl | rfl <;> rfl
      rw [hin]
      refine iteF ?_
      refine ⟨_, rfl, rfl, _, rfl, ite2 (fun hz => ?_) (fun hz => ?_)⟩
      · have hz : f = 0 := by simpa using of_decide_eq_true hz
        subst hz
        exact k1 hd _ _ (Same.refl _) ⟨_, rfl, T.v_MIDDLE H⟩
      · have hz : f ≠ 0 := fun e => hz (decide_eq_true (by rw [e]))
        obtain ⟨h0, h6⟩ := hd
        refine ⟨_, rfl, f, rfl, by omega, h6, fun p H' s' hp => ?_⟩
        have e := f_dir (f := f) (by omega) h6
        rw [e.1, e.2] at hp
        exact k1 ⟨h0, h6⟩ p H' s' hp
    · have hin : inV (V.int f) [.int 0, .int 1, .int 2, .int 3, .int 4, .int 5, .int 6] = false := by
        simp only [inV, eqV, List.any_cons, List.any_nil, Bool.or_false, Bool.or_eq_false_iff, beq_eq_false_iff_ne]
        simp only [Fig] at hd
        omega
      rw [hin]
      refine iteT ?_
      exact ⟨(by walk_at "rdc"), k2 hd⟩
theorem ok_place_of_rest (T : Txt K mg t) : FnOk P w K mg base CX0 3 t.f_place_of_rest t.x_place_of_rest ["figure"] (fun vs H Q _ => sp_porE K t.c_NoFigure vs H Q E0) := (okE_place_of_rest (P := P) (w := w) (base := base) T).down

def sp_centre (K : PySem.W.Frag) : Sp := fun vs H Q _ => ∃ v q r, vs = [v] ∧ Pl K H v q r ∧ ∀ p H', Same H H' → Pl K H' p (cq q r) (cr q r) → Q p H'
theorem ok_centre (T : Txt K mg t) : FnOk P w K mg base CX0 4 t.f_centre t.x_centre ["place"] (sp_centre K) := by
  have G_taken := ok_taken (P := P) (w := w) (base := base) T
  have G_rest := ok_rest (P := P) (w := w) (base := base) T
  have G_place_of_rest := ok_place_of_rest (P := P) (w := w) (base := base) T
  refine T.d_centre.F.ok sc_centre (fun vs H Q E h => ?_) (fun cdv A outer s H vs Q E hr h => ?_)
  · obtain ⟨v, q, r, rfl, _⟩ := h; rfl
  · obtain ⟨_, q, r, rfl, ⟨a, rfl, ha⟩, k⟩ := h
    refine ⟨_, (pss_cons (ps_set (i := 1) sc_centre.nd rfl (by first | exact Or.inl rfl | exact Or.inr rfl) (pcall T.d_taken G_taken (hr.mono (by decide)) (pa_cons (pv 0) (pa_cons (pcall T.d_place_of_rest G_place_of_rest (hr.mono (by decide)) (pa_cons (pcall T.d_rest G_rest (hr.mono (by decide)) (pa_cons (pv 0) pa_nil)) pa_nil)) pa_nil))))
      (pss_one (ps_ret (pe_tupN (pa_cons (pe_op op_fdiv (pe_op op_add (pe_op op_mul pe_int (pe_ix ix_tup (pv 1) pe_int (fun _ _ => rfl))) (pe_ix ix_tup (pv 1) pe_int (fun _ _ => rfl))) pe_int) (pa_cons (pe_op op_fdiv (pe_op op_sub (pe_op op_mul pe_int (pe_ix ix_tup (pv 1) pe_int (fun _ _ => rfl))) (pe_ix ix_tup (pv 1) pe_int (fun _ _ => rfl))) pe_int) pa_nil)))))), ?_⟩
    refine ⟨_, rfl, _, rfl, _, q, r, rfl, ⟨a, rfl, ha⟩, rs q r, rfl, fun _ p1 H1 s1 h1 => ?_, fun z => absurd (rs_fig q r) z⟩
    refine ⟨_, _, q, r, _, _, rfl, ⟨a, rfl, s1.sqT ha⟩, h1, fun v2 H2 s2 ⟨p2, e2, h2⟩ => ?_⟩
    subst e2
    walk_at "rd"
    intro p H' s' _ hp
    exact k _ _ ((s1.trans s2).trans s') ⟨p, rfl, SqT.of hp⟩

def sp_address (K : PySem.W.Frag) : Sp := fun vs H Q _ => ∃ v q r A, vs = [v] ∧ Pl K H v q r ∧ Sev.Adr q r A ∧ A.length ≤ 1000 ∧ ∀ l H', Same H H' → H l = none → H' l = some (.lst (A.map V.int)) → Q (.ref l) H'
theorem ok_address (T : Txt K mg t) : FnOk P w K mg base CX0 5 t.f_address t.x_address ["place"] (sp_address K) := by
  have G_rest := ok_rest (P := P) (w := w) (base := base) T
  have G_centre := ok_centre (P := P) (w := w) (base := base) T
  refine T.d_address.F.ok sc_address (fun vs H Q E h => ?_) (fun cdv A outer s H vs Q E hr h => ?_)
  · obtain ⟨v, q, r, A, rfl, _⟩ := h; rfl
  · obtain ⟨_, q, r, A, rfl, ⟨a, rfl, ha⟩, hA, hlen, k⟩ := h
    have hu64 := hr.units
    refine ⟨_, (pss_cons (ps_set (i := 1) sc_address.nd rfl (by first | exact Or.inl rfl | exact Or.inr rfl) (pe_lstN pa_nil))
      (pss_cons (ps_set (i := 2) sc_address.nd rfl (by first | exact Or.inl rfl | exact Or.inr rfl) (pv 0))
      (pss_cons (ps_while PassesOwn.never (pt_cmpR (op_neTI hu64) (pv 2) (pe_glob (v := .ref t.a_MIDDLE) rfl T.g_MIDDLE rfl) (nomark _))
        (pss_cons (ps_expr (pe_bm PySem.F.plainAttrs_list PySem.F.slot_list_append PySem.F.type_list_append mt_append (pv 1) (pa_cons (pcall T.d_rest G_rest (hr.mono (by decide)) (pa_cons (pv 2) pa_nil)) pa_nil)))
        (pss_one (ps_set (i := 2) sc_address.nd rfl (by first | exact Or.inl rfl | exact Or.inr rfl) (pcall T.d_centre G_centre (hr.mono (by decide)) (pa_cons (pv 2) pa_nil))))))
      (pss_cons (ps_expr (pe_bm0 PySem.F.plainAttrs_list PySem.F.slot_list_reverse PySem.F.type_list_reverse mt_reverse (pv 1)))
      (pss_one (ps_ret (pv 1))))))), ?_⟩
    refine ⟨(by walk_at "rdc"), fun l Hl sl nl hl => ?_⟩
    refine ⟨_, rfl, ?_⟩
    refine ⟨fun m σ H' => ∃ p x y B L, σ = [some (.ref a), some (.ref l), some (.ref p)] ∧ Same H H' ∧ SqT K H' p [.int x, .int y] ∧ H' l = some (.lst (List.map V.int L)) ∧ Sev.Adr x y B ∧ A = B ++ L.reverse ∧ m = B.length,
      ⟨_, a, q, r, A, [], rfl, sl, sl.sqT ha, hl, hA, by simp, rfl⟩, ?_⟩
    rintro m σ H1 ⟨p, x, y, B, L, rfl, s1, hp, hl1, hB, eA, rfl⟩
    refine ⟨_, rfl, p, _, [x, y], [0, 0], rfl, rfl, hp, T.v_MIDDLE H1, _, rfl, ?_⟩
    by_cases hz : x = 0 ∧ y = 0
    · obtain ⟨rfl, rfl⟩ := hz
      refine iteF ?_
      have eB := hB.zero
      subst eB
      refine ⟨_, rfl, .inl ⟨rfl, _, SqL.of hl1⟩, l, _, rfl, rfl, hl1, ?_⟩
      refine ⟨_, rfl, ?_⟩
      refine k l _ (s1.upd nl) nl ?_
      rw [upd_same, eA, List.nil_append, List.map_reverse]
    · have hd : (!decide ([x, y] = [(0 : Int), 0])) = true := by
        simp only [Bool.not_eq_true', decide_eq_false_iff_not, List.cons.injEq, and_true]
        exact hz
      rw [hd]
      obtain ⟨B', rfl, hB'⟩ := hB.pos hz
      have hlen' : L.length < 1000 := by
        rw [eA] at hlen
        simp at hlen
        omega
      refine iteT ⟨fun σ' H' => ∃ p', σ' = [some (.ref a), some (.ref l), some (.ref p')] ∧ Same H H' ∧ SqT K H' p' [.int (cq x y), .int (cr x y)] ∧ H' l = some (.lst (List.map V.int (L ++ [rs x y]))), ?_, ?_⟩
      · rintro σ' H' ⟨p', rfl, s', hp', hl'⟩
        refine ⟨B'.length, by simp, p', _, _, B', L ++ [rs x y], rfl, s', hp', hl', hB', ?_, rfl⟩
        rw [eA]
        simp
      · refine ⟨_, rfl, .inl ⟨rfl, _, SqL.of hl1⟩, _, rfl, _, x, y, rfl, ⟨p, rfl, hp⟩, l, _, _, rfl, rfl, hl1, small1000 (by simp; omega), ?_⟩
        have hp2 := hp.updL (o := .lst (List.map V.int L ++ [V.int (rs x y)])) hl1
        refine ⟨_, rfl, _, x, y, rfl, ⟨p, rfl, hp2⟩, fun v3 H3 s3 ⟨p3, e3, h3⟩ => ?_⟩
        subst e3
        refine ⟨p3, rfl, (s1.upd nl).trans s3, h3, ?_⟩
        rw [List.map_append]
        exact s3 _ _ upd_same

theorem near_at (p : Bfs.P) {i : Nat} (h : i < 6) : (Bfs.nears p)[i]? = some (p.1 + fq ((i : Int) + 1), p.2 + fr ((i : Int) + 1)) := by
  have : i = 0 ∨ i = 1 ∨ i = 2 ∨ i = 3 ∨ i = 4 ∨ i = 5 := by omega
  rcases this with rfl | rfl | rfl | rfl | rfl | rfl <;> rfl
def sp_nearP (K : PySem.W.Frag) : Sp := fun vs H Q _ => ∃ v p, vs = [v] ∧ Pl K H v p.1 p.2 ∧ ∀ l us H', Same H H' → H l = none → H' l = some (.lst us) → Tups H' us ((Bfs.nears p).map Bfs.pr) → Q (.ref l) H'
theorem ok_neighboursP (T : Txt K mg t) : FnOk P w K mg base CX0 3 t.f_neighbours t.x_neighbours ["place"] (sp_nearP K) := by
  have G_added := ok_addedP (P := P) (w := w) (base := base) T
  have G_step := ok_step (P := P) (w := w) (base := base) T
  refine T.d_neighbours.F.ok sc_neighbours (fun vs H Q E h => ?_) (fun cdv A outer s H vs Q E hr h => ?_)
  · obtain ⟨v, p, rfl, _⟩ := h; rfl
  · obtain ⟨_, ⟨q, r⟩, rfl, ⟨a, rfl, ha⟩, k⟩ := h
    refine ⟨_, (pss_one (ps_ret (pe_lc (x := "direction") (fr := ["place"]) (js := [0]) ⟨rfl, by decide +kernel, by decide +kernel, rfl, rfl, by decide +kernel, by decide +kernel, by decide +kernel, by decide +kernel⟩ rfl rfl rfl (pi_tup (pe_glob (v := .ref t.a_DIRECTIONS) rfl T.g_DIRECTIONS rfl)) (fun cl fp s H => (pcall T.d_added G_added (hr.mono (by decide)) (pa_cons (pv 1) (pa_cons (pcall T.d_step G_step (hr.mono (by decide)) (pa_cons (pv 0) pa_nil)) pa_nil))))))), ?_⟩
    refine ⟨_, rfl, ⟨_, T.v_DIRECTIONS H⟩, fun D hD => ?_⟩
    refine lc_tup (xs := [.int 1, .int 2, .int 3, .int 4, .int 5, .int 6]) (fun i ys H' => Same H H' ∧ H' D = some (.lst ys) ∧ i ≤ 6 ∧ Tups H' ys (((Bfs.nears (q, r)).take i).map Bfs.pr))
      ⟨same_upd hD, upd_same, by omega, .nil⟩ (fun _ _ H' _ => T.v_DIRECTIONS H') ?_ ?_
    · rintro i x ys H1 hx ⟨s1, h1, hi, ht⟩
      have hi6 : i < 6 := (List.getElem?_eq_some_iff.mp hx).1
      have ex : x = .int ((i : Int) + 1) := by
        have : i = 0 ∨ i = 1 ∨ i = 2 ∨ i = 3 ∨ i = 4 ∨ i = 5 := by omega
        rcases this with rfl | rfl | rfl | rfl | rfl | rfl <;> (simp at hx; subst hx; rfl)
      subst ex
      refine ⟨_, rfl, _, rfl, (i : Int) + 1, rfl, by omega, by omega, fun p2 H2 s2 hp2 => ?_⟩
      have e := f_dir (f := (i : Int) + 1) (by omega) (by omega)
      rw [e.1, e.2] at hp2
      refine ⟨_, _, q, r, _, _, rfl, ⟨a, rfl, s2.sqT (s1.sqT ha)⟩, hp2, fun p3 H3 s3 hp3 => ?_⟩
      have h3 : H3 D = some (.lst ys) := s3 _ _ (s2 _ _ h1)
      have yl := ht.len
      rw [List.length_map, List.length_take, Bfs.nears_len] at yl
      refine lc_nx h3 (small1000 (by omega)) hi6 ⟨((s1.trans s2).trans s3).upd hD, upd_same, by omega, ?_⟩
      rw [Rg.take_snoc (near_at (q, r) hi6)]
      exact (((ht.keep (s2.trans s3)).snocPt hp3)).upd fun zs z => by rw [h3] at z; cases z
    · rintro ys H1 ⟨s1, h1, _, ht⟩
      rw [show (Bfs.nears (q, r)).take _ = Bfs.nears (q, r) from rfl] at ht
      exact k D ys H1 s1 hD h1 ht

def sp_pofP (K : PySem.W.Frag) : Sp := fun vs H Q _ => ∃ a xs, vs = [.ref a] ∧ Sq K H a xs ∧ (∀ f ∈ xs, Fig f) ∧ xs ≠ [] ∧ ∀ p H', Same H H' → Pt H' p (wk xs) → Q p H'
theorem ok_place_ofP (T : Txt K mg t) : FnOk P w K mg base CX0 4 t.f_place_of t.x_place_of ["figures"] (sp_pofP K) := by
  have G_added := ok_addedP (P := P) (w := w) (base := base) T
  have G_great := ok_great (P := P) (w := w) (base := base) T
  have G_place_of_rest := ok_place_of_rest (P := P) (w := w) (base := base) T
  refine T.d_place_of.F.ok sc_place_of (fun vs H Q E h => ?_) (fun cdv A outer s H vs Q E hr h => ?_)
  · obtain ⟨a, xs, rfl, _⟩ := h; rfl
  · obtain ⟨a, xs, rfl, ha, hfig, hne, k⟩ := h
    refine ⟨_, (pss_cons (ps_set (i := 1) sc_place_of.nd rfl (by first | exact Or.inl rfl | exact Or.inr rfl) (pe_glob (v := .ref t.a_MIDDLE) rfl T.g_MIDDLE rfl))
      (pss_cons (ps_for PassesOwn.never rfl (pi_seq (pv 0)) (pg_name (i := 2) sc_place_of.nd rfl (by first | exact Or.inl rfl | exact Or.inr rfl))
        (pss_one (ps_set (i := 1) sc_place_of.nd rfl (by first | exact Or.inl rfl | exact Or.inr rfl) (pcall T.d_added G_added (hr.mono (by decide)) (pa_cons (pcall T.d_great G_great (hr.mono (by decide)) (pa_cons (pv 1) pa_nil)) (pa_cons (pcall T.d_place_of_rest G_place_of_rest (hr.mono (by decide)) (pa_cons (pv 2) pa_nil)) pa_nil))))))
      (pss_one (ps_ret (pv 1))))), ?_⟩
    refine ⟨_, rfl, a, rfl, for_seq ha (fun i σ H' => ∃ p x, σ = [some (.ref a), some p, x] ∧ Same H H' ∧ Pl K H' p (wk (xs.take i)).1 (wk (xs.take i)).2 ∧ (0 < i → Pt H' p (wk (xs.take i))))
      ⟨_, _, rfl, Same.refl _, ⟨_, rfl, T.v_MIDDLE H⟩, fun z => absurd z (Nat.lt_irrefl _)⟩ (fun i σ H' ⟨_, _, _, s', _⟩ => s') ?_ ?_⟩
    · rintro i x σ H1 hx ⟨p, y, rfl, s1, hp, _⟩
      rw [List.getElem?_map] at hx
      obtain ⟨f, hf, rfl⟩ := Option.map_eq_some_iff.mp hx
      refine ⟨_, rfl, p, _, _, rfl, hp, fun v2 H2 s2 h2 => ?_⟩
      refine ⟨_, rfl, f, rfl, fun _ p3 H3 s3 h3 => ?_, fun z => absurd (hfig f (List.mem_of_getElem? hf)) z⟩
      refine ⟨_, _, _, _, _, _, rfl, s3.pl h2, h3, fun v4 H4 s4 h4 => ?_⟩
      have e : Pt H4 v4 (wk (xs.take (i + 1))) := by rw [wk_take hf]; exact h4
      exact ⟨v4, _, rfl, ((s1.trans s2).trans s3).trans s4, e.pl, fun _ => e⟩
    · rintro σ H1 ⟨p, y, rfl, s1, hp, hpt⟩
      have hl : 0 < xs.length := List.length_pos_iff.mpr hne
      rw [List.length_map, List.take_length] at hpt
      exact ⟨_, rfl, k _ _ s1 (hpt hl)⟩

def sp_rlvE (c : Addr) : Sp := fun vs H Q E => ∃ n : Int, vs = [.int n] ∧ (0 ≤ n ∧ n ≤ 4 → Q .non H) ∧ (¬ (0 ≤ n ∧ n ≤ 4) → E (.ref c) none H)
theorem okE_refuse_no_level (T : Txt K mg t) : FnOk P w K mg base (CXE P w) 1 t.f_refuse_no_level t.x_refuse_no_level ["level"] (sp_rlvE t.c_NoLevel) := by
  refine T.d_refuse_no_level.F.okE sc_refuse_no_level (fun vs H Q E h => ?_) (fun cdv A outer s H vs Q E hr h => ?_)
  · obtain ⟨n, rfl, _⟩ := h; rfl
  · obtain ⟨n, rfl, k1, k2⟩ := h
    refine ⟨_, (pss_one (ps_if (pt_cmpR op_notIn_seq (pv 0) (pe_glob (v := .ref t.a_LEVELS) rfl T.g_LEVELS rfl) rfl)
        (pss_one (ps_raise rfl T.m_NoLevel T.xc_NoLevel raiseE (pa_cons pe_str pa_nil)))
        pss_nil)), ?_⟩
    refine ⟨_, rfl, _, _, rfl, .inr (T.v_LEVELS H), rfl, rfl, _, rfl, ?_⟩
    by_cases hd : 0 ≤ n ∧ n ≤ 4
    · have hin : inV (V.int n) [.int 0, .int 1, .int 2, .int 3, .int 4] = true := by
        have : n = 0 ∨ n = 1 ∨ n = 2 ∨ n = 3 ∨ n = 4 := by omega
        rcases this with rfl | rfl | rfl | rfl | rfl <;> rfl
      rw [hin]
      exact iteF (k1 hd)
    · have hin : inV (V.int n) [.int 0, .int 1, .int 2, .int 3, .int 4] = false := by
        simp only [inV, eqV, List.any_cons, List.any_nil, Bool.or_false, Bool.or_eq_false_iff, beq_eq_false_iff_ne]
        omega
      rw [hin]
      exact iteT ⟨(by walk_at "rdc"), k2 hd⟩
def sp_rfgE (K : PySem.W.Frag) (c : Addr) : Sp := fun vs H Q E => ∃ a us xss, vs = [.ref a] ∧ SqL K H a us ∧ RowsV K H us xss ∧ ((∀ xs ∈ xss, ∀ f ∈ xs, Fig f) → Q .non H) ∧ (¬ (∀ xs ∈ xss, ∀ f ∈ xs, Fig f) → E (.ref c) none H)
theorem okE_refuse_no_figures (T : Txt K mg t) : FnOk P w K mg base (CXE P w) 1 t.f_refuse_no_figures t.x_refuse_no_figures ["beginnings"] (sp_rfgE K t.c_NoFigure) := by
  refine T.d_refuse_no_figures.F.okE sc_refuse_no_figures (fun vs H Q E h => ?_) (fun cdv A outer s H vs Q E hr h => ?_)
  · obtain ⟨a, us, xss, rfl, _⟩ := h; rfl
  · obtain ⟨a, us, xss, rfl, ha, hR, k1, k2⟩ := h
    refine ⟨_, (pss_one (ps_for PassesOwn.leaving rfl (pi_list (pv 0)) (pg_name (i := 1) sc_refuse_no_figures.nd rfl (by first | exact Or.inl rfl | exact Or.inr rfl))
        (pss_one (ps_for PassesOwn.leaving rfl (pi_list (pv 1)) (pg_name (i := 2) sc_refuse_no_figures.nd rfl (by first | exact Or.inl rfl | exact Or.inr rfl))
          (pss_one (ps_if (pt_cmpR op_notIn_seq (pv 2) (pe_glob (v := .ref t.a_FIGURES) rfl T.g_FIGURES rfl) rfl)
            (pss_one (ps_raise rfl T.m_NoFigure T.xc_NoFigure raiseE (pa_cons pe_str pa_nil)))
            pss_nil)))))), ?_⟩
    refine ⟨_, rfl, a, rfl, ⟨_, ha⟩, for_list (xs := us) (fun i σ H' => ∃ x y, σ = [some (.ref a), x, y] ∧ H' = H ∧ ∀ xs ∈ xss.take i, ∀ f ∈ xs, Fig f) ⟨_, _, rfl, rfl, fun xs hx => by simp at hx⟩ (fun i σ H' _ ⟨_, _, _, e, _⟩ => by rw [e]; exact ha) ?_ ?_⟩
    · rintro i u σ H1 hu ⟨x, y, rfl, rfl, hs⟩
      obtain ⟨b, xs, rfl, hxs, hb⟩ := hR.get hu
      refine ⟨_, rfl, b, rfl, ⟨_, hb⟩, for_list (xs := List.map V.int xs) (fun j σ H' => ∃ y, σ = [some (.ref a), some (.ref b), y] ∧ H' = H1 ∧ ∀ f ∈ xs.take j, Fig f) ⟨_, rfl, rfl, fun f hf => by simp at hf⟩ (fun j σ H' _ ⟨_, _, e, _⟩ => by rw [e]; exact hb) ?_ ?_⟩
      · rintro j x σ H2 hx ⟨y, rfl, rfl, hf⟩
        rw [List.getElem?_map] at hx
        obtain ⟨f, ef, rfl⟩ := Option.map_eq_some_iff.mp hx
        refine ⟨_, rfl, _, _, rfl, .inr (T.v_FIGURES H2), rfl, rfl, _, rfl, ?_⟩
        by_cases hd : Fig f
        · have hin : inV (V.int f) [.int 0, .int 1, .int 2, .int 3, .int 4, .int 5, .int 6] = true := by
            rcases fig_cases hd with rfl | rfl | rfl | rfl | rfl | rfl | rfl <;> rfl
          rw [hin]
          refine iteF ⟨_, rfl, rfl, ?_⟩
          rw [Rg.take_snoc ef]
          intro g hg
          rcases List.mem_append.mp hg with hg | hg
          · exact hf g hg
          · rw [List.mem_singleton.mp hg]; exact hd
        · have hin : inV (V.int f) [.int 0, .int 1, .int 2, .int 3, .int 4, .int 5, .int 6] = false := by
            simp only [inV, eqV, List.any_cons, List.any_nil, Bool.or_false, Bool.or_eq_false_iff, beq_eq_false_iff_ne]
            simp only [Fig] at hd
            omega
          rw [hin]
          exact iteT ⟨(by walk_at "rdc"), k2 fun z => hd (z xs (List.mem_of_getElem? hxs) f (List.mem_of_getElem? ef))⟩
      · rintro σ H2 ⟨y, rfl, rfl, hf⟩
        rw [List.length_map, List.take_length] at hf
        refine ⟨_, _, rfl, rfl, ?_⟩
        rw [Rg.take_snoc hxs]
        intro zs hz
        rcases List.mem_append.mp hz with hz | hz
        · exact hs zs hz
        · rw [List.mem_singleton.mp hz]; exact hf
    · rintro σ H1 ⟨x, y, rfl, rfl, hs⟩
      rw [hR.len, List.take_length] at hs
      exact k1 hs
def sp_rtlE (K : PySem.W.Frag) (c : Addr) : Sp := fun vs H Q E => ∃ lv a us xss, vs = [.int lv, .ref a] ∧ SqL K H a us ∧ RowsV K H us xss ∧ ((∀ xs ∈ xss, (xs.length : Int) ≤ lv) → Q .non H) ∧ (¬ (∀ xs ∈ xss, (xs.length : Int) ≤ lv) → E (.ref c) none H)
theorem okE_refuse_too_long (T : Txt K mg t) : FnOk P w K mg base (CXE P w) 1 t.f_refuse_too_long t.x_refuse_too_long ["level", "beginnings"] (sp_rtlE K t.c_NoCell) := by
  refine T.d_refuse_too_long.F.okE sc_refuse_too_long (fun vs H Q E h => ?_) (fun cdv A outer s H vs Q E hr h => ?_)
  · obtain ⟨lv, a, us, xss, rfl, _⟩ := h; rfl
  · obtain ⟨lv, a, us, xss, rfl, ha, hR, k1, k2⟩ := h
    refine ⟨_, (pss_one (ps_for PassesOwn.leaving rfl (pi_list (pv 1)) (pg_name (i := 2) sc_refuse_too_long.nd rfl (by first | exact Or.inl rfl | exact Or.inr rfl))
        (pss_one (ps_if (pt_cmpR op_gt (pe_callB call_len_seq (by rfl) T.n_len bb_len (pa_cons (pv 2) pa_nil)) (pv 0) (nomark _))
          (pss_one (ps_raise rfl T.m_NoCell T.xc_NoCell raiseE (pa_cons pe_str pa_nil)))
          pss_nil)))), ?_⟩
    refine ⟨_, rfl, a, rfl, ⟨_, ha⟩, for_list (xs := us) (fun i σ H' => ∃ x, σ = [some (.int lv), some (.ref a), x] ∧ H' = H ∧ ∀ xs ∈ xss.take i, (xs.length : Int) ≤ lv) ⟨_, rfl, rfl, fun xs hx => by simp at hx⟩ (fun i σ H' _ ⟨_, _, e, _⟩ => by rw [e]; exact ha) ?_ ?_⟩
    · rintro i u σ H1 hu ⟨x, rfl, rfl, hs⟩
      obtain ⟨b, xs, rfl, hxs, hb⟩ := hR.get hu
      refine ⟨_, rfl, b, _, rfl, .inl hb, _, rfl, _, _, rfl, rfl, _, rfl, ite2 (fun z => ?_) (fun z => ?_)⟩
      · have z : lv < ((List.map V.int xs).length : Nat) := of_decide_eq_true z
        rw [List.length_map] at z
        exact ⟨(by walk_at "rdc"), k2 fun w => by have := w xs (List.mem_of_getElem? hxs); omega⟩
      · have z : ¬ lv < ((List.map V.int xs).length : Nat) := fun w => z (decide_eq_true w)
        rw [List.length_map] at z
        refine ⟨_, rfl, rfl, ?_⟩
        rw [Rg.take_snoc hxs]
        intro zs hz
        rcases List.mem_append.mp hz with hz | hz
        · exact hs zs hz
        · rw [List.mem_singleton.mp hz]; omega
    · rintro σ H1 ⟨x, rfl, rfl, hs⟩
      rw [hR.len, List.take_length] at hs
      exact k1 hs

theorem longer_snoc (xss : List (List Int)) (x : List Int) : Rg.longer (xss ++ [x]) = Rg.longer xss ++ Rg.figs.map fun f => x ++ [f] := by
  unfold Rg.longer; rw [List.flatMap_append]; simp
def sp_longer : Sp := fun vs H Q _ => ∃ a us xss, vs = [.ref a] ∧ H a = some (.lst us) ∧ Tups H us xss ∧ xss.length ≤ 2401 ∧ (∀ xs ∈ xss, xs.length ≤ 100) ∧ ∀ l ws H', Same H H' → H l = none → H' l = some (.lst ws) → Tups H' ws (Rg.longer xss) → Q (.ref l) H'
theorem ok_one_figure_longer (T : Txt K mg t) : FnOk P w K mg base CX0 1 t.f_one_figure_longer t.x_one_figure_longer ["beginnings"] sp_longer := by
  refine T.d_one_figure_longer.F.ok sc_one_figure_longer (fun vs H Q E h => ?_) (fun cdv A outer s H vs Q E hr h => ?_)
  · obtain ⟨a, us, xss, rfl, _⟩ := h; rfl
  · obtain ⟨a, us, xss, rfl, ha, hT, hle, hlen, k⟩ := h
    refine ⟨_, (pss_cons (ps_set (i := 1) sc_one_figure_longer.nd rfl (by first | exact Or.inl rfl | exact Or.inr rfl) (pe_lstN pa_nil))
      (pss_cons (ps_for PassesOwn.never rfl (pi_list (pv 0)) (pg_name (i := 2) sc_one_figure_longer.nd rfl (by first | exact Or.inl rfl | exact Or.inr rfl))
        (pss_one (ps_for PassesOwn.never rfl (pi_tup (pe_glob (v := .ref t.a_FIGURES) rfl T.g_FIGURES rfl)) (pg_name (i := 3) sc_one_figure_longer.nd rfl (by first | exact Or.inl rfl | exact Or.inr rfl))
          (pss_one (ps_expr (pe_bm PySem.F.plainAttrs_list PySem.F.slot_list_append PySem.F.type_list_append mt_append (pv 1) (pa_cons (pe_op op_catTT (pv 2) (pe_tupN (pa_cons (pv 3) pa_nil))) pa_nil)))))))
      (pss_one (ps_ret (pv 1))))), ?_⟩
    refine ⟨(by walk_at "rdc"), fun l Hl sl nl hl => ?_⟩
    refine ⟨_, rfl, a, rfl, ⟨_, SqL.of (sl _ _ ha)⟩, for_list' (xs := us) (fun i σ H' => ∃ x y ws, σ = [some (.ref a), some (.ref l), x, y] ∧ Same H H' ∧ H' l = some (.lst ws) ∧ Tups H' ws (Rg.longer (xss.take i))) ⟨_, _, [], rfl, sl, hl, .nil⟩ (fun i σ H' _ ⟨_, _, _, _, s', _⟩ => SqL.of (s' _ _ ha)) ?_ ?_⟩
    · rintro i u σ H1 hu ⟨x, y, ws, rfl, s1, h1, t1⟩ D1 hN1 _
      obtain ⟨b, xs, rfl, hxs, hb⟩ := hT.get hu
      have hi : i < xss.length := (List.getElem?_eq_some_iff.mp hxs).1
      have hxl : xs.length ≤ 100 := hlen xs (List.mem_of_getElem? hxs)
      refine ⟨_, rfl, ⟨_, T.v_FIGURES H1⟩, for_tup (xs := [.int 0, .int 1, .int 2, .int 3, .int 4, .int 5, .int 6]) (fun j σ H' => ∃ y ws, σ = [some (.ref a), some (.ref l), some (.ref b), y] ∧ Same H H' ∧ H' l = some (.lst ws) ∧ Tups H' ws (Rg.longer (xss.take i) ++ (Rg.figs.take j).map fun f => xs ++ [f]))
        ⟨_, ws, rfl, s1, h1, by simpa using t1⟩ (fun _ _ H' _ _ => T.v_FIGURES H') ?_ ?_⟩
      · rintro j x σ H2 hx ⟨y, ws, rfl, s2, h2, t2⟩
        obtain ⟨f, rfl, hf⟩ : ∃ f, x = .int f ∧ Rg.figs[j]? = some f := by
          have e : ([.int 0, .int 1, .int 2, .int 3, .int 4, .int 5, .int 6] : List V) = List.map V.int Rg.figs := rfl
          rw [e, List.getElem?_map] at hx
          obtain ⟨f, ef, ex⟩ := Option.map_eq_some_iff.mp hx
          exact ⟨f, ex.symm, ef⟩
        have wl := t2.len
        rw [List.length_append, Rg.len_longer, List.length_map, List.length_take, List.length_take] at wl
        have fl : Rg.figs.length = 7 := rfl
        refine ⟨_, rfl, .inl ⟨rfl, _, SqL.of h2⟩, _, rfl, _, rfl, (by walk_at "rdc"), fun p3 H3 s3 _ h3 => ?_⟩
        refine ⟨b, p3, _, _, rfl, rfl, SqT.of (s3 _ _ (s2 _ _ hb)), h3, by simp, Nat.le_of_lt (small1000 (by simp; omega)), fun p4 H4 s4 h4 => ?_⟩
        have h24 := s4 _ _ (s3 _ _ h2)
        have big : ws.length < sizeLine := Nat.lt_of_le_of_lt (m := 20000) (by omega) (by decide)
        refine ⟨l, ws, _, rfl, rfl, h24, big, ?_⟩
        have h4' : H4 p4 = some (.tup (List.map V.int (xs ++ [f]))) := by rw [List.map_append]; exact h4
        refine ⟨_, ws ++ [.ref p4], rfl, (((s2.trans s3).trans s4).upd nl), upd_same, ?_⟩
        rw [Rg.take_snoc hf, List.map_append, ← List.append_assoc]
        have t4 := (((t2.keep s3).keep s4).snoc h4')
        exact t4.upd (fun ys z => by rw [h24] at z; cases z)
      · rintro σ H2 ⟨y, ws, rfl, s2, h2, t2⟩
        refine hN1 _ _ ⟨_, _, ws, rfl, s2, h2, ?_⟩
        rw [Rg.take_snoc hxs, longer_snoc]
        exact t2
    · rintro σ H1 ⟨x, y, ws, rfl, s1, h1, t1⟩
      rw [hT.len, List.take_length] at t1
      exact ⟨_, rfl, k l ws H1 s1 nl h1 t1⟩
def sp_lines : Sp := fun vs H Q _ => ∃ (lv : Nat) (b : Addr) (xs : List Int), vs = [.int lv, .ref b] ∧ H b = some (.tup (List.map V.int xs)) ∧ lv ≤ 4 ∧ xs.length ≤ lv ∧ ∀ l ws H', Same H H' → H l = none → H' l = some (.lst ws) → Tups H' ws (Rg.lns (lv - xs.length) xs) → Q (.ref l) H'
theorem ok_lines_of (T : Txt K mg t) : FnOk P w K mg base CX0 2 t.f_lines_of t.x_lines_of ["level", "beginning"] sp_lines := by
  have G_one_figure_longer := ok_one_figure_longer (P := P) (w := w) (base := base) T
  refine T.d_lines_of.F.ok sc_lines_of (fun vs H Q E h => ?_) (fun cdv A outer s H vs Q E hr h => ?_)
  · obtain ⟨lv, b, xs, rfl, _⟩ := h; rfl
  · obtain ⟨lv, b, xs, rfl, hb, lv4, hxl, k⟩ := h
    refine ⟨_, (pss_cons (ps_set (i := 2) sc_lines_of.nd rfl (by first | exact Or.inl rfl | exact Or.inr rfl) (pe_lstN (pa_cons (pv 1) pa_nil)))
      (pss_cons (ps_for PassesOwn.never rfl (pi_range1 rfl T.n_range (pa_cons (pe_op op_sub (pv 0) (pe_callB call_len_seq (by rfl) T.n_len bb_len (pa_cons (pv 1) pa_nil))) pa_nil)) (pg_name (i := 3) sc_lines_of.nd rfl (by first | exact Or.inl rfl | exact Or.inr rfl))
        (pss_one (ps_set (i := 2) sc_lines_of.nd rfl (by first | exact Or.inl rfl | exact Or.inr rfl) (pcall T.d_one_figure_longer G_one_figure_longer (hr.mono (by decide)) (pa_cons (pv 2) pa_nil)))))
      (pss_one (ps_ret (pv 2))))), ?_⟩
    refine ⟨_, rfl, (by walk_at "rdc"), fun l Hl sl nl hl => ?_⟩
    refine ⟨_, rfl, _, rfl, b, _, rfl, .inr (SqT.of (sl _ _ hb)), _, _, rfl, rfl, _, rfl, ?_, ?_, ?_⟩
    · rw [List.length_map]; omega
    · rw [List.length_map]; omega
    have en : ((lv : Int) - ((List.map V.int xs).length : Nat)).toNat = lv - xs.length := by rw [List.length_map]; omega
    rw [en]
    refine for_range (lo := 0) (fun i σ H' => ∃ l x ws, σ = [some (.int lv), some (.ref b), some (.ref l), x] ∧ Same H H' ∧ H l = none ∧ H' l = some (.lst ws) ∧ Tups H' ws (Rg.lns i xs)) ⟨l, _, _, rfl, sl, nl, hl, .cons ⟨b, rfl, sl _ _ hb⟩ .nil⟩ ?_ ?_
    · rintro i σ H1 hi ⟨l1, x, ws, rfl, s1, n1, h1, t1⟩
      have hc : (Rg.lns i xs).length ≤ 2401 := by
        rw [Rg.len_lns]
        have : 7 ^ i ≤ 7 ^ 4 := Nat.pow_le_pow_right (by decide) (by omega)
        have e : (7 : Nat) ^ 4 = 2401 := by decide
        omega
      refine ⟨_, rfl, l1, ws, Rg.lns i xs, rfl, h1, t1, hc, fun ys hy => ?_, fun l2 ws2 H2 s2 n2 h2 t2 => ?_⟩
      · have := Rg.lns_len hy; omega
      · exact ⟨l2, _, ws2, rfl, s1.trans s2, s1.free n2, h2, t2⟩
    · rintro σ H1 ⟨l1, x, ws, rfl, s1, n1, h1, t1⟩
      exact ⟨_, rfl, k l1 ws H1 s1 n1 h1 t1⟩
def sp_lall (K : PySem.W.Frag) : Sp := fun vs H Q _ => ∃ (lv : Nat) (a : Addr) (us : List V) (xss : List (List Int)), vs = [.int lv, .ref a] ∧ SqL K H a us ∧ RowsV K H us xss ∧ lv ≤ 4 ∧ (∀ xs ∈ xss, xs.length ≤ lv) ∧ xss.length ≤ 6000 ∧
  ∀ d H', Same H H' → H d = none → H' d = some (.dT (dset (Rg.lall lv xss))) → Q (.ref d) H'
theorem ok_lines_of_all (T : Txt K mg t) : FnOk P w K mg base CX0 3 t.f_lines_of_all t.x_lines_of_all ["level", "beginnings"] (sp_lall K) := by
  have G_lines_of := ok_lines_of (P := P) (w := w) (base := base) T
  refine T.d_lines_of_all.F.ok sc_lines_of_all (fun vs H Q E h => ?_) (fun cdv A outer s H vs Q E hr h => ?_)
  · obtain ⟨lv, a, us, xss, rfl, _⟩ := h; rfl
  · obtain ⟨lv, a, us, xss, rfl, ha, hR, lv4, hle, h6, k⟩ := h
    have hu := hu_of hr
    refine ⟨_, (pss_cons (ps_set (i := 2) sc_lines_of_all.nd rfl (by first | exact Or.inl rfl | exact Or.inr rfl) pe_dnewTN)
      (pss_cons (ps_for PassesOwn.never rfl (pi_list (pv 1)) (pg_name (i := 3) sc_lines_of_all.nd rfl (by first | exact Or.inl rfl | exact Or.inr rfl))
        (pss_one (ps_dput hu (pv 2) (pe_callTy call_tupN (by rfl) T.n_tuple bb_tuple (pa_cons (pv 3) pa_nil)) pe_bl rfl)))
      (pss_cons (ps_set (i := 4) sc_lines_of_all.nd rfl (by first | exact Or.inl rfl | exact Or.inr rfl) pe_dnewTN)
      (pss_cons (PS.thaw (ps_for PassesOwn.never rfl (pi_dict (pv 2)) (pg_name (i := 3) sc_lines_of_all.nd rfl (by first | exact Or.inl rfl | exact Or.inr rfl))
        (pss_one (ps_for PassesOwn.never rfl (pi_list (pcall T.d_lines_of G_lines_of (hr.mono (by decide)) (pa_cons (pv 0) (pa_cons (pv 3) pa_nil)))) (pg_name (i := 5) sc_lines_of_all.nd rfl (by first | exact Or.inl rfl | exact Or.inr rfl))
          (pss_one (ps_dput hu (pv 4) (pv 5) pe_bl rfl))))))
      (pss_one (ps_ret (pv 4))))))), ?_⟩
    intro d0 H0 s0 n0 h0
    refine ⟨_, rfl, a, rfl, ⟨_, s0.seq ha⟩, for_list' (xs := us) (fun i σ H' => ∃ x, σ = [some (.int lv), some (.ref a), some (.ref d0), x, none, none] ∧ Same H H' ∧ H' d0 = some (.dT (dset (Rg.puts [] (xss.take i))))) ⟨_, rfl, s0, h0⟩ (fun i σ H' _ ⟨_, _, s', _⟩ => s'.seq ha) ?_ ?_⟩
    · rintro i u σ H1 hu' ⟨x, rfl, s1, h1⟩ D1 hN1 _
      obtain ⟨b, xs, rfl, hxs, hb⟩ := hR.get hu'
      have hi : i < xss.length := (List.getElem?_eq_some_iff.mp hxs).1
      have pl := Rg.puts_len (xss.take i) []
      rw [List.length_take] at pl
      have big : (dset (Rg.puts [] (xss.take i))).length < sizeLine := by
        rw [dset_len]; exact Nat.lt_of_le_of_lt (m := 6000) (by simp at pl; omega) (by decide)
      refine ⟨_, rfl, _, rfl, b, _, rfl, s1.seq hb, fun p2 H2 s2 _ h2 => ?_⟩
      refine ⟨d0, _, rfl, DPut.t (k := kk xs) (s2 _ _ h1) (by rw [kk_kV]; exact h2) big, ?_⟩
      refine hN1 _ _ ⟨_, rfl, (s1.trans s2).upd n0, ?_⟩
      rw [upd_same, dset_put, Rg.take_snoc hxs, Rg.puts_snoc]
    · rintro σ H1 ⟨x, rfl, s1, h1⟩
      rw [hR.len, List.take_length] at h1
      intro d1 H2 s2 n2 h2
      have h12 := s2 _ _ h1
      have ne01 : d0 ≠ d1 := ne_of_none h1 n2
      have nd1 : H d1 = none := s1.free n2
      generalize hU : Rg.puts [] xss = U at h1 h12
      have hUm : ∀ ys ∈ U, ys ∈ xss := fun ys hy => by
        rw [← hU, Rg.mem_puts] at hy
        simpa using hy
      have hUl : U.length ≤ 6000 := by
        have := Rg.puts_len xss []
        rw [hU] at this
        simp at this
        omega
      refine ⟨_, rfl, d0, _, rfl, h12, fun od nf => ?_⟩
      refine for_dict' (fun i σ H' => ∃ x y, σ = [some (.int lv), some (.ref a), some (.ref d0), x, some (.ref d1), y] ∧ Same H H' ∧ H' d0 = some (.frz od (.dT (dset U))) ∧ H' d1 = some (.dT (dset (Rg.puts [] ((U.take i).flatMap fun xs => Rg.lns (lv - xs.length) xs)))))
        ⟨_, _, rfl, (s1.trans s2).upd n0, upd_same, by rw [upd_ne ne01.symm]; exact h2⟩ (fun i σ H' ⟨_, _, _, _, h, _⟩ => h) ?_ ?_
      · rintro i kx v b σ H3 hk hb ⟨x, y, rfl, s3, h3, h3'⟩ D2 hN2
        obtain ⟨xs, hxs, rfl, rfl⟩ := dset_get hk
        rw [kk_kV] at hb
        have hi : i < U.length := (List.getElem?_eq_some_iff.mp hxs).1
        have hxl : xs.length ≤ lv := hle xs (hUm xs (List.mem_of_getElem? hxs))
        refine ⟨_, rfl, _, rfl, lv, b, xs, rfl, hb, lv4, hxl, fun l ws H4 s4 n4 h4 t4 => ?_⟩
        have al := Rg.puts_len ((U.take i).flatMap fun xs => Rg.lns (lv - xs.length) xs) []
        have fl := Rg.flat_len lv4 (U.take i)
        rw [List.length_take] at fl
        have ll : (Rg.lns (lv - xs.length) xs).length ≤ 2401 := by
          rw [Rg.len_lns]
          have : 7 ^ (lv - xs.length) ≤ 7 ^ 4 := Nat.pow_le_pow_right (by decide) (by omega)
          have e : (7 : Nat) ^ 4 = 2401 := by decide
          omega
        generalize hacc : (U.take i).flatMap (fun xs => Rg.lns (lv - xs.length) xs) = acc at *
        refine ⟨l, rfl, ⟨_, SqL.of h4⟩, for_list' (xs := ws) (fun j σ H' => ∃ y, σ = [some (.int lv), some (.ref a), some (.ref d0), some (.ref b), some (.ref d1), y] ∧ Same H H' ∧ H' d0 = some (.frz od (.dT (dset U))) ∧ H' l = some (.lst ws) ∧ Tups H' ws (Rg.lns (lv - xs.length) xs) ∧
            H' d1 = some (.dT (dset (Rg.puts [] (acc ++ (Rg.lns (lv - xs.length) xs).take j))))) ⟨_, rfl, s3.trans s4, s4 _ _ h3, h4, t4, by simpa using s4 _ _ h3'⟩ (fun j σ H' _ ⟨_, _, _, _, h, _⟩ => SqL.of h) ?_ ?_⟩
        · rintro j u σ H5 hu5 ⟨y, rfl, s5, f5, l5, t5, h5⟩ D3 hN3 _
          obtain ⟨c, ys, rfl, hys, hc⟩ := t5.get hu5
          have hj : j < (Rg.lns (lv - xs.length) xs).length := (List.getElem?_eq_some_iff.mp hys).1
          have al5 := Rg.puts_len (acc ++ (Rg.lns (lv - xs.length) xs).take j) []
          have big : (dset (Rg.puts [] (acc ++ (Rg.lns (lv - xs.length) xs).take j))).length < sizeLine := by
            rw [dset_len]
            rw [List.length_append, List.length_take] at al5
            refine Nat.lt_of_le_of_lt (m := 2401 * 6000) ?_ (by decide)
            simp at al5
            omega
          refine ⟨_, rfl, _, rfl, d1, _, rfl, DPut.t (k := kk ys) h5 (by rw [kk_kV]; exact hc) big, ?_⟩
          have n1 : ∀ b o, H5 b = some o → o ≠ .dT (dset (Rg.puts [] (acc ++ (Rg.lns (lv - xs.length) xs).take j))) → b ≠ d1 := fun b o e z => ne_of e h5 z
          refine hN3 _ _ ⟨_, rfl, s5.upd nd1, ?_, ?_, ?_, ?_⟩
          · rw [upd_ne (n1 _ _ f5 (by intro z; cases z))]; exact f5
          · rw [upd_ne (n1 _ _ l5 (by intro z; cases z))]; exact l5
          · exact t5.upd (fun zs z => by rw [h5] at z; cases z)
          · rw [upd_same, dset_put, Rg.take_snoc hys, ← List.append_assoc, Rg.puts_snoc]
        · rintro σ H5 ⟨y, rfl, s5, f5, l5, t5, h5⟩
          rw [t5.len, List.take_length] at h5
          refine hN2 _ _ ⟨_, _, rfl, s5, f5, ?_⟩
          rw [Rg.take_snoc hxs, List.flatMap_append, hacc]
          simpa using h5
      · rintro σ H3 ⟨x, y, rfl, s3, h3, h3'⟩
        refine ⟨d0, od, _, h3, nf, ?_⟩
        rw [dset_len, List.take_length] at h3'
        refine ⟨_, rfl, k d1 _ (s3.upd n0) nd1 ?_⟩
        rw [upd_ne ne01.symm, h3']
        unfold Rg.lall
        rw [hU]

def RegAt (C : Addr) (H : Hp) (v : V) (lv : Nat) (LL : List (List Int)) : Prop := ∃ x dx d, v = .ref x ∧ H x = some (.ins C dx [("level", .int lv), ("lines", .ref d)]) ∧ H d = some (.dT (dset LL))
theorem RegAt.keep {C : Addr} {H H' : Hp} {v : V} {lv : Nat} {LL : List (List Int)} (s : Same H H') (h : RegAt C H v lv LL) : RegAt C H' v lv LL := let ⟨x, dx, d, e, h1, h2⟩ := h; ⟨x, dx, d, e, s _ _ h1, s _ _ h2⟩
abbrev FigsIn (xss : List (List Int)) : Prop := ∀ xs ∈ xss, ∀ f ∈ xs, Fig f
abbrev ShortIn (lv : Int) (xss : List (List Int)) : Prop := ∀ xs ∈ xss, (xs.length : Int) ≤ lv
def sp_initE (K : PySem.W.Frag) (C cl cf cc : Addr) : Sp := fun vs H Q E => ∃ x dx lv a us xss, vs = [.ref x, .int lv, .ref a] ∧ H x = some (.ins C dx []) ∧ SqL K H a us ∧ RowsV K H us xss ∧ xss.length ≤ 6000 ∧
  ((0 ≤ lv ∧ lv ≤ 4) → FigsIn xss → ShortIn lv xss → ∀ d H', (∀ b o, b ≠ x → H b = some o → H' b = some o) → H d = none → H' x = some (.ins C dx [("level", .int lv), ("lines", .ref d)]) → H' d = some (.dT (dset (Rg.lall lv.toNat xss))) → Q .non H') ∧
  (¬ (0 ≤ lv ∧ lv ≤ 4) → E (.ref cl) none H) ∧ ((0 ≤ lv ∧ lv ≤ 4) → ¬ FigsIn xss → E (.ref cf) none H) ∧ ((0 ≤ lv ∧ lv ≤ 4) → FigsIn xss → ¬ ShortIn lv xss → E (.ref cc) none H)
theorem okE_Region_init (T : Txt K mg t) : FnOk P w K mg base (CXE P w) 4 t.f_Region_init t.x_Region_init ["self", "level", "beginnings"] (sp_initE K t.c_Region t.c_NoLevel t.c_NoFigure t.c_NoCell) := by
  have GE_refuse_no_level := okE_refuse_no_level (P := P) (w := w) (base := base) T
  have GE_refuse_no_figures := okE_refuse_no_figures (P := P) (w := w) (base := base) T
  have GE_refuse_too_long := okE_refuse_too_long (P := P) (w := w) (base := base) T
  have G_lines_of_all := ok_lines_of_all (P := P) (w := w) (base := base) T
  refine T.d_Region_init.F.okE sc_Region_init (fun vs H Q E h => ?_) (fun cdv A outer s H vs Q E hr h => ?_)
  · obtain ⟨x, dx, lv, a, us, xss, rfl, _⟩ := h; rfl
  · obtain ⟨x, dx, lv, a, us, xss, rfl, hx, ha, hR, h6, k1, k2, k3, k4⟩ := h
    refine ⟨_, (pss_cons (ps_expr (pcallE T.d_refuse_no_level GE_refuse_no_level (hr.mono (by decide)) (pa_cons (pv 1) pa_nil)))
      (pss_cons (ps_expr (pcallE T.d_refuse_no_figures GE_refuse_no_figures (hr.mono (by decide)) (pa_cons (pv 2) pa_nil)))
      (pss_cons (ps_expr (pcallE T.d_refuse_too_long GE_refuse_too_long (hr.mono (by decide)) (pa_cons (pv 1) (pa_cons (pv 2) pa_nil))))
      (pss_cons (ps_fld (pv 0) (pv 1) rfl)
      (pss_one (ps_fld (pv 0) (pcall T.d_lines_of_all G_lines_of_all (hr.mono (by decide)) (pa_cons (pv 1) (pa_cons (pv 2) pa_nil))) rfl)))))), ?_⟩
    refine ⟨_, rfl, lv, rfl, fun hl => ?_, fun hl => k2 hl⟩
    refine ⟨_, rfl, a, us, xss, rfl, ha, hR, fun hf => ?_, fun hf => k3 hl hf⟩
    refine ⟨_, rfl, _, rfl, lv, a, us, xss, rfl, ha, hR, fun hs => ?_, fun hs => k4 hl hf hs⟩
    refine ⟨_, rfl, _, rfl, x, t.c_Region, dx, _, rfl, hx, T.cl_Region, T.na_Region_level, (by show 0 < 1000; decide), ?_⟩
    have nl : ∀ ys, ¬ Rd H x (.lst ys) := fun ys z => by
      rcases z with z | ⟨o, z⟩
      · rw [hx] at z; cases z
      · rw [hx] at z; cases z
    have ha1 := ha.upd_ins (o := .ins t.c_Region dx [("level", .int lv)]) nl
    have hR1 := hR.upd_ins (o := .ins t.c_Region dx [("level", .int lv)]) nl
    have elv : V.int lv = V.int ((lv.toNat : Nat) : Int) := by congr 1; omega
    refine ⟨_, rfl, _, rfl, lv.toNat, a, us, xss, by rw [← elv]; rfl, ha1, hR1, by omega, fun xs hx' => by have := hs xs hx'; omega, h6, fun d H2 s2 n2 h2 => ?_⟩
    have hx1 : upd H x (.ins t.c_Region dx [("level", .int lv)]) x = some (.ins t.c_Region dx [("level", .int lv)]) := upd_same
    have hx2 := s2 _ _ hx1
    have n2 : upd H x (.ins t.c_Region dx [("level", .int lv)]) d = none := n2
    have nx : d ≠ x := fun z => by rw [z, hx1] at n2; cases n2
    refine ⟨_, rfl, x, t.c_Region, dx, _, rfl, hx2, T.cl_Region, T.na_Region_lines, (by show 1 < 1000; decide), ?_⟩
    refine k1 hl hf hs d _ (fun b o nb e => ?_) (by rw [upd_ne nx] at n2; exact n2) upd_same (by rw [upd_ne nx]; exact h2)
    rw [upd_ne nb]
    exact s2 b o (by rw [upd_ne nb]; exact e)
theorem ok_Region_init (T : Txt K mg t) : FnOk P w K mg base CX0 4 t.f_Region_init t.x_Region_init ["self", "level", "beginnings"] (fun vs H Q _ => sp_initE K t.c_Region t.c_NoLevel t.c_NoFigure t.c_NoCell vs H Q E0) := (okE_Region_init (P := P) (w := w) (base := base) T).down

def sp_line (K : PySem.W.Frag) : Sp := fun vs H Q _ => ∃ (lv : Nat) (u : V) (q r : Int) (A : List Int), vs = [.int lv, u] ∧ lv ≤ 4 ∧ Pl K H u q r ∧ Sev.Adr q r A ∧ A.length ≤ 1000 ∧ ∀ b H', Same H H' → H' b = some (.tup (List.map V.int (Rg.lnOf lv A))) → Q (.ref b) H'
theorem ok_line_of (T : Txt K mg t) : FnOk P w K mg base CX0 6 t.f_line_of t.x_line_of ["level", "place"] (sp_line K) := by
  have G_address := ok_address (P := P) (w := w) (base := base) T
  refine T.d_line_of.F.ok sc_line_of (fun vs H Q E h => ?_) (fun cdv A outer s H vs Q E hr h => ?_)
  · obtain ⟨lv, u, q, r, A, rfl, _⟩ := h; rfl
  · obtain ⟨lv, u, q, r, A, rfl, lv4, hu, hA, hlen, k⟩ := h
    refine ⟨_, (pss_cons (ps_set (i := 2) sc_line_of.nd rfl (by first | exact Or.inl rfl | exact Or.inr rfl) (pcall T.d_address G_address (hr.mono (by decide)) (pa_cons (pv 1) pa_nil)))
      (pss_one (ps_ret (pe_callTy call_tupN (by rfl) T.n_tuple bb_tuple (pa_cons (pe_op op_catN (pe_op op_repN (pe_lstN (pa_cons pe_int pa_nil)) (pe_op op_sub (pv 0) (pe_callB call_len_seq (by rfl) T.n_len bb_len (pa_cons (pv 2) pa_nil)))) (pv 2)) pa_nil))))), ?_⟩
    refine ⟨_, rfl, u, q, r, A, rfl, hu, hA, hlen, fun l H1 s1 n1 h1 => ?_⟩
    refine ⟨(by walk_at "rdc"), fun l0 H2 s2 n2 h2 => ?_⟩
    refine ⟨_, rfl, _, rfl, l, _, rfl, .inl (SqL.of (s2 _ _ h1)), _, _, rfl, rfl, ?_⟩
    rw [List.length_map]
    refine ⟨l0, _, _, rfl, rfl, h2, by omega, by omega, Nat.le_of_lt (small1000 (by simp; omega)), fun l3 H3 s3 n3 h3 => ?_⟩
    refine ⟨_, rfl, l3, l, _, _, rfl, rfl, h3, s3 _ _ (s2 _ _ h1), ?_, fun l4 H4 s4 n4 h4 => ?_⟩
    · refine Nat.le_trans (m := 2000) ?_ (by decide)
      simp
      omega
    refine ⟨l4, _, rfl, SqL.of h4, fun b H5 s5 n5 h5 => k b H5 ((((s1.trans s2).trans s3).trans s4).trans s5) ?_⟩
    rw [h5]
    congr 2
    unfold Rg.lnOf
    rw [List.map_append, List.map_replicate]
    congr 1
    have : ((lv : Int) - (A.length : Int)).toNat = lv - A.length := by omega
    rw [this]
    generalize lv - A.length = n
    induction n with
    | zero => rfl
    | succ n ih => rw [List.replicate_succ, List.flatten_cons, ih, List.replicate_succ]; rfl
def sp_holds (K : PySem.W.Frag) (C : Addr) : Sp := fun vs H Q _ => ∃ (v : V) (lv : Nat) (LL : List (List Int)) (u : V) (q r : Int) (A : List Int), vs = [v, u] ∧ RegAt C H v lv LL ∧ lv ≤ 4 ∧ Pl K H u q r ∧ Sev.Adr q r A ∧ A.length ≤ 1000 ∧ ∀ H', Same H H' → Q (.bl (decide (Rg.lnOf lv A ∈ LL))) H'
theorem ok_Region_holds (T : Txt K mg t) : FnOk P w K mg base CX0 7 t.f_Region_holds t.x_Region_holds ["self", "place"] (sp_holds K t.c_Region) := by
  have G_line_of := ok_line_of (P := P) (w := w) (base := base) T
  refine T.d_Region_holds.F.ok sc_Region_holds (fun vs H Q E h => ?_) (fun cdv A outer s H vs Q E hr h => ?_)
  · obtain ⟨v, lv, LL, u, q, r, A, rfl, _⟩ := h; rfl
  · obtain ⟨v, lv, LL, u, q, r, A, rfl, ⟨x, dx, d, rfl, hx, hd⟩, lv4, hu', hA, hlen, k⟩ := h
    have hu := hu_of hr
    refine ⟨_, (pss_one (ps_ret (pe_cmp (pc_din hu (pcall T.d_line_of G_line_of (hr.mono (by decide)) (pa_cons (pe_fld (pv 0) rfl) (pa_cons (pv 1) pa_nil))) (pe_fld (pv 0) rfl))))), ?_⟩
    refine ⟨_, rfl, x, _, dx, _, _, rfl, hx, T.cl_Region, T.na_Region_level, rfl, _, rfl, lv, u, q, r, A, rfl, lv4, hu', hA, hlen, fun b H1 s1 h1 => ?_⟩
    refine ⟨_, rfl, x, _, dx, _, _, rfl, s1 _ _ hx, T.cl_Region, T.na_Region_lines, rfl, d, _, rfl, .inr ⟨dset LL, kk (Rg.lnOf lv A), b, .inl (s1 _ _ hd), rfl, by rw [kk_kV]; exact h1, rfl⟩, ?_⟩
    rw [dset_val]
    have e : (if Rg.lnOf lv A ∈ LL then some (V.bl true) else none).isSome = decide (Rg.lnOf lv A ∈ LL) := by
      by_cases h : Rg.lnOf lv A ∈ LL
      · rw [if_pos h, decide_eq_true h]; rfl
      · rw [if_neg h, decide_eq_false h]; rfl
    rw [e]
    exact k H1 s1

def LinesOk (lv : Nat) (LL : List (List Int)) : Prop := ∀ xs ∈ LL, xs.length = lv ∧ ∀ f ∈ xs, Fig f
def sp_cells (C : Addr) : Sp := fun vs H Q _ => ∃ (v : V) (lv : Nat) (LL : List (List Int)), vs = [v] ∧ RegAt C H v lv LL ∧ 0 < lv ∧ LinesOk lv LL ∧ LL.length < 64 ∧ ∀ l us LL' H', Same H H' → H l = none → H' l = some (.lst us) → Tups H' us ((LL'.map wk).map Bfs.pr) → LL'.Perm LL → Srt.Asc LL' → Q (.ref l) H'
theorem ok_Region_cells (T : Txt K mg t) : FnOk P w K mg base CX0 5 t.f_Region_cells t.x_Region_cells ["self"] (sp_cells t.c_Region) := by
  have G_place_of := ok_place_ofP (P := P) (w := w) (base := base) T
  refine T.d_Region_cells.F.ok sc_Region_cells (fun vs H Q E h => ?_) (fun cdv A outer s H vs Q E hr h => ?_)
  · obtain ⟨v, lv, LL, rfl, _⟩ := h; rfl
  · obtain ⟨v, lv, LL, rfl, ⟨x, dx, d, rfl, hx, hd⟩, lv0, hL, h64, k⟩ := h
    refine ⟨_, (pss_one (ps_ret (pe_lc (x := "line") (fr := []) (js := []) ⟨rfl, by decide +kernel, by decide +kernel, rfl, rfl, by decide +kernel, by decide +kernel, by decide +kernel, by decide +kernel⟩ rfl rfl rfl (pi_list (pe_callB (Srt.call_sortedD rfl) (by rfl) T.n_sorted bb_sorted (pa_cons (pe_fld (pv 0) rfl) pa_nil))) (fun cl fp s H => (pcall T.d_place_of G_place_of (hr.mono (by decide)) (pa_cons (pv 0) pa_nil)))))), ?_⟩
    refine ⟨_, rfl, x, _, dx, _, _, rfl, hx, T.cl_Region, T.na_Region_lines, rfl, ?_⟩
    refine ⟨d, LL, fun _ => .bl true, rfl, hd, fun _ xs hx' z => ?_, (by omega), fun D us LL' H1 s1 nD hD ht pm asc => ?_⟩
    · have := (hL xs hx').1
      rw [z] at this
      simp at this
      omega
    refine ⟨D, rfl, ⟨_, SqL.of hD⟩, fun D2 hD2 => ?_⟩
    have ul := ht.len
    have pl := pm.length_eq
    refine lc_list (xs := us) (fun i ys H' => Same H1 H' ∧ H' D2 = some (.lst ys) ∧ Tups H' ys (((LL'.take i).map wk).map Bfs.pr)) ⟨same_upd hD2, upd_same, .nil⟩ (fun i ys H' ⟨s', _⟩ => SqL.of (s' _ _ hD)) ?_ ?_
    · rintro i u ys H2 hu ⟨s2, h2, t2⟩
      obtain ⟨b, xs, rfl, hxs, hb⟩ := ht.get hu
      have hi : i < us.length := (List.getElem?_eq_some_iff.mp hu).1
      have xm : xs ∈ LL := pm.mem_iff.mp (List.mem_of_getElem? hxs)
      refine ⟨_, rfl, b, xs, rfl, .inr (SqT.of (s2 _ _ hb)), (hL xs xm).2, ?_, fun p3 H3 s3 hp3 => ?_⟩
      · intro z
        have := (hL xs xm).1
        rw [z] at this
        simp at this
        omega
      have h3 := s3 _ _ h2
      have yl := t2.len
      rw [List.length_map, List.length_map, List.length_take] at yl
      refine lc_nx h3 (small1000 (by omega)) hi ⟨(s2.trans s3).upd hD2, upd_same, ?_⟩
      rw [Rg.take_snoc hxs, List.map_append]
      exact ((t2.keep s3).snocPt hp3).upd fun zs z => by rw [h3] at z; cases z
    · rintro ys H2 ⟨s2, h2, t2⟩
      rw [ul, List.take_length] at t2
      exact k D2 ys LL' H2 (s1.trans s2) (s1.free hD2) h2 t2 pm asc

def sp_outE (K : PySem.W.Frag) (C c : Addr) : Sp := fun vs H Q E => ∃ (v : V) (lv : Nat) (LL : List (List Int)) (u : V) (q r : Int) (A : List Int), vs = [v, u] ∧ RegAt C H v lv LL ∧ lv ≤ 4 ∧ Pl K H u q r ∧ Sev.Adr q r A ∧ A.length ≤ 1000 ∧
  (Rg.lnOf lv A ∈ LL → ∀ H', Same H H' → Q .non H') ∧ (Rg.lnOf lv A ∉ LL → ∀ H', Same H H' → E (.ref c) none H')
theorem okE_refuse_outside (T : Txt K mg t) : FnOk P w K mg base (CXE P w) 8 t.f_refuse_outside t.x_refuse_outside ["region", "place"] (sp_outE K t.c_Region t.c_NoCell) := by
  have G_Region_holds := ok_Region_holds (P := P) (w := w) (base := base) T
  refine T.d_refuse_outside.F.okE sc_refuse_outside (fun vs H Q E h => ?_) (fun cdv A outer s H vs Q E hr h => ?_)
  · obtain ⟨v, lv, LL, u, q, r, A, rfl, _⟩ := h; rfl
  · obtain ⟨v, lv, LL, u, q, r, A, rfl, ⟨x, dx, d, rfl, hx, hd⟩, lv4, hu', hA, hlen, k1, k2⟩ := h
    refine ⟨_, (pss_one (ps_if (pt_not (pt_val (pmeth T.cl_Region T.d_Region_holds G_Region_holds (hr.mono (by decide)) (pv 0) (pa_cons (pv 1) pa_nil))))
        (pss_one (ps_raise rfl T.m_NoCell T.xc_NoCell raiseE (pa_cons pe_str pa_nil)))
        pss_nil)), ?_⟩
    refine ⟨_, rfl, x, dx, _, rfl, hx, rfl, _, rfl, .ref x, lv, LL, u, q, r, A, rfl, ⟨x, dx, d, rfl, hx, hd⟩, lv4, hu', hA, hlen, fun H1 s1 => ?_⟩
    refine ⟨_, rfl, ?_⟩
    by_cases h : Rg.lnOf lv A ∈ LL
    · rw [decide_eq_true h]; exact iteF (k1 h H1 s1)
    · rw [decide_eq_false h]; exact iteT ⟨(by walk_at "rdc"), k2 h H1 s1⟩
def CB (LL : List (List Int)) : Bfs.P → Bool := fun q => decide (q ∈ LL.map wk)
theorem mem_inside {LL LL' : List (List Int)} (pm : LL'.Perm LL) (q : Bfs.P) : Bfs.pr q ∈ Rg.puts [] ((LL'.map wk).map Bfs.pr) ↔ CB LL q = true := by
  unfold CB
  rw [Rg.mem_puts, decide_eq_true_iff]
  constructor
  · rintro (h | h)
    · simp at h
    · obtain ⟨z, hz, e⟩ := List.mem_map.mp h
      rw [← Bfs.pr_inj e]
      exact ((pm.map wk).mem_iff).mp hz
  · intro h
    exact .inr (List.mem_map.mpr ⟨q, ((pm.map wk).mem_iff).mpr h, rfl⟩)
theorem cb_iff {lv : Nat} {LL : List (List Int)} (hL : LinesOk lv LL) {p : Bfs.P} {A : List Int} (a : Sev.Adr p.1 p.2 A) : Rg.lnOf lv A ∈ LL ↔ CB LL p = true := by
  unfold CB
  rw [Rg.mem_line hL a, decide_eq_true_iff, List.mem_map]
def sp_levelsE (K : PySem.W.Frag) (C c : Addr) : Sp := fun vs H Q E => ∃ (v : V) (lv : Nat) (LL : List (List Int)) (u : V) (p : Bfs.P) (A : List Int), vs = [v, u] ∧ RegAt C H v lv LL ∧ 0 < lv ∧ lv ≤ 4 ∧ LinesOk lv LL ∧ LL.length < 64 ∧ Pt H u p ∧ Sev.Adr p.1 p.2 A ∧ A.length ≤ 1000 ∧
  (CB LL p = true → ∀ d n H', Same H H' → H d = none → H' d = some (.dT (dF (Bfs.bfs (CB LL) p n))) → n = (Bfs.bfs (CB LL) p n).length → Q (.ref d) H') ∧ (¬ CB LL p = true → ∀ H', Same H H' → E (.ref c) none H')
theorem okE_levels (T : Txt K mg t) : FnOk P w K mg base (CXE P w) 9 t.f_levels t.x_levels ["region", "place"] (sp_levelsE K t.c_Region t.c_NoCell) := by
  have GE_refuse_outside := okE_refuse_outside (P := P) (w := w) (base := base) T
  have G_Region_cells := ok_Region_cells (P := P) (w := w) (base := base) T
  have G_neighbours := ok_neighboursP (P := P) (w := w) (base := base) T
  refine T.d_levels.F.okE sc_levels (fun vs H Q E h => ?_) (fun cdv A outer s H vs Q E hr h => ?_)
  · obtain ⟨v, lv, LL, u, p, A, rfl, _⟩ := h; rfl
  · obtain ⟨v, lv, LL, u, p, Ad, rfl, ⟨x, dx, d, rfl, hx, hd⟩, lv0, lv4, hL, h64, hp, hA, hlen, k1, k2⟩ := h
    have hu := hu_of hr
    have hC : ∀ q, CB LL q = true → q ∈ LL.map wk := fun q hq => of_decide_eq_true hq
    obtain ⟨tr3, hrest3, hC3⟩ : ∃ tr', PSs (cxE P w K mg base ["region", "place", "inside", "cell", "steps_to", "reached", "walked", "now", "beside"] "levels" (defScope s_levels) t.f_levels cdv A outer s H E) ((defBody s_levels).drop 3) tr' ∧
        ∀ (LL' : List (List Int)) (di : Addr) (y : Option V) H4, CB LL p = true → LL'.Perm LL → Same H H4 → H di = none → H4 di = some (.dT (dset (Rg.puts [] ((LL'.map wk).map Bfs.pr)))) →
          tr' { nx := fun _ H' => Q .non H', rt := Q } [some (.ref x), some u, some (.ref di), y, none, none, none, none, none] H4 := by
      refine ⟨_, (pss_cons (ps_set (i := 4) sc_levels.nd rfl (by first | exact Or.inl rfl | exact Or.inr rfl) (pe_disp1 hu (pv 1) pe_int))
      (pss_cons (ps_set (i := 5) sc_levels.nd rfl (by first | exact Or.inl rfl | exact Or.inr rfl) (pe_lstN (pa_cons (pv 1) pa_nil)))
      (pss_cons (ps_set (i := 6) sc_levels.nd rfl (by first | exact Or.inl rfl | exact Or.inr rfl) pe_int)
      (pss_cons (ps_while PassesOwn.leaving (pt_cmpR op_lt (pv 6) (pe_callB call_len_seq (by rfl) T.n_len bb_len (pa_cons (pv 5) pa_nil)) (nomark _))
        (pss_cons (ps_set (i := 7) sc_levels.nd rfl (by first | exact Or.inl rfl | exact Or.inr rfl) (pe_ix ix_list (pv 5) (pv 6) (fun _ _ => rfl)))
        (pss_cons (ps_aug (i := 6) sc_levels.nd rfl (by first | exact Or.inl rfl | exact Or.inr rfl) pe_int ip_add)
        (pss_one (ps_for PassesOwn.leaving rfl (pi_list (pcall T.d_neighbours G_neighbours (hr.mono (by decide)) (pa_cons (pv 7) pa_nil))) (pg_name (i := 8) sc_levels.nd rfl (by first | exact Or.inl rfl | exact Or.inr rfl))
          (pss_one (ps_if (PW.pt (pw_and (pt_cmp (pc_din hu (pv 8) (pv 2))) (pw_and1 (pt_cmp (pc_dnotin hu (pv 8) (pv 4))))))
            (pss_cons (ps_dput hu (pv 4) (pv 8) (pe_op op_add (pe_dget hu (pv 4) (pv 7) (fun _ _ => rfl)) pe_int) rfl)
            (pss_one (ps_expr (pe_bm PySem.F.plainAttrs_list PySem.F.slot_list_append PySem.F.type_list_append mt_append (pv 5) (pa_cons (pv 8) pa_nil)))))
            pss_nil)))))))
      (pss_one (ps_ret (pv 4))))))), fun LL' di y H4 hin pm s4 ndi d4 => ?_⟩
      -- the steps to it, what is reached
      intro ds H5 s5 n5 h5
      have hp5 := hp.keep (s4.trans s5)
      obtain ⟨b, rfl, hb⟩ := hp5
      refine ⟨_, rfl, b, kk (Bfs.pr p), rfl, by rw [kk_kV]; exact hb, h5, ?_⟩
      have nds : H ds = none := s4.free n5
      have dne : di ≠ ds := ne_of_none d4 n5
      generalize hH6 : upd H5 ds (.dT [(kk (Bfs.pr p), V.int 0)]) = H6
      have s6 : Same H H6 := by rw [← hH6]; exact (s4.trans s5).upd nds
      have d6 : H6 di = some (.dT (dset (Rg.puts [] ((LL'.map wk).map Bfs.pr)))) := by rw [← hH6, upd_ne dne]; exact s5 _ _ d4
      have f6 : H6 ds = some (.dT (dF [(p, 0)])) := by rw [← hH6]; exact upd_same
      have hb6 : Pt H6 (.ref b) p := by rw [← hH6]; exact Pt.upd (fun ys z => by rw [h5] at z; cases z) ⟨b, rfl, hb⟩
      refine ⟨_, rfl, (by walk_at "rdc"), fun lr H7 s7 n7 h7 => ?_⟩
      have nlr : H lr = none := s6.free n7
      refine ⟨fun m σ H' => ∃ i us y z z2, σ = [some (.ref x), some (.ref b), some (.ref di), y, some (.ref ds), some (.ref lr), some (.int ((i : Nat) : Int)), z, z2] ∧ Same H H' ∧ H' di = some (.dT (dset (Rg.puts [] ((LL'.map wk).map Bfs.pr)))) ∧
          H' ds = some (.dT (dF (Bfs.bfs (CB LL) p i))) ∧ H' lr = some (.lst us) ∧ Tups H' us (((Bfs.bfs (CB LL) p i).map Prod.fst).map Bfs.pr) ∧ i ≤ (Bfs.bfs (CB LL) p i).length ∧ m = 64 - i,
        ⟨64, 0, [.ref b], _, _, _, rfl, s6.trans s7, s7 _ _ d6, s7 _ _ f6, h7, Tups.one (hb6.keep s7), Nat.zero_le _, rfl⟩, ?_⟩
      rintro m σ H8 ⟨i, us, y, z, z2, rfl, s8, d8, f8, h8, t8, hi8, rfl⟩
      have run := Bfs.run_bfs hin i hi8
      have fl64 := Bfs.bfs_len hC run.toGood
      rw [List.length_map] at fl64
      have tl := t8.len
      rw [List.length_map, List.length_map] at tl
      refine ⟨_, rfl, _, rfl, lr, _, rfl, .inl (SqL.of h8), _, _, rfl, rfl, _, rfl, ite2 (fun c => ?_) (fun c => ?_)⟩
      · have c : ((i : Nat) : Int) < ((us.length : Nat) : Int) := of_decide_eq_true c
        have hlt : i < (Bfs.bfs (CB LL) p i).length := by omega
        obtain ⟨⟨pn, dn⟩, hn⟩ : ∃ w, (Bfs.bfs (CB LL) p i)[i]? = some w := ⟨_, List.getElem?_eq_getElem hlt⟩
        obtain ⟨un, hun, hpn⟩ := t8.atPt (i := i) (p := pn) (by rw [List.getElem?_map, hn]; rfl)
        refine ⟨fun σ' H' => ∃ us y z z2, σ' = [some (.ref x), some (.ref b), some (.ref di), y, some (.ref ds), some (.ref lr), some (.int ((i : Nat) + 1 : Int)), z, z2] ∧ Same H H' ∧ H' di = some (.dT (dset (Rg.puts [] ((LL'.map wk).map Bfs.pr)))) ∧
          H' ds = some (.dT (dF (Bfs.bfs (CB LL) p (i + 1)))) ∧ H' lr = some (.lst us) ∧ Tups H' us (((Bfs.bfs (CB LL) p (i + 1)).map Prod.fst).map Bfs.pr), ?_, ?_⟩
        · rintro σ' H' ⟨us, y, z, z2, rfl, s', d', f', h', t'⟩
          have pre : Bfs.bfs (CB LL) p i <+: Bfs.bfs (CB LL) p (i + 1) := by
            show _ <+: Bfs.node (CB LL) (Bfs.bfs (CB LL) p i) i
            unfold Bfs.node
            rw [hn]
            exact Bfs.pushes_pre _ _
          have := pre.length_le
          exact ⟨64 - (i + 1), by omega, i + 1, us, y, z, z2, by rw [Int.natCast_add]; rfl, s', d', f', h', t', by omega, rfl⟩
        · refine ⟨_, rfl, _, rfl, lr, us, _, un, rfl, rfl, SqL.of h8, atI_nat hun, ?_⟩
          refine ⟨_, rfl, _, _, rfl, rfl, ?_⟩
          refine ⟨_, rfl, un, pn, rfl, hpn.pl, fun ln un6 H9 s9 n9 h9 t9 => ?_⟩
          have nn : (Bfs.nears pn).length = 6 := rfl
          have ul6 := t9.len
          rw [List.length_map, nn] at ul6
          have eb : Bfs.bfs (CB LL) p (i + 1) = (Bfs.nears pn).foldl (Bfs.push1 (CB LL) (dn + 1)) (Bfs.bfs (CB LL) p i) := by
            show Bfs.node (CB LL) (Bfs.bfs (CB LL) p i) i = _
            unfold Bfs.node
            rw [hn]
          have dn0 := run.toGood.nonneg hn
          refine ⟨ln, rfl, ⟨_, SqL.of h9⟩, for_list' (xs := un6) (fun j σ H' => ∃ us z2, σ = [some (.ref x), some (.ref b), some (.ref di), y, some (.ref ds), some (.ref lr), some (.int ((i : Nat) + 1 : Int)), some un, z2] ∧ Same H H' ∧ H' ln = some (.lst un6) ∧ Tups H' un6 ((Bfs.nears pn).map Bfs.pr) ∧ Pt H' un pn ∧
              H' di = some (.dT (dset (Rg.puts [] ((LL'.map wk).map Bfs.pr)))) ∧ H' ds = some (.dT (dF (((Bfs.nears pn).take j).foldl (Bfs.push1 (CB LL) (dn + 1)) (Bfs.bfs (CB LL) p i)))) ∧ H' lr = some (.lst us) ∧
              Tups H' us (((((Bfs.nears pn).take j).foldl (Bfs.push1 (CB LL) (dn + 1)) (Bfs.bfs (CB LL) p i)).map Prod.fst).map Bfs.pr))
            ⟨us, _, rfl, s8.trans s9, h9, t9, hpn.keep s9, s9 _ _ d8, s9 _ _ f8, s9 _ _ h8, t8.keep s9⟩ (fun j σ H' _ ⟨_, _, _, _, h, _⟩ => SqL.of h) ?_ ?_⟩
          · rintro j uj σ Ha hj ⟨us, z2, rfl, sa, ha, ta, hpa, da, fa, la, tua⟩ D2 hN2 _
            obtain ⟨q, hq, hqp⟩ := ta.getPt hj
            have hjl : j < un6.length := (List.getElem?_eq_some_iff.mp hj).1
            have good := Bfs.Good.pushes (y := (pn, dn)) dn0 ((Bfs.nears pn).take j) run.toGood (List.mem_of_getElem? hn) (run.top _ hn) fun q' hq' => List.mem_of_mem_take hq'
            have pre := Bfs.pushes_pre (C := CB LL) (d := dn + 1) ((Bfs.nears pn).take j) (Bfs.bfs (CB LL) p i)
            have est : ((Bfs.nears pn).take (j + 1)).foldl (Bfs.push1 (CB LL) (dn + 1)) (Bfs.bfs (CB LL) p i) = Bfs.push1 (CB LL) (dn + 1) (((Bfs.nears pn).take j).foldl (Bfs.push1 (CB LL) (dn + 1)) (Bfs.bfs (CB LL) p i)) q := by
              rw [Rg.take_snoc hq, List.foldl_append]; rfl
            rw [est] at hN2
            generalize hfl : ((Bfs.nears pn).take j).foldl (Bfs.push1 (CB LL) (dn + 1)) (Bfs.bfs (CB LL) p i) = fl at *
            have gl := Bfs.bfs_len hC good.1
            rw [List.length_map] at gl
            have lk : Bfs.look fl pn = some dn := Bfs.mem_look good.1.nd (Bfs.pre_mem pre (List.mem_of_getElem? hn))
            refine ⟨_, rfl, _, rfl, di, _, rfl, getC (.inl da) hqp, _, rfl, ?_⟩
            by_cases hc : Bfs.pr q ∈ Rg.puts [] ((LL'.map wk).map Bfs.pr)
            · rw [if_pos hc]
              have cq := (mem_inside pm q).mp hc
              refine iteT ⟨_, rfl, _, rfl, ds, _, rfl, getFl (.inl fa) hqp, _, rfl, ?_⟩
              cases hlk : Bfs.look fl q with
              | some e =>
                have hm : q ∈ fl.map Prod.fst := (Bfs.look_isSome fl q).mp (by rw [hlk]; rfl)
                have ep : Bfs.push1 (CB LL) (dn + 1) fl q = fl := by unfold Bfs.push1; rw [if_neg (fun z => z.2 hm)]
                rw [ep] at hN2
                exact iteF (hN2 _ _ ⟨us, _, rfl, sa, ha, ta, hpa, da, fa, la, tua⟩)
              | none =>
                have hm : q ∉ fl.map Prod.fst := fun z => by
                  have := (Bfs.look_isSome fl q).mpr z
                  rw [hlk] at this; cases this
                have ep : Bfs.push1 (CB LL) (dn + 1) fl q = fl ++ [(q, dn + 1)] := by unfold Bfs.push1; rw [if_pos ⟨cq, hm⟩]
                rw [ep] at hN2
                refine iteT ?_
                have g1 := getFl (.inl fa) hpa
                rw [lk] at g1
                refine ⟨_, rfl, _, rfl, ds, _, rfl, g1, _, _, rfl, rfl, _, rfl, _, rfl, ds, _, rfl, putFl fa hqp hm (small1000 (by omega)), ?_⟩
                have nds1 : ∀ b o, Ha b = some o → o ≠ .dT (dF fl) → b ≠ ds := fun b o e z => ne_of e fa z
                have nt : ∀ ys, Ha ds ≠ some (.tup ys) := fun ys z => by rw [fa] at z; cases z
                have la' : upd Ha ds (.dT (dF (fl ++ [(q, dn + 1)]))) lr = some (.lst us) := by rw [upd_ne (nds1 _ _ la (by intro z; cases z))]; exact la
                have usl := tua.len
                rw [List.length_map, List.length_map] at usl
                refine ⟨_, rfl, .inl ⟨rfl, _, SqL.of la'⟩, _, rfl, lr, us, _, rfl, rfl, la', small1000 (by omega), ?_⟩
                have nlt : ∀ ys, upd Ha ds (.dT (dF (fl ++ [(q, dn + 1)]))) lr ≠ some (.tup ys) := fun ys z => by rw [la'] at z; cases z
                have lne : ∀ b o, upd Ha ds (.dT (dF (fl ++ [(q, dn + 1)]))) b = some o → o ≠ .lst us → b ≠ lr := fun b o e z => ne_of e la' z
                refine hN2 _ _ ⟨us ++ [uj], _, rfl, (sa.upd nds).upd nlr, ?_, (ta.upd nt).upd nlt, (hpa.upd nt).upd nlt, ?_, ?_, upd_same, ?_⟩
                · have : ln ≠ lr := (ne_of_none h8 n9).symm
                  rw [upd_ne this, upd_ne (nds1 _ _ ha (by intro z; cases z))]; exact ha
                · have : upd Ha ds (.dT (dF (fl ++ [(q, dn + 1)]))) di = some (.dT (dset (Rg.puts [] ((LL'.map wk).map Bfs.pr)))) := by rw [upd_ne dne]; exact da
                  rw [upd_ne (lne _ _ this (by intro z; cases z))]; exact this
                · rw [upd_ne (lne ds _ upd_same (by intro z; cases z))]; exact upd_same
                · rw [List.map_append]
                  exact ((tua.upd nt).upd nlt).snocPt ((hqp.upd nt).upd nlt)
            · rw [if_neg hc]
              have ep : Bfs.push1 (CB LL) (dn + 1) fl q = fl := by unfold Bfs.push1; rw [if_neg (fun z => hc ((mem_inside pm q).mpr z.1))]
              rw [ep] at hN2
              exact iteF (hN2 _ _ ⟨us, _, rfl, sa, ha, ta, hpa, da, fa, la, tua⟩)
          · rintro σ Ha ⟨us, z2, rfl, sa, ha, ta, hpa, da, fa, la, tua⟩
            rw [ul6, show (Bfs.nears pn).take 6 = Bfs.nears pn from rfl, ← eb] at fa tua
            exact ⟨us, _, _, _, rfl, sa, da, fa, la, tua⟩
      · have c : ¬ ((i : Nat) : Int) < ((us.length : Nat) : Int) := fun w => c (decide_eq_true w)
        exact ⟨_, rfl, k1 hin ds i H8 s8 nds f8 (by omega)⟩
    refine ⟨_, (pss_cons (ps_expr (pcallE T.d_refuse_outside GE_refuse_outside (hr.mono (by decide)) (pa_cons (pv 0) (pa_cons (pv 1) pa_nil))))
      (pss_cons (ps_set (i := 2) sc_levels.nd rfl (by first | exact Or.inl rfl | exact Or.inr rfl) pe_dnewTN)
      (pss_cons (ps_for PassesOwn.leaving rfl (pi_list (pmeth0 T.cl_Region T.d_Region_cells G_Region_cells (hr.mono (by decide)) (pv 0))) (pg_name (i := 3) sc_levels.nd rfl (by first | exact Or.inl rfl | exact Or.inr rfl))
        (pss_one (ps_dput hu (pv 2) (pv 3) pe_bl rfl)))
      hrest3))), ?_⟩
    refine ⟨_, rfl, _, rfl, .ref x, lv, LL, u, p.1, p.2, Ad, rfl, ⟨x, dx, d, rfl, hx, hd⟩, lv4, hp.pl, hA, hlen, fun hin H1 s1 => ?_, fun hin H1 s1 => k2 (fun z => hin ((cb_iff hL hA).mpr z)) H1 s1⟩
    have hin := (cb_iff hL hA).mp hin
    intro di H2 s2 n2 h2
    have s02 := s1.trans s2
    have ndi : H di = none := s1.free n2
    refine ⟨_, rfl, x, dx, _, rfl, s02 _ _ hx, rfl, .ref x, lv, LL, rfl, ⟨x, dx, d, rfl, s02 _ _ hx, s02 _ _ hd⟩, lv0, hL, h64, fun lc uc LL' H3 s3 n3 h3 t3 pm asc => ?_⟩
    have s03 := s02.trans s3
    have pl := pm.length_eq
    have ul := t3.len
    rw [List.length_map, List.length_map] at ul
    refine ⟨lc, rfl, ⟨_, SqL.of h3⟩, for_list' (xs := uc) (fun i σ H' => ∃ y, σ = [some (.ref x), some u, some (.ref di), y, none, none, none, none, none] ∧ Same H H' ∧ H' lc = some (.lst uc) ∧ Tups H' uc ((LL'.map wk).map Bfs.pr) ∧ H' di = some (.dT (dset (Rg.puts [] (((LL'.map wk).map Bfs.pr).take i)))))
      ⟨_, rfl, s03, h3, t3, s3 _ _ h2⟩ (fun i σ H' _ ⟨_, _, _, h, _⟩ => SqL.of h) ?_ ?_⟩
    · rintro i uu σ H4 hu4 ⟨y, rfl, s4, h4, t4, d4⟩ D1 hN1 _
      obtain ⟨q, hq, hpt⟩ := t4.getPt hu4
      have hi : i < uc.length := (List.getElem?_eq_some_iff.mp hu4).1
      have pul := Rg.puts_len (((LL'.map wk).map Bfs.pr).take i) []
      rw [List.length_take, List.length_map, List.length_map] at pul
      refine ⟨_, rfl, _, rfl, di, _, rfl, putC d4 hpt (small1000 (by rw [List.length_nil] at pul; omega)), ?_⟩
      have n1 : ∀ b o, H4 b = some o → o ≠ .dT (dset (Rg.puts [] (((LL'.map wk).map Bfs.pr).take i))) → b ≠ di := fun b o e z => ne_of e d4 z
      refine hN1 _ _ ⟨_, rfl, s4.upd ndi, ?_, ?_, ?_⟩
      · rw [upd_ne (n1 _ _ h4 (by intro z; cases z))]; exact h4
      · exact t4.upd (fun zs z => by rw [d4] at z; cases z)
      · rw [upd_same, Rg.take_snoc (by rw [List.getElem?_map, hq]; rfl), Rg.puts_snoc]
    · rintro σ H4 ⟨y, rfl, s4, h4, t4, d4⟩
      rw [ul, ← List.length_map (f := wk), ← List.length_map (f := Bfs.pr), List.take_length] at d4
      exact hC3 LL' di _ H4 hin pm s4 ndi d4

theorem get_eq (fl : Bfs.FL) (z : Bfs.P) (e : Int) : scal (((Bfs.look fl z).map V.int).getD .non) (.int e) = true ∧ decide (((Bfs.look fl z).map V.int).getD .non = V.int e) = decide (Bfs.look fl z = some e) := by
  cases Bfs.look fl z with
  | none => exact ⟨rfl, by simp⟩
  | some x => exact ⟨rfl, by simp⟩
def PvN (H1 : Hp) (D : Addr) (fl : Bfs.FL) (d : Int) (q : Bfs.P) : Nat → List V → Hp → Prop := fun i ys H' => Same H1 H' ∧ H' D = some (.lst ys) ∧ Tups H' ys ((((Bfs.nears q).take i).filter fun z => decide (Bfs.look fl z = some (d - 1))).map Bfs.pr)
def sp_nearer (K : PySem.W.Frag) : Sp := fun vs H Q _ => ∃ (u : V) (q : Bfs.P) (sd : Addr) (C : Bfs.P → Bool) (p : Bfs.P) (fl : Bfs.FL) (d : Int), vs = [u, .ref sd] ∧ Pt H u q ∧ H sd = some (.dT (dF fl)) ∧ Bfs.Good C p fl ∧ Bfs.look fl q = some d ∧ 0 < d ∧ ∀ v H', Same H H' → Pt H' v (Bfs.nx fl q) → Q v H'
theorem ok_first_one_nearer (T : Txt K mg t) : FnOk P w K mg base CX0 4 t.f_first_one_nearer t.x_first_one_nearer ["place", "steps_left"] (sp_nearer K) := by
  have G_neighbours := ok_neighboursP (P := P) (w := w) (base := base) T
  refine T.d_first_one_nearer.F.ok sc_first_one_nearer (fun vs H Q E h => ?_) (fun cdv A outer s H vs Q E hr h => ?_)
  · obtain ⟨u, q, sd, C, p, fl, d, rfl, _⟩ := h; rfl
  · obtain ⟨u, q, sd, C, p, fl, d, rfl, hu', hd, g, lk, d0, k⟩ := h
    have hu := hu_of hr
    refine ⟨_, (pss_cons (ps_setLcI (x := "beside") (fr := ["place", "steps_left"]) (js := [0, 1]) (i := 2) sc_first_one_nearer.nd rfl rfl ⟨rfl, by decide +kernel, by decide +kernel, rfl, rfl, by decide +kernel, by decide +kernel, by decide +kernel, by decide +kernel⟩ rfl rfl rfl (pi_list (pcall T.d_neighbours G_neighbours (hr.mono (by decide)) (pa_cons (pv 0) pa_nil))) (fun cl fp s H => (pt_cmpR op_eq (pe_dget1 hu (pv 2) (pv 0) ⟨rfl, rfl, rfl, rfl⟩) (pe_op op_sub (pe_dget hu (pv 2) (pv 1) (fun _ _ => rfl)) pe_int) (nomark _))) (fun cl fp s H => (pv 0)))
      (pss_one (ps_ret (pe_ix ix_list (pv 2) pe_int (fun _ _ => rfl))))), ?_⟩
    refine ⟨_, rfl, u, q, rfl, hu'.pl, fun ln un6 H1 s1 n1 h1 t1 => ?_⟩
    have ul6 := t1.len
    rw [List.length_map, Bfs.nears_len] at ul6
    refine ⟨ln, rfl, ⟨_, SqL.of h1⟩, fun D hD => ?_⟩
    refine lcS_list (xs := un6) (PvN H1 D fl d q) ⟨same_upd hD, upd_same, .nil⟩ (fun i ys H' ⟨s', _⟩ => SqL.of (s' _ _ h1)) ?_ ?_
    · rintro i x ys H2 hx ⟨s2, h2, t2⟩
      obtain ⟨z, hz, hzp⟩ := t1.getPt hx
      have hi : i < un6.length := (List.getElem?_eq_some_iff.mp hx).1
      have s12 := s1.trans s2
      have hd2 := s12 _ _ hd
      obtain ⟨e1, e2⟩ := get_eq fl z (d - 1)
      have gq := getFl (.inl hd2) (hu'.keep s12)
      rw [lk] at gq
      refine ⟨_, rfl, sd, rfl, .inr ⟨_, .inl hd2⟩, _, rfl, _, getFl (.inl hd2) (hzp.keep s2), _, rfl, _, rfl, sd, _, rfl, gq, _, _, rfl, rfl, e1, _, rfl, ?_⟩
      rw [e2]
      have yl := t2.len
      rw [List.length_map] at yl
      have fl6 := List.length_filter_le (fun z => decide (Bfs.look fl z = some (d - 1))) ((Bfs.nears q).take i)
      rw [List.length_take, Bfs.nears_len] at fl6
      by_cases c : Bfs.look fl z = some (d - 1)
      · rw [decide_eq_true c]
        refine iteT ⟨_, rfl, lcS_put (Pv := PvN H1 D fl d q) h2 (small1000 (by omega)) hi ⟨s2.upd hD, upd_same, ?_⟩⟩
        rw [Rg.take_snoc hz, List.filter_append, List.filter_cons, if_pos (decide_eq_true c)]
        exact (t2.snocPt (hzp.keep s2)).upd fun zs w => by rw [h2] at w; cases w
      · rw [decide_eq_false c]
        refine iteF (lcS_skip (Pv := PvN H1 D fl d q) hi ⟨s2, h2, ?_⟩)
        rw [Rg.take_snoc hz, List.filter_append, List.filter_cons, if_neg (by rw [decide_eq_false c]; exact Bool.false_ne_true)]
        simpa using t2
    · rintro ys H2 ⟨s2, h2, t2⟩
      rw [ul6, show (Bfs.nears q).take 6 = Bfs.nears q from rfl] at t2
      obtain ⟨tt, e, _, _⟩ := Bfs.nx_ok g lk d0
      rw [e] at t2
      obtain ⟨un, hun, hpt⟩ := t2.atPt (i := 0) (p := Bfs.nx fl q) rfl
      exact ⟨_, rfl, D, ys, 0, un, rfl, rfl, SqL.of h2, atI_nat (j := 0) hun, k un H2 (s1.trans s2) hpt⟩
def wayP (fl : Bfs.FL) (p : Bfs.P) (d : Int) : List Bfs.P := (List.range (d.toNat + 1)).map (Bfs.pth fl p)
def sp_wayE (K : PySem.W.Frag) (C cc ca : Addr) : Sp := fun vs H Q E => ∃ (v : V) (lv : Nat) (LL : List (List Int)) (u1 : V) (p1 : Bfs.P) (A1 : List Int) (u2 : V) (p2 : Bfs.P) (A2 : List Int), vs = [v, u1, u2] ∧ RegAt C H v lv LL ∧ 0 < lv ∧ lv ≤ 4 ∧ LinesOk lv LL ∧ LL.length < 64 ∧ Pt H u1 p1 ∧ Sev.Adr p1.1 p1.2 A1 ∧ A1.length ≤ 1000 ∧ Pt H u2 p2 ∧ Sev.Adr p2.1 p2.2 A2 ∧ A2.length ≤ 1000 ∧
  (CB LL p1 = true → CB LL p2 = true → ∀ n, n = (Bfs.bfs (CB LL) p2 n).length →
    (∀ d, Bfs.look (Bfs.bfs (CB LL) p2 n) p1 = some d → ∀ l us H', Same H H' → H l = none → H' l = some (.lst us) → Tups H' us ((wayP (Bfs.bfs (CB LL) p2 n) p1 d).map Bfs.pr) → Q (.ref l) H') ∧ (Bfs.look (Bfs.bfs (CB LL) p2 n) p1 = none → ∀ H', Same H H' → E (.ref ca) none H')) ∧
  (¬ (CB LL p1 = true ∧ CB LL p2 = true) → ∀ H', Same H H' → E (.ref cc) none H')
theorem okE_way (T : Txt K mg t) : FnOk P w K mg base (CXE P w) 10 t.f_way t.x_way ["region", "one", "other"] (sp_wayE K t.c_Region t.c_NoCell t.c_Apart) := by
  have GE_refuse_outside := okE_refuse_outside (P := P) (w := w) (base := base) T
  have GE_levels := okE_levels (P := P) (w := w) (base := base) T
  have G_first_one_nearer := ok_first_one_nearer (P := P) (w := w) (base := base) T
  refine T.d_way.F.okE sc_way (fun vs H Q E h => ?_) (fun cdv A outer s H vs Q E hr h => ?_)
  · obtain ⟨v, lv, LL, u1, p1, A1, u2, p2, A2, rfl, _⟩ := h; rfl
  · obtain ⟨v, lv, LL, u1, p1, A1, u2, p2, A2, rfl, ⟨x, dx, d, rfl, hx, hd⟩, lv0, lv4, hL, h64, hp1, hA1, l1, hp2, hA2, l2, k1, k2⟩ := h
    have hu := hu_of hr
    have hu64 := hr.units
    refine ⟨_, (pss_cons (ps_expr (pcallE T.d_refuse_outside GE_refuse_outside (hr.mono (by decide)) (pa_cons (pv 0) (pa_cons (pv 1) pa_nil))))
      (pss_cons (ps_set (i := 3) sc_way.nd rfl (by first | exact Or.inl rfl | exact Or.inr rfl) (pcallE T.d_levels GE_levels (hr.mono (by decide)) (pa_cons (pv 0) (pa_cons (pv 2) pa_nil))))
      (pss_cons (ps_if (pt_cmp (pc_dnotin hu (pv 1) (pv 3)))
        (pss_one (ps_raise rfl T.m_Apart T.xc_Apart raiseE (pa_cons pe_str pa_nil)))
        pss_nil)
      (pss_cons (ps_set (i := 4) sc_way.nd rfl (by first | exact Or.inl rfl | exact Or.inr rfl) (pe_lstN (pa_cons (pv 1) pa_nil)))
      (pss_cons (ps_set (i := 5) sc_way.nd rfl (by first | exact Or.inl rfl | exact Or.inr rfl) (pv 1))
      (pss_cons (ps_while PassesOwn.leaving (pt_cmpR (op_neTI hu64) (pv 5) (pv 2) (nomark _))
        (pss_cons (ps_set (i := 5) sc_way.nd rfl (by first | exact Or.inl rfl | exact Or.inr rfl) (pcall T.d_first_one_nearer G_first_one_nearer (hr.mono (by decide)) (pa_cons (pv 5) (pa_cons (pv 3) pa_nil))))
        (pss_one (ps_expr (pe_bm PySem.F.plainAttrs_list PySem.F.slot_list_append PySem.F.type_list_append mt_append (pv 4) (pa_cons (pv 5) pa_nil))))))
      (pss_one (ps_ret (pv 4))))))))), ?_⟩
    refine ⟨_, rfl, _, rfl, .ref x, lv, LL, u1, p1.1, p1.2, A1, rfl, ⟨x, dx, d, rfl, hx, hd⟩, lv4, hp1.pl, hA1, l1, fun hin H1 s1 => ?_, fun hin H1 s1 => k2 (fun z => hin ((cb_iff hL hA1).mpr z.1)) H1 s1⟩
    have c1 := (cb_iff hL hA1).mp hin
    refine ⟨_, rfl, _, rfl, .ref x, lv, LL, u2, p2, A2, rfl, ⟨x, dx, d, rfl, s1 _ _ hx, s1 _ _ hd⟩, lv0, lv4, hL, h64, hp2.keep s1, hA2, l2, fun c2 sd n H2 s2 n2 h2 hn => ?_, fun c2 H2 s2 => k2 (fun z => c2 z.2) H2 (s1.trans s2)⟩
    obtain ⟨k3, k4⟩ := k1 c1 c2 n hn
    have g := (Bfs.run_bfs c2 n (by omega)).toGood
    have hC : ∀ q, CB LL q = true → q ∈ LL.map wk := fun q hq => of_decide_eq_true hq
    have fl64 := Bfs.bfs_len hC g
    rw [List.length_map] at fl64
    have s02 := s1.trans s2
    generalize hfl : Bfs.bfs (CB LL) p2 n = fl at *
    refine ⟨_, rfl, _, rfl, sd, _, rfl, getFl (.inl h2) (hp1.keep s02), _, rfl, ?_⟩
    cases lk : Bfs.look fl p1 with
    | none => exact iteT ⟨(by walk_at "rdc"), k4 lk H2 s02⟩
    | some dd =>
      refine iteF ?_
      have dlt := Bfs.dist_lt g lk
      have dd0 := (g.zero (Bfs.look_mem lk)).2
      obtain ⟨b1, rfl, hb1⟩ := hp1
      obtain ⟨b2, rfl, hb2⟩ := hp2
      refine ⟨_, rfl, (by walk_at "rdc"), fun lp H3 s3 n3 h3 => ?_⟩
      have nlp : H lp = none := s02.free n3
      have s03 := s02.trans s3
      refine ⟨_, rfl, ?_⟩
      refine ⟨fun m σ H' => ∃ (i : Nat) (us : List V) (un : V), σ = [some (.ref x), some (.ref b1), some (.ref b2), some (.ref sd), some (.ref lp), some un] ∧ Same H H' ∧ H' sd = some (.dT (dF fl)) ∧ H' lp = some (.lst us) ∧ Tups H' us (((List.range (i + 1)).map (Bfs.pth fl p1)).map Bfs.pr) ∧ Pt H' un (Bfs.pth fl p1 i) ∧ (i : Int) ≤ dd ∧ m = dd.toNat - i,
        ⟨_, 0, [.ref b1], .ref b1, rfl, s03, s3 _ _ h2, h3, Tups.one (p := p1) ⟨b1, rfl, s03 _ _ hb1⟩, ⟨b1, rfl, s03 _ _ hb1⟩, dd0, rfl⟩, ?_⟩
      rintro m σ H4 ⟨i, us, un, rfl, s4, d4, h4, t4, hun, hi, rfl⟩
      obtain ⟨bn, rfl, hbn⟩ := id hun
      refine ⟨_, rfl, _, rfl, bn, b2, [(Bfs.pth fl p1 i).1, (Bfs.pth fl p1 i).2], [p2.1, p2.2], rfl, rfl, SqT.of hbn, SqT.of (s4 _ _ hb2), _, rfl, ?_⟩
      have pe := Bfs.pth_end g lk hi
      have ed : decide ([(Bfs.pth fl p1 i).1, (Bfs.pth fl p1 i).2] = [p2.1, p2.2]) = decide ((i : Int) = dd) := by
        rw [decide_eq_decide, ← pe]
        exact ⟨fun z => Bfs.pr_inj z, fun z => by rw [z]⟩
      rw [ed]
      by_cases c : (i : Int) = dd
      · rw [decide_eq_true c]
        refine iteF ⟨_, rfl, k3 dd lk lp us H4 s4 nlp h4 ?_⟩
        unfold wayP
        rw [show dd.toNat = i by omega]; exact t4
      · rw [decide_eq_false c]
        have lki := Bfs.pth_look g lk i hi
        refine iteT ⟨fun σ' H' => ∃ us un, σ' = [some (.ref x), some (.ref b1), some (.ref b2), some (.ref sd), some (.ref lp), some un] ∧ Same H H' ∧ H' sd = some (.dT (dF fl)) ∧ H' lp = some (.lst us) ∧ Tups H' us (((List.range (i + 1 + 1)).map (Bfs.pth fl p1)).map Bfs.pr) ∧ Pt H' un (Bfs.pth fl p1 (i + 1)), ?_, ?_⟩
        · rintro σ' H' ⟨us, un, rfl, s', d', h', t', hn'⟩
          exact ⟨dd.toNat - (i + 1), by omega, i + 1, us, un, rfl, s', d', h', t', hn', by omega, rfl⟩
        · refine ⟨_, rfl, _, rfl, .ref bn, _, sd, _, _, fl, _, rfl, hun, d4, g, lki, by omega, fun v5 H5 s5 h5 => ?_⟩
          have tl := t4.len
          rw [List.length_map, List.length_map, List.length_range] at tl
          have h45 := s5 _ _ h4
          refine ⟨_, rfl, .inl ⟨rfl, _, SqL.of h45⟩, _, rfl, lp, us, _, rfl, rfl, h45, small1000 (by omega), ?_⟩
          have nt : ∀ ys, H5 lp ≠ some (.tup ys) := fun ys z => by rw [h45] at z; cases z
          refine ⟨us ++ [v5], v5, rfl, (s4.trans s5).upd nlp, ?_, upd_same, ?_, h5.upd nt⟩
          · rw [upd_ne (ne_of (s5 _ _ d4) h45 (by intro z; cases z))]; exact s5 _ _ d4
          · rw [List.range_succ (n := i + 1), List.map_append]
            exact ((t4.keep s5).upd nt).snocPt (h5.upd nt)

def sp_cell (K : PySem.W.Frag) : Sp := fun vs H Q _ => ∃ a ns k, vs = [.ref a, .int k] ∧ SqL K H a (List.map V.int ns) ∧ 0 ≤ k ∧ Q (.int (cl ns k)) H
theorem ok_law_cell_at (T : Txt K mg t) : FnOk P w K mg base CX0 1 t.f_law_cell_at t.x_law_cell_at ["script", "k"] (sp_cell K) := by
  refine T.d_law_cell_at.F.ok sc_law_cell_at (fun vs H Q E h => ?_) (fun cdv A outer s H vs Q E hr h => ?_)
  · obtain ⟨a, ns, k, rfl, _⟩ := h; rfl
  · obtain ⟨a, ns, k, rfl, hS, hk, q⟩ := h
    refine ⟨_, (pss_cons (ps_if (pt_cmpR op_lt (pv 1) (pe_callB call_len_seq (by rfl) T.n_len bb_len (pa_cons (pv 0) pa_nil)) (nomark _))
        (pss_one (ps_ret (pe_ix ix_list (pv 0) (pv 1) (fun _ _ => rfl))))
        pss_nil)
      (pss_one (ps_ret pe_int))), ?_⟩
    refine ⟨_, rfl, _, rfl, a, _, rfl, .inl hS, _, _, rfl, rfl, _, rfl, ?_⟩
    refine ite2 (fun hlt => ?_) (fun hlt => ?_)
    · have hlt : k < ((List.map V.int ns).length : Int) := of_decide_eq_true hlt
      rw [List.length_map] at hlt
      refine ⟨_, rfl, _, rfl, a, _, _, V.int (cl ns k), rfl, rfl, hS, ?_, q⟩
      have e : ns[k.toNat]? = some (cl ns k) := by
        unfold cl
        rw [List.getElem?_eq_getElem (by omega)]; rfl
      have := atI_nat (xs := List.map V.int ns) (j := k.toNat) (v := V.int (cl ns k)) (by rw [List.getElem?_map, e]; rfl)
      rwa [show ((k.toNat : Nat) : Int) = k by omega] at this
    · have hlt : ¬ k < ((List.map V.int ns).length : Int) := fun z => hlt (decide_eq_true z)
      rw [List.length_map] at hlt
      have e : cl ns k = 0 := by
        unfold cl
        rw [List.getElem?_eq_none (by omega)]; rfl
      rw [e] at q
      exact q

def sp_whole : Sp := fun vs H Q _ => ∃ i, vs = [.int i] ∧ Q (.bl true) H
theorem ok_law_whole (T : Txt K mg t) : FnOk P w K mg base CX0 1 t.f_law_whole t.x_law_whole ["found"] sp_whole := by
  refine T.d_law_whole.F.ok sc_law_whole (fun vs H Q E h => ?_) (fun cdv A outer s H vs Q E hr h => ?_)
  · obtain ⟨i, rfl, _⟩ := h; rfl
  · obtain ⟨i, rfl, q⟩ := h
    refine ⟨_, (pss_one (ps_ret (pe_and (pe_callB call_isi (by rfl) T.n_isinstance bb_isinstance (pa_cons (pv 0) (pa_cons (pe_bltn (v := .ty "int") rfl T.n_int bb_int rfl) pa_nil))) (pe_one (pe_not (pe_callB call_isi (by rfl) T.n_isinstance bb_isinstance (pa_cons (pv 0) (pa_cons (pe_bltn (v := .ty "bool") rfl T.n_bool bb_bool rfl) pa_nil)))))))), ?_⟩
    refine ⟨_, rfl, _, _, _, _, rfl, rfl, .int _, kit_same _ _, _, rfl, iteT ?_⟩
    exact ⟨_, rfl, _, _, _, _, rfl, rfl, .int _, kit_int_bool _, _, rfl, q⟩

def sp_alike (K : PySem.W.Frag) : Sp := fun vs H Q _ => ∃ v u q r q' r', vs = [v, u] ∧ Pl K H v q r ∧ Pl K H u q' r' ∧ Q (.bl (decide ([q, r] = [q', r']))) H
theorem ok_law_place_alike (T : Txt K mg t) : FnOk P w K mg base CX0 2 t.f_law_place_alike t.x_law_place_alike ["found", "due"] (sp_alike K) := by
  have G_law_whole := ok_law_whole (P := P) (w := w) (base := base) T
  refine T.d_law_place_alike.F.ok sc_law_place_alike (fun vs H Q E h => ?_) (fun cdv A outer s H vs Q E hr h => ?_)
  · obtain ⟨v, u, q, r, q', r', rfl, _⟩ := h; rfl
  · obtain ⟨_, _, q, r, q', r', rfl, ⟨a, rfl, ha⟩, ⟨b, rfl, hb⟩, k⟩ := h
    have hu0 := hr.units0
    refine ⟨_, (pss_cons (ps_if (PW.pt (pw_or (pt_not (pt_val (pe_callB call_isi (by rfl) T.n_isinstance bb_isinstance (pa_cons (pv 0) (pa_cons (pe_bltn (v := .ty "tuple") rfl T.n_tuple bb_tuple rfl) pa_nil))))) (pw_or (pt_cmpR op_ne (pe_callB call_len_seq (by rfl) T.n_len bb_len (pa_cons (pv 0) pa_nil)) pe_int (nomark _)) (pw_or (pt_not (pt_val (pcall T.d_law_whole G_law_whole (hr.mono (by decide)) (pa_cons (pe_ix ix_tup (pv 0) pe_int (fun _ _ => rfl)) pa_nil)))) (pw_or1 (pt_not (pt_val (pcall T.d_law_whole G_law_whole (hr.mono (by decide)) (pa_cons (pe_ix ix_tup (pv 0) pe_int (fun _ _ => rfl)) pa_nil)))))))))
        (pss_one (ps_ret pe_bl))
        pss_nil)
      (pss_one (ps_ret (pe_cmpR (op_eqTI hu0) (pv 0) (pv 1) (nomark _))))), ?_⟩
    refine ⟨_, rfl, _, _, _, _, rfl, rfl, .tup ha, kit_same _ _, _, rfl, iteF ?_⟩
    refine ⟨_, rfl, a, _, rfl, .inr ha, rfl, _, rfl, iteF ?_⟩
    refine ⟨_, rfl, _, _, _, _, rfl, rfl, ha, (by rfl), _, rfl, _, rfl, iteF ?_⟩
    refine ⟨_, rfl, _, _, _, _, rfl, rfl, ha, (by rfl), _, rfl, _, rfl, iteF ?_⟩
    exact ⟨_, rfl, _, rfl, a, b, [q, r], [q', r'], rfl, rfl, ha, hb, k⟩

def stepPairs : List (Int × Int) := [(0, 0), (1, 0), (0, 1), (-1, 1), (-1, 0), (0, -1), (1, -1)]
theorem step_at {f : Int} (hf : Fig f) : stepPairs[f.toNat]? = some (fq f, fr f) := by
  rcases fig_cases hf with rfl | rfl | rfl | rfl | rfl | rfl | rfl <;> decide
def sp_lstep (K : PySem.W.Frag) : Sp := fun vs H Q _ => ∃ f, vs = [.int f] ∧ Fig f ∧ ∀ p H', Same H H' → Pl K H' p (fq f) (fr f) → Q p H'
theorem ok_law_step (T : Txt K mg t) : FnOk P w K mg base CX0 1 t.f_law_step t.x_law_step ["figure"] (sp_lstep K) :=
  (ok_pairs (ps := stepPairs) T.d_law_step.F sc_law_step (by decide +kernel) (by decide) (by decide +kernel) (by decide) (by decide)).imp
    fun vs H Q E h => by
      obtain ⟨f, rfl, hf, k⟩ := h
      exact ⟨f, _, rfl, hf.1, step_at hf, k⟩

def sp_lplaceP (K : PySem.W.Frag) : Sp := fun vs H Q _ => ∃ a xs, vs = [.ref a] ∧ Sq K H a xs ∧ (∀ f ∈ xs, Fig f) ∧ ∀ p H', Same H H' → Pt H' p (wk xs) → Q p H'
theorem ok_law_placeP (T : Txt K mg t) : FnOk P w K mg base CX0 2 t.f_law_place t.x_law_place ["figures"] (sp_lplaceP K) := by
  have G_law_step := ok_law_step (P := P) (w := w) (base := base) T
  refine T.d_law_place.F.ok sc_law_place (fun vs H Q E h => ?_) (fun cdv A outer s H vs Q E hr h => ?_)
  · obtain ⟨a, xs, rfl, _⟩ := h; rfl
  · obtain ⟨a, xs, rfl, ha, hfig, k⟩ := h
    refine ⟨_, (pss_cons (ps_set (i := 1) sc_law_place.nd rfl (by first | exact Or.inl rfl | exact Or.inr rfl) pe_int)
      (pss_cons (ps_set (i := 2) sc_law_place.nd rfl (by first | exact Or.inl rfl | exact Or.inr rfl) pe_int)
      (pss_cons (ps_for PassesOwn.never rfl (pi_seq (pv 0)) (pg_name (i := 3) sc_law_place.nd rfl (by first | exact Or.inl rfl | exact Or.inr rfl))
        (pss_cons (ps_set (i := 4) sc_law_place.nd rfl (by first | exact Or.inl rfl | exact Or.inr rfl) (pcall T.d_law_step G_law_step (hr.mono (by decide)) (pa_cons (pv 3) pa_nil)))
        (pss_cons (ps_set (i := 5) sc_law_place.nd rfl (by first | exact Or.inl rfl | exact Or.inr rfl) (pe_op op_add (pe_op op_sub (pe_op op_mul pe_int (pv 1)) (pv 2)) (pe_ix ix_tup (pv 4) pe_int (fun _ _ => rfl))))
        (pss_cons (ps_set (i := 2) sc_law_place.nd rfl (by first | exact Or.inl rfl | exact Or.inr rfl) (pe_op op_add (pe_op op_add (pv 1) (pe_op op_mul pe_int (pv 2))) (pe_ix ix_tup (pv 4) pe_int (fun _ _ => rfl))))
        (pss_one (ps_set (i := 1) sc_law_place.nd rfl (by first | exact Or.inl rfl | exact Or.inr rfl) (pv 5)))))))
      (pss_one (ps_ret (pe_tupN (pa_cons (pv 1) (pa_cons (pv 2) pa_nil)))))))), ?_⟩
    refine ⟨_, rfl, a, rfl, for_seq ha (fun i σ H' => ∃ x y z, σ = [some (.ref a), some (.int (wk (xs.take i)).1), some (.int (wk (xs.take i)).2), x, y, z] ∧ Same H H')
      ⟨_, _, _, rfl, Same.refl _⟩ (fun i σ H' ⟨_, _, _, _, s'⟩ => s') ?_ ?_⟩
    · rintro i x σ H1 hx ⟨x1, y1, z1, rfl, s1⟩
      rw [List.getElem?_map] at hx
      obtain ⟨f, hf, rfl⟩ := Option.map_eq_some_iff.mp hx
      refine ⟨_, rfl, f, rfl, hfig f (List.mem_of_getElem? hf), fun v2 H2 s2 ⟨p2, e2, h2⟩ => ?_⟩
      subst e2
      refine ⟨_, rfl, _, _, rfl, rfl, .inl ⟨by decide, by decide⟩, _, rfl, _, _, rfl, rfl, _, rfl, _, _, _, _, rfl, rfl, h2, (by rfl), _, _, rfl, rfl, ?_⟩
      refine ⟨_, rfl, _, rfl, _, _, rfl, rfl, .inl ⟨by decide, by decide⟩, _, _, rfl, rfl, _, rfl, _, _, _, _, rfl, rfl, h2, (by rfl), _, _, rfl, rfl, ?_⟩
      refine ⟨_, rfl, ?_⟩
      exact ⟨_, _, _, by rw [wk_take hf]; rfl, s1.trans s2⟩
    · rintro σ H1 ⟨x1, y1, z1, rfl, s1⟩
      rw [List.length_map, List.take_length]
      walk_at "rd"
      intro p H' s' _ hp
      exact k _ _ (s1.trans s') ⟨p, rfl, hp⟩

def sp_llines (K : PySem.W.Frag) : Sp := fun vs H Q _ => ∃ (lv : Nat) (b : Addr) (xs : List Int), vs = [.ref b, .int lv] ∧ Ls K H b xs ∧ lv ≤ 4 ∧ xs.length ≤ lv ∧ ∀ l ws H', Same H H' → H l = none → H' l = some (.lst ws) → Tups H' ws (Rg.lns (lv - xs.length) xs) → Q (.ref l) H'
theorem ok_law_lines (T : Txt K mg t) : FnOk P w K mg base CX0 1 t.f_law_lines t.x_law_lines ["beginning", "level"] (sp_llines K) := by
  refine T.d_law_lines.F.ok sc_law_lines (fun vs H Q E h => ?_) (fun cdv A outer s H vs Q E hr h => ?_)
  · obtain ⟨lv, b, xs, rfl, _⟩ := h; rfl
  · obtain ⟨lv, b, xs, rfl, hb, lv4, hxl, k⟩ := h
    refine ⟨_, (pss_cons (ps_set (i := 2) sc_law_lines.nd rfl (by first | exact Or.inl rfl | exact Or.inr rfl) (pe_lstN (pa_cons (pe_callTy call_tupN (by rfl) T.n_tuple bb_tuple (pa_cons (pv 0) pa_nil)) pa_nil)))
      (pss_cons (ps_for PassesOwn.never rfl (pi_range1 rfl T.n_range (pa_cons (pe_op op_sub (pv 1) (pe_callB call_len_seq (by rfl) T.n_len bb_len (pa_cons (pv 0) pa_nil))) pa_nil)) (pg_name (i := 3) sc_law_lines.nd rfl (by first | exact Or.inl rfl | exact Or.inr rfl))
        (pss_cons (ps_set (i := 4) sc_law_lines.nd rfl (by first | exact Or.inl rfl | exact Or.inr rfl) (pe_lstN pa_nil))
        (pss_cons (ps_for PassesOwn.never rfl (pi_list (pv 2)) (pg_name (i := 5) sc_law_lines.nd rfl (by first | exact Or.inl rfl | exact Or.inr rfl))
          (pss_one (ps_for PassesOwn.never rfl (pi_range1 rfl T.n_range (pa_cons pe_int pa_nil)) (pg_name (i := 6) sc_law_lines.nd rfl (by first | exact Or.inl rfl | exact Or.inr rfl))
            (pss_one (ps_expr (pe_bm PySem.F.plainAttrs_list PySem.F.slot_list_append PySem.F.type_list_append mt_append (pv 4) (pa_cons (pe_op op_catTT (pv 5) (pe_tupN (pa_cons (pv 6) pa_nil))) pa_nil)))))))
        (pss_one (ps_set (i := 2) sc_law_lines.nd rfl (by first | exact Or.inl rfl | exact Or.inr rfl) (pv 4))))))
      (pss_one (ps_ret (pv 2))))), ?_⟩
    refine ⟨_, rfl, b, _, rfl, hb, fun p H0 s0 n0 h0 => ⟨(by walk_at "rdc"), fun l Hl sl nl hl => ?_⟩⟩
    have sl0 := s0.trans sl
    refine ⟨_, rfl, _, rfl, b, _, rfl, .inl (sl0.seq hb), _, _, rfl, rfl, _, rfl, ?_, ?_, ?_⟩
    · rw [List.length_map]; omega
    · rw [List.length_map]; omega
    have en : ((lv : Int) - ((List.map V.int xs).length : Nat)).toNat = lv - xs.length := by rw [List.length_map]; omega
    rw [en]
    refine for_range' (lo := 0) (fun i σ H' => ∃ l x y z u ws, σ = [some (.ref b), some (.int lv), some (.ref l), x, y, z, u] ∧ Same H H' ∧ H l = none ∧ H' l = some (.lst ws) ∧ Tups H' ws (Rg.lns i xs)) ⟨l, _, _, _, _, _, rfl, sl0, s0.free nl, hl, .cons ⟨p, rfl, sl _ _ h0⟩ .nil⟩ ?_ ?_
    · rintro i σ H1 hi ⟨l1, x, y, z, u, ws, rfl, s1, n1, h1, t1⟩ D1 hN1
      have hc : (Rg.lns i xs).length ≤ 2401 := by
        rw [Rg.len_lns]
        have : 7 ^ i ≤ 7 ^ 4 := Nat.pow_le_pow_right (by decide) (by omega)
        have e : (7 : Nat) ^ 4 = 2401 := by decide
        omega
      have hlen : ∀ ys ∈ Rg.lns i xs, ys.length ≤ 100 := fun ys hy => by have := Rg.lns_len hy; omega
      generalize hX : Rg.lns i xs = X at *
      refine ⟨(by walk_at "rdc"), fun lf H2 s2 n2 h2 => ?_⟩
      refine ⟨_, rfl, l1, rfl, ⟨_, SqL.of (s2 _ _ h1)⟩, for_list' (xs := ws) (fun j σ H' => ∃ z u fs, σ = [some (.ref b), some (.int lv), some (.ref l1), some (.int (0 + (i : Int))), some (.ref lf), z, u] ∧ Same H1 H' ∧ H' lf = some (.lst fs) ∧ Tups H' fs (Rg.longer (X.take j)))
        ⟨_, _, [], rfl, s2, h2, .nil⟩ (fun j σ H' _ ⟨_, _, _, _, s', _⟩ => SqL.of (s' _ _ h1)) ?_ ?_⟩
      · rintro j uu σ H3 hu ⟨z, u, fs, rfl, s3, h3, t3⟩ D2 hN2 _
        obtain ⟨c, ys, rfl, hys, hcy⟩ := t1.get hu
        have hj : j < X.length := (List.getElem?_eq_some_iff.mp hys).1
        have hyl := hlen ys (List.mem_of_getElem? hys)
        refine ⟨_, rfl, (by show (-(2 ^ 62) : Int) ≤ 7; decide), (by show (7 : Int) < 2 ^ 62; decide), ?_⟩
        refine for_range' (lo := 0) (n := 7) (fun f σ H' => ∃ u fs, σ = [some (.ref b), some (.int lv), some (.ref l1), some (.int (0 + (i : Int))), some (.ref lf), some (.ref c), u] ∧ Same H1 H' ∧ H' lf = some (.lst fs) ∧ Tups H' fs (Rg.longer (X.take j) ++ (Rg.figs.take f).map fun g => ys ++ [g]))
          ⟨_, fs, rfl, s3, h3, by simpa using t3⟩ ?_ ?_
        · rintro f σ H4 hf ⟨u, fs, rfl, s4, h4, t4⟩ D3 hN3
          have hff : Rg.figs[f]? = some (0 + (f : Int)) := by
            have : f = 0 ∨ f = 1 ∨ f = 2 ∨ f = 3 ∨ f = 4 ∨ f = 5 ∨ f = 6 := by omega
            rcases this with rfl | rfl | rfl | rfl | rfl | rfl | rfl <;> rfl
          have wl := t4.len
          rw [List.length_append, Rg.len_longer, List.length_map, List.length_take, List.length_take] at wl
          have fl : Rg.figs.length = 7 := rfl
          refine ⟨_, rfl, .inl ⟨rfl, _, SqL.of h4⟩, _, rfl, _, rfl, (by walk_at "rdc"), fun p3 H5 s5 _ h5 => ?_⟩
          refine ⟨c, p3, _, _, rfl, rfl, SqT.of (s5 _ _ (s4 _ _ hcy)), h5, by simp, Nat.le_of_lt (small1000 (by simp; omega)), fun p4 H6 s6 h6 => ?_⟩
          have h46 := s6 _ _ (s5 _ _ h4)
          have big : fs.length < sizeLine := Nat.lt_of_le_of_lt (m := 20000) (by omega) (by decide)
          refine ⟨lf, fs, _, rfl, rfl, h46, big, ?_⟩
          have h6' : H6 p4 = some (.tup (List.map V.int (ys ++ [0 + (f : Int)]))) := by rw [List.map_append]; exact h6
          refine hN3 _ _ ⟨_, fs ++ [.ref p4], rfl, ((s4.trans s5).trans s6).upd n2, upd_same, ?_⟩
          rw [Rg.take_snoc hff, List.map_append, ← List.append_assoc]
          exact ((((t4.keep s5).keep s6).snoc h6')).upd (fun ys z => by rw [h46] at z; cases z)
        · rintro σ H4 ⟨u, fs, rfl, s4, h4, t4⟩
          refine hN2 _ _ ⟨_, _, fs, rfl, s4, h4, ?_⟩
          rw [Rg.take_snoc hys, longer_snoc]
          exact t4
      · rintro σ H3 ⟨z, u, fs, rfl, s3, h3, t3⟩
        rw [t1.len, List.take_length] at t3
        refine ⟨_, rfl, hN1 _ _ ⟨lf, _, _, _, _, fs, rfl, s1.trans s3, s1.free n2, h3, ?_⟩⟩
        show Tups H3 fs (Rg.longer (Rg.lns i xs))
        rw [hX]; exact t3
    · rintro σ H1 ⟨l1, x, y, z, u, ws, rfl, s1, n1, h1, t1⟩
      exact ⟨_, rfl, k l1 ws H1 s1 n1 h1 t1⟩
def lawLines (lv : Nat) (xss : List (List Int)) : List (List Int) := Rg.puts [] (xss.flatMap fun xs => Rg.lns (lv - xs.length) xs)
theorem mem_lawLines {lv : Nat} {xss : List (List Int)} {ys : List Int} : ys ∈ lawLines lv xss ↔ ys ∈ Rg.lall lv xss := by
  unfold lawLines
  rw [Rg.mem_puts, Rg.mem_lall, List.mem_flatMap]
  simp
def sp_lawall (K : PySem.W.Frag) : Sp := fun vs H Q _ => ∃ (lv : Nat) (a : Addr) (us : List V) (xss : List (List Int)), vs = [.ref a, .int lv] ∧ SqL K H a us ∧ RowsV K H us xss ∧ lv ≤ 4 ∧ (∀ xs ∈ xss, xs.length ≤ lv) ∧ xss.length ≤ 1000 ∧
  ∀ d H', Same H H' → H d = none → H' d = some (.dT (dset (lawLines lv xss))) → Q (.ref d) H'
theorem ok_law_all (T : Txt K mg t) : FnOk P w K mg base CX0 2 t.f_law_all t.x_law_all ["rows", "level"] (sp_lawall K) := by
  have G_law_lines := ok_law_lines (P := P) (w := w) (base := base) T
  refine T.d_law_all.F.ok sc_law_all (fun vs H Q E h => ?_) (fun cdv A outer s H vs Q E hr h => ?_)
  · obtain ⟨lv, a, us, xss, rfl, _⟩ := h; rfl
  · obtain ⟨lv, a, us, xss, rfl, ha, hR, lv4, hle, h6, k⟩ := h
    have hu := hu_of hr
    refine ⟨_, (pss_cons (ps_set (i := 2) sc_law_all.nd rfl (by first | exact Or.inl rfl | exact Or.inr rfl) pe_dnewTN)
      (pss_cons (ps_for PassesOwn.never rfl (pi_list (pv 0)) (pg_name (i := 3) sc_law_all.nd rfl (by first | exact Or.inl rfl | exact Or.inr rfl))
        (pss_one (ps_for PassesOwn.never rfl (pi_list (pcall T.d_law_lines G_law_lines (hr.mono (by decide)) (pa_cons (pv 3) (pa_cons (pv 1) pa_nil)))) (pg_name (i := 4) sc_law_all.nd rfl (by first | exact Or.inl rfl | exact Or.inr rfl))
          (pss_one (ps_dput hu (pv 2) (pv 4) pe_bl rfl)))))
      (pss_one (ps_ret (pv 2))))), ?_⟩
    intro d1 H2 s2 n2 h2
    refine ⟨_, rfl, a, rfl, ⟨_, s2.seq ha⟩, for_list' (xs := us) (fun i σ H' => ∃ x y, σ = [some (.ref a), some (.int lv), some (.ref d1), x, y] ∧ Same H H' ∧ H' d1 = some (.dT (dset (Rg.puts [] ((xss.take i).flatMap fun xs => Rg.lns (lv - xs.length) xs)))))
      ⟨_, _, rfl, s2, h2⟩ (fun i σ H' _ ⟨_, _, _, s', _⟩ => s'.seq ha) ?_ ?_⟩
    · rintro i u σ H3 hu' ⟨x, y, rfl, s3, h3'⟩ D1 hN1 _
      obtain ⟨b, xs, rfl, hxs, hb⟩ := hR.get hu'
      have hi : i < xss.length := (List.getElem?_eq_some_iff.mp hxs).1
      have hxl : xs.length ≤ lv := hle xs (List.mem_of_getElem? hxs)
      refine ⟨_, rfl, _, rfl, lv, b, xs, rfl, s3.seq hb, lv4, hxl, fun l ws H4 s4 n4 h4 t4 => ?_⟩
      have al := Rg.puts_len ((xss.take i).flatMap fun xs => Rg.lns (lv - xs.length) xs) []
      have fl := Rg.flat_len lv4 (xss.take i)
      rw [List.length_take] at fl
      have ll : (Rg.lns (lv - xs.length) xs).length ≤ 2401 := by
        rw [Rg.len_lns]
        have : 7 ^ (lv - xs.length) ≤ 7 ^ 4 := Nat.pow_le_pow_right (by decide) (by omega)
        have e : (7 : Nat) ^ 4 = 2401 := by decide
        omega
      generalize hacc : (xss.take i).flatMap (fun xs => Rg.lns (lv - xs.length) xs) = acc at *
      refine ⟨l, rfl, ⟨_, SqL.of h4⟩, for_list' (xs := ws) (fun j σ H' => ∃ y, σ = [some (.ref a), some (.int lv), some (.ref d1), some (.ref b), y] ∧ Same H H' ∧ H' l = some (.lst ws) ∧ Tups H' ws (Rg.lns (lv - xs.length) xs) ∧
          H' d1 = some (.dT (dset (Rg.puts [] (acc ++ (Rg.lns (lv - xs.length) xs).take j))))) ⟨_, rfl, s3.trans s4, h4, t4, by simpa using s4 _ _ h3'⟩ (fun j σ H' _ ⟨_, _, _, h, _⟩ => SqL.of h) ?_ ?_⟩
      · rintro j u σ H5 hu5 ⟨y, rfl, s5, l5, t5, h5⟩ D2 hN2 _
        obtain ⟨c, ys, rfl, hys, hc⟩ := t5.get hu5
        have hj : j < (Rg.lns (lv - xs.length) xs).length := (List.getElem?_eq_some_iff.mp hys).1
        have al5 := Rg.puts_len (acc ++ (Rg.lns (lv - xs.length) xs).take j) []
        have big : (dset (Rg.puts [] (acc ++ (Rg.lns (lv - xs.length) xs).take j))).length < sizeLine := by
          rw [dset_len]
          rw [List.length_append, List.length_take, List.length_nil] at al5
          refine Nat.lt_of_le_of_lt (m := 2401 * 1000) ?_ (by decide)
          omega
        refine ⟨_, rfl, _, rfl, d1, _, rfl, DPut.t (k := kk ys) h5 (by rw [kk_kV]; exact hc) big, ?_⟩
        have n1 : ∀ b o, H5 b = some o → o ≠ .dT (dset (Rg.puts [] (acc ++ (Rg.lns (lv - xs.length) xs).take j))) → b ≠ d1 := fun b o e z => ne_of e h5 z
        refine hN2 _ _ ⟨_, rfl, s5.upd n2, ?_, ?_, ?_⟩
        · rw [upd_ne (n1 _ _ l5 (by intro z; cases z))]; exact l5
        · exact t5.upd (fun zs z => by rw [h5] at z; cases z)
        · rw [upd_same, dset_put, Rg.take_snoc hys, ← List.append_assoc, Rg.puts_snoc]
      · rintro σ H5 ⟨y, rfl, s5, l5, t5, h5⟩
        rw [t5.len, List.take_length] at h5
        refine hN1 _ _ ⟨_, _, rfl, s5, ?_⟩
        rw [Rg.take_snoc hxs, List.flatMap_append, hacc]
        simpa using h5
    · rintro σ H3 ⟨x, y, rfl, s3, h3'⟩
      rw [hR.len, List.take_length] at h3'
      exact ⟨_, rfl, k d1 _ s3 n2 h3'⟩

theorem fig_mod (x : Int) : Fig (x % 7) := by
  have h1 := Int.emod_nonneg x (show (7 : Int) ≠ 0 by decide)
  have h2 := Int.emod_lt_of_pos x (show (0 : Int) < 7 by decide)
  exact ⟨h1, by omega⟩
def sp_rows (K : PySem.W.Frag) : Sp := fun vs H Q _ => ∃ a ns first lv, vs = [.ref a, .int first, .int lv] ∧ Ls K H a ns ∧ 0 ≤ first ∧ 0 ≤ lv ∧ lv ≤ 4 ∧ ∀ l us xss H', Same H H' → H l = none → H' l = some (.lst us) → HRows H' us xss → (∀ u ∈ us, u ≠ .ref l) → FigsIn xss → ShortIn lv xss → xss.length ≤ 8 → Q (.ref l) H'
theorem ok_law_rows (T : Txt K mg t) : FnOk P w K mg base CX0 2 t.f_law_rows t.x_law_rows ["script", "first", "level"] (sp_rows K) := by
  have G_law_cell_at := ok_law_cell_at (P := P) (w := w) (base := base) T
  refine T.d_law_rows.F.ok sc_law_rows (fun vs H Q E h => ?_) (fun cdv A outer s H vs Q E hr h => ?_)
  · obtain ⟨a, ns, first, lv, rfl, _⟩ := h; rfl
  · obtain ⟨a, ns, first, lv, rfl, ha, f0, l0, l4, k⟩ := h
    refine ⟨_, (pss_cons (ps_set (i := 3) sc_law_rows.nd rfl (by first | exact Or.inl rfl | exact Or.inr rfl) (pe_lstN pa_nil))
      (pss_cons (ps_for PassesOwn.never rfl (pi_range1 rfl T.n_range (pa_cons (pe_op op_mod (pcall T.d_law_cell_at G_law_cell_at (hr.mono (by decide)) (pa_cons (pv 0) (pa_cons (pv 1) pa_nil))) pe_int) pa_nil)) (pg_name (i := 4) sc_law_rows.nd rfl (by first | exact Or.inl rfl | exact Or.inr rfl))
        (pss_cons (ps_set (i := 5) sc_law_rows.nd rfl (by first | exact Or.inl rfl | exact Or.inr rfl) (pcall T.d_law_cell_at G_law_cell_at (hr.mono (by decide)) (pa_cons (pv 0) (pa_cons (pe_op op_add (pe_op op_add (pv 1) pe_int) (pv 4)) pa_nil))))
        (pss_cons (ps_set (i := 6) sc_law_rows.nd rfl (by first | exact Or.inl rfl | exact Or.inr rfl) (pe_callB (call_max2 rfl) (by rfl) T.n_max bb_max (pa_cons pe_int (pa_cons (pe_op op_sub (pv 2) (pe_op op_mul (pe_op op_mod (pv 5) pe_int) (pe_op op_mod (pe_op op_fdiv (pv 5) pe_int) pe_int))) pa_nil))))
        (pss_cons (ps_set (i := 7) sc_law_rows.nd rfl (by first | exact Or.inl rfl | exact Or.inr rfl) (pe_lstN pa_nil))
        (pss_cons (ps_set (i := 5) sc_law_rows.nd rfl (by first | exact Or.inl rfl | exact Or.inr rfl) (pe_op op_fdiv (pv 5) pe_int))
        (pss_cons (ps_for PassesOwn.never rfl (pi_range1 rfl T.n_range (pa_cons (pv 6) pa_nil)) (pg_name (i := 8) sc_law_rows.nd rfl (by first | exact Or.inl rfl | exact Or.inr rfl))
          (pss_cons (ps_expr (pe_bm PySem.F.plainAttrs_list PySem.F.slot_list_append PySem.F.type_list_append mt_append (pv 7) (pa_cons (pe_op op_mod (pv 5) pe_int) pa_nil)))
          (pss_one (ps_set (i := 5) sc_law_rows.nd rfl (by first | exact Or.inl rfl | exact Or.inr rfl) (pe_op op_fdiv (pv 5) pe_int)))))
        (pss_one (ps_expr (pe_bm PySem.F.plainAttrs_list PySem.F.slot_list_append PySem.F.type_list_append mt_append (pv 3) (pa_cons (pv 7) pa_nil))))))))))
      (pss_one (ps_ret (pv 3))))), ?_⟩
    have c9 := Int.emod_lt_of_pos (cl ns first) (show (0 : Int) < 9 by decide)
    have c9' := Int.emod_nonneg (cl ns first) (show (9 : Int) ≠ 0 by decide)
    refine ⟨(by walk_at "rdc"), fun l Hl sl nl hl => ?_⟩
    refine ⟨_, rfl, _, rfl, a, ns, first, rfl, sl.seq ha, f0, _, _, rfl, rfl, (by show (0 : Int) < 9; decide), _, rfl, by omega, by omega, ?_⟩
    refine for_range' (lo := 0) (fun i σ H' => ∃ x1 x2 x3 x4 x5 us xss, σ = [some (.ref a), some (.int first), some (.int lv), some (.ref l), x1, x2, x3, x4, x5] ∧ Same H H' ∧ H' l = some (.lst us) ∧ HRows H' us xss ∧ (∀ u ∈ us, u ≠ .ref l) ∧ FigsIn xss ∧ ShortIn lv xss ∧ xss.length = i)
      ⟨_, _, _, _, _, [], [], rfl, sl, hl, .nil, by simp, fun xs hx => by simp at hx, fun xs hx => by simp at hx, rfl⟩ ?_ ?_
    · rintro i σ H1 hi ⟨x1, x2, x3, x4, x5, us, xss, rfl, s1, h1, r1, nl1, fg, sh, le⟩ D1 hN1
      refine ⟨_, rfl, _, rfl, _, _, rfl, rfl, _, rfl, _, _, rfl, rfl, a, ns, _, rfl, s1.seq ha, by omega, ?_⟩
      generalize hc : cl ns (first + 1 + (0 + (i : Int))) = c
      have m3 := Int.emod_lt_of_pos c (show (0 : Int) < 3 by decide)
      have m3' := Int.emod_nonneg c (show (3 : Int) ≠ 0 by decide)
      have m2 := Int.emod_lt_of_pos (c / 3) (show (0 : Int) < 2 by decide)
      have m2' := Int.emod_nonneg (c / 3) (show (2 : Int) ≠ 0 by decide)
      have pr0 : 0 ≤ c % 3 * (c / 3 % 2) := Int.mul_nonneg m3' m2'
      refine ⟨_, rfl, _, rfl, _, _, rfl, rfl, (by show (0 : Int) < 3; decide), _, rfl, _, _, rfl, rfl, ⟨by decide, by decide⟩, _, _, rfl, rfl, (by show (0 : Int) < 2; decide), _, _, rfl, rfl, .inl ⟨by omega, by omega⟩, _, _, rfl, rfl, _, _, rfl, ?_⟩
      generalize hsz : (if lv - c % 3 * (c / 3 % 2) > 0 then lv - c % 3 * (c / 3 % 2) else 0) = sz
      have sz0 : 0 ≤ sz ∧ sz ≤ lv := by
        rw [← hsz]
        split <;> omega
      refine ⟨(by walk_at "rdc"), fun p H2 s2 np hp => ?_⟩
      refine ⟨_, rfl, _, _, rfl, rfl, ⟨by decide, by decide⟩, ?_⟩
      refine ⟨_, rfl, _, rfl, by omega, by omega, ?_⟩
      refine for_range' (lo := 0) (fun j σ H' => ∃ x5 c zs, σ = [some (.ref a), some (.int first), some (.int lv), some (.ref l), some (.int (0 + (i : Int))), some (.int c), some (.int sz), some (.ref p), x5] ∧ Same H1 H' ∧ H' p = some (.lst (List.map V.int zs)) ∧ (∀ f ∈ zs, Fig f) ∧ zs.length = j)
        ⟨_, _, [], rfl, s2, hp, fun f hf => by simp at hf, rfl⟩ ?_ ?_
      · rintro j σ H3 hj ⟨x5, c, zs, rfl, s3, h3, fz, lz⟩ D2 hN2
        refine ⟨_, rfl, .inl ⟨rfl, _, SqL.of h3⟩, _, rfl, _, _, rfl, rfl, (by show (0 : Int) < 7; decide), p, _, _, rfl, rfl, h3, small1000 (by simp; omega), ?_⟩
        refine ⟨_, rfl, _, _, rfl, rfl, ⟨by decide, by decide⟩, ?_⟩
        refine hN2 _ _ ⟨_, _, zs ++ [_], rfl, s3.upd np, by rw [upd_same, List.map_append]; rfl, fun f hf => ?_, by simp [lz]⟩
        rcases List.mem_append.mp hf with hf | hf
        · exact fz f hf
        · rw [List.mem_singleton.mp hf]; exact fig_mod _
      · rintro σ H3 ⟨x5, c, zs, rfl, s3, h3, fz, lz⟩
        have h13 := s3 _ _ h1
        have pl : p ≠ l := (ne_of_none h1 np).symm
        have ul := r1.len
        refine ⟨_, rfl, .inl ⟨rfl, _, SqL.of h13⟩, _, rfl, l, us, _, rfl, rfl, h13, small1000 (by omega), ?_⟩
        have nl' : ∀ u ∈ us ++ [V.ref p], u ≠ .ref l := fun u hu => by
          rcases List.mem_append.mp hu with hu | hu
          · exact nl1 u hu
          · rw [List.mem_singleton.mp hu]
            exact fun z => pl (by injection z)
        refine hN1 _ _ ⟨_, _, _, _, _, us ++ [.ref p], xss ++ [zs], rfl, (s1.trans s3).upd nl, upd_same, HRows.upd nl' ((r1.keep s3).snoc h3), nl', ?_, ?_, by simp [le]⟩
        · intro xs hx
          rcases List.mem_append.mp hx with hx | hx
          · exact fg xs hx
          · rw [List.mem_singleton.mp hx]; exact fz
        · intro xs hx
          rcases List.mem_append.mp hx with hx | hx
          · exact sh xs hx
          · rw [List.mem_singleton.mp hx]; omega
    · rintro σ H1 ⟨x1, x2, x3, x4, x5, us, xss, rfl, s1, h1, r1, nl1, fg, sh, le⟩
      exact ⟨_, rfl, k l us xss H1 s1 nl h1 r1 nl1 fg sh (by omega)⟩

def sp_lnear (K : PySem.W.Frag) : Sp := fun vs H Q _ => ∃ v p, vs = [v] ∧ Pl K H v p.1 p.2 ∧ ∀ l us H', Same H H' → H l = none → H' l = some (.lst us) → Tups H' us ((Bfs.nears p).map Bfs.pr) → Q (.ref l) H'
theorem ok_law_near (T : Txt K mg t) : FnOk P w K mg base CX0 2 t.f_law_near t.x_law_near ["place"] (sp_lnear K) := by
  have G_law_step := ok_law_step (P := P) (w := w) (base := base) T
  refine T.d_law_near.F.ok sc_law_near (fun vs H Q E h => ?_) (fun cdv A outer s H vs Q E hr h => ?_)
  · obtain ⟨v, p, rfl, _⟩ := h; rfl
  · obtain ⟨_, ⟨q, r⟩, rfl, ⟨a, rfl, ha⟩, k⟩ := h
    refine ⟨_, (pss_cons (ps_set (i := 1) sc_law_near.nd rfl (by first | exact Or.inl rfl | exact Or.inr rfl) (pe_lstN pa_nil))
      (pss_cons (ps_for PassesOwn.never rfl (pi_range2 rfl T.n_range (pa_cons pe_int (pa_cons pe_int pa_nil))) (pg_name (i := 2) sc_law_near.nd rfl (by first | exact Or.inl rfl | exact Or.inr rfl))
        (pss_cons (ps_set (i := 3) sc_law_near.nd rfl (by first | exact Or.inl rfl | exact Or.inr rfl) (pcall T.d_law_step G_law_step (hr.mono (by decide)) (pa_cons (pv 2) pa_nil)))
        (pss_one (ps_expr (pe_bm PySem.F.plainAttrs_list PySem.F.slot_list_append PySem.F.type_list_append mt_append (pv 1) (pa_cons (pe_tupN (pa_cons (pe_op op_add (pe_ix ix_tup (pv 0) pe_int (fun _ _ => rfl)) (pe_ix ix_tup (pv 3) pe_int (fun _ _ => rfl))) (pa_cons (pe_op op_add (pe_ix ix_tup (pv 0) pe_int (fun _ _ => rfl)) (pe_ix ix_tup (pv 3) pe_int (fun _ _ => rfl))) pa_nil))) pa_nil))))))
      (pss_one (ps_ret (pv 1))))), ?_⟩
    refine ⟨(by walk_at "rdc"), fun l H1 s1 n1 h1 => ?_⟩
    refine ⟨_, _, rfl, ⟨by decide, by decide, by decide, by decide⟩, ?_⟩
    refine for_range (lo := 1) (n := 6) (fun i σ H' => ∃ x y ys, σ = [some (.ref a), some (.ref l), x, y] ∧ Same H H' ∧ H' l = some (.lst ys) ∧ i ≤ 6 ∧ Tups H' ys (((Bfs.nears (q, r)).take i).map Bfs.pr)) ⟨_, _, [], rfl, s1, h1, by omega, .nil⟩ ?_ ?_
    · rintro i σ H2 hi ⟨x, y, ys, rfl, s2, h2, _, t2⟩
      refine ⟨_, rfl, 1 + (i : Int), rfl, ⟨by omega, by omega⟩, fun v3 H3 s3 ⟨p3, e3, h3⟩ => ?_⟩
      subst e3
      have yl := t2.len
      rw [List.length_map, List.length_take, Bfs.nears_len] at yl
      have ha3 := (s2.trans s3).sqT ha
      refine ⟨_, rfl, .inl ⟨rfl, _, SqL.of (s3 _ _ h2)⟩, ?_⟩
      refine ⟨_, rfl, _, _, _, _, rfl, rfl, ha3, (by rfl), _, rfl, _, _, _, _, rfl, rfl, h3, (by rfl), _, _, rfl, rfl, ?_⟩
      refine ⟨_, rfl, _, _, _, _, rfl, rfl, ha3, (by rfl), _, rfl, _, _, _, _, rfl, rfl, h3, (by rfl), _, _, rfl, rfl, ?_⟩
      refine ⟨(by walk_at "rdc"), fun p4 H4 s4 n4 h4 => ?_⟩
      have h24 := s4 _ _ (s3 _ _ h2)
      refine ⟨l, ys, _, rfl, rfl, h24, small1000 (by omega), ?_⟩
      refine ⟨_, _, ys ++ [.ref p4], rfl, ((s2.trans s3).trans s4).upd n1, upd_same, by omega, ?_⟩
      rw [Rg.take_snoc (near_at (q, r) hi)]
      refine ((t2.keep (s3.trans s4)).snocPt ?_).upd fun zs z => by rw [h24] at z; cases z
      refine ⟨p4, rfl, ?_⟩
      rw [show ((i : Int) + 1) = 1 + (i : Int) by omega]
      exact h4
    · rintro σ H2 ⟨x, y, ys, rfl, s2, h2, _, t2⟩
      rw [show (Bfs.nears (q, r)).take 6 = Bfs.nears (q, r) from rfl] at t2
      exact ⟨_, rfl, k l ys H2 s2 n1 h2 t2⟩

def sp_llevels : Sp := fun vs H Q _ => ∃ (cd : Addr) (CL : List (List Int)) (u : V) (p : Bfs.P) (C : Bfs.P → Bool) (PL : List Bfs.P), vs = [.ref cd, u] ∧ H cd = some (.dT (dset CL)) ∧ (∀ q, Bfs.pr q ∈ CL ↔ C q = true) ∧ (∀ q, C q = true → q ∈ PL) ∧ PL.length < 64 ∧ Pt H u p ∧ C p = true ∧
  ∀ d n H', Same H H' → H d = none → H' d = some (.dT (dF (Bfs.bfs C p n))) → n = (Bfs.bfs C p n).length → Q (.ref d) H'
theorem ok_law_levels (T : Txt K mg t) : FnOk P w K mg base CX0 3 t.f_law_levels t.x_law_levels ["cells", "place"] sp_llevels := by
  have G_law_near := ok_law_near (P := P) (w := w) (base := base) T
  refine T.d_law_levels.F.ok sc_law_levels (fun vs H Q E h => ?_) (fun cdv A outer s H vs Q E hr h => ?_)
  · obtain ⟨cd, CL, u, p, C, PL, rfl, _⟩ := h; rfl
  · obtain ⟨cd, CL, u, p, C, PL, rfl, hcd, hCL, hC, h64, ⟨b, rfl, hb⟩, hin, k⟩ := h
    have hu := hu_of hr
    refine ⟨_, (pss_cons (ps_set (i := 2) sc_law_levels.nd rfl (by first | exact Or.inl rfl | exact Or.inr rfl) (pe_disp1 hu (pv 1) pe_int))
      (pss_cons (ps_set (i := 3) sc_law_levels.nd rfl (by first | exact Or.inl rfl | exact Or.inr rfl) (pe_lstN (pa_cons (pv 1) pa_nil)))
      (pss_cons (ps_set (i := 4) sc_law_levels.nd rfl (by first | exact Or.inl rfl | exact Or.inr rfl) pe_int)
      (pss_cons (ps_while PassesOwn.never (pt_cmpR op_lt (pv 4) (pe_callB call_len_seq (by rfl) T.n_len bb_len (pa_cons (pv 3) pa_nil)) (nomark _))
        (pss_cons (ps_for PassesOwn.never rfl (pi_list (pcall T.d_law_near G_law_near (hr.mono (by decide)) (pa_cons (pe_ix ix_list (pv 3) (pv 4) (fun _ _ => rfl)) pa_nil))) (pg_name (i := 5) sc_law_levels.nd rfl (by first | exact Or.inl rfl | exact Or.inr rfl))
          (pss_one (ps_if (PW.pt (pw_and (pt_cmp (pc_din hu (pv 5) (pv 0))) (pw_and1 (pt_cmp (pc_dnotin hu (pv 5) (pv 2))))))
            (pss_cons (ps_dput hu (pv 2) (pv 5) (pe_op op_add (pe_dget hu (pv 2) (pe_ix ix_list (pv 3) (pv 4) (fun _ _ => rfl)) (fun _ _ => rfl)) pe_int) rfl)
            (pss_one (ps_expr (pe_bm PySem.F.plainAttrs_list PySem.F.slot_list_append PySem.F.type_list_append mt_append (pv 3) (pa_cons (pv 5) pa_nil)))))
            pss_nil)))
        (pss_one (ps_set (i := 4) sc_law_levels.nd rfl (by first | exact Or.inl rfl | exact Or.inr rfl) (pe_op op_add (pv 4) pe_int)))))
      (pss_one (ps_ret (pv 2))))))), ?_⟩
    intro ds H5 s5 n5 h5
    refine ⟨_, rfl, b, kk (Bfs.pr p), rfl, by rw [kk_kV]; exact s5 _ _ hb, h5, ?_⟩
    generalize hH6 : upd H5 ds (.dT [(kk (Bfs.pr p), V.int 0)]) = H6
    have s6 : Same H H6 := by rw [← hH6]; exact s5.upd n5
    have f6 : H6 ds = some (.dT (dF [(p, 0)])) := by rw [← hH6]; exact upd_same
    refine ⟨_, rfl, (by walk_at "rdc"), fun lr H7 s7 n7 h7 => ?_⟩
    have nlr : H lr = none := s6.free n7
    have s07 := s6.trans s7
    refine ⟨fun m σ H' => ∃ (i : Nat) (us : List V) (z : Option V), σ = [some (.ref cd), some (.ref b), some (.ref ds), some (.ref lr), some (.int ((i : Nat) : Int)), z] ∧ Same H H' ∧
        H' ds = some (.dT (dF (Bfs.bfs C p i))) ∧ H' lr = some (.lst us) ∧ Tups H' us (((Bfs.bfs C p i).map Prod.fst).map Bfs.pr) ∧ i ≤ (Bfs.bfs C p i).length ∧ m = 64 - i,
      ⟨64, 0, [.ref b], _, rfl, s07, s7 _ _ f6, h7, Tups.one (p := p) ⟨b, rfl, s07 _ _ hb⟩, Nat.zero_le _, rfl⟩, ?_⟩
    rintro m σ H8 ⟨i, us, z, rfl, s8, f8, h8, t8, hi8, rfl⟩
    have run := Bfs.run_bfs hin i hi8
    have fl64 := Bfs.bfs_len hC run.toGood
    have tl := t8.len
    rw [List.length_map, List.length_map] at tl
    refine ⟨_, rfl, _, rfl, lr, _, rfl, .inl (SqL.of h8), _, _, rfl, rfl, _, rfl, ite2 (fun c => ?_) (fun c => ?_)⟩
    · have c : ((i : Nat) : Int) < ((us.length : Nat) : Int) := of_decide_eq_true c
      have hlt : i < (Bfs.bfs C p i).length := by omega
      obtain ⟨⟨pn, dn⟩, hn⟩ : ∃ w, (Bfs.bfs C p i)[i]? = some w := ⟨_, List.getElem?_eq_getElem hlt⟩
      obtain ⟨un, hun, hpn⟩ := t8.atPt (i := i) (p := pn) (by rw [List.getElem?_map, hn]; rfl)
      refine ⟨fun σ' H' => ∃ (us : List V) (z : Option V), σ' = [some (.ref cd), some (.ref b), some (.ref ds), some (.ref lr), some (.int ((i : Nat) + 1 : Int)), z] ∧ Same H H' ∧
        H' ds = some (.dT (dF (Bfs.bfs C p (i + 1)))) ∧ H' lr = some (.lst us) ∧ Tups H' us (((Bfs.bfs C p (i + 1)).map Prod.fst).map Bfs.pr), ?_, ?_⟩
      · rintro σ' H' ⟨us, z, rfl, s', f', h', t'⟩
        have pre : Bfs.bfs C p i <+: Bfs.bfs C p (i + 1) := by
          show _ <+: Bfs.node C (Bfs.bfs C p i) i
          unfold Bfs.node
          rw [hn]
          exact Bfs.pushes_pre _ _
        have := pre.length_le
        exact ⟨64 - (i + 1), by omega, i + 1, us, z, by rw [Int.natCast_add]; rfl, s', f', h', t', by omega, rfl⟩
      · refine ⟨_, rfl, _, rfl, lr, us, _, un, rfl, rfl, SqL.of h8, atI_nat hun, ?_⟩
        refine ⟨un, pn, rfl, hpn.pl, fun ln un6 H9 s9 n9 h9 t9 => ?_⟩
        have nn : (Bfs.nears pn).length = 6 := rfl
        have ul6 := t9.len
        rw [List.length_map, nn] at ul6
        have eb : Bfs.bfs C p (i + 1) = (Bfs.nears pn).foldl (Bfs.push1 C (dn + 1)) (Bfs.bfs C p i) := by
          show Bfs.node C (Bfs.bfs C p i) i = _
          unfold Bfs.node
          rw [hn]
        have dn0 := run.toGood.nonneg hn
        refine ⟨ln, rfl, ⟨_, SqL.of h9⟩, for_list (xs := un6) (fun j σ H' => ∃ (us : List V) (z : Option V), σ = [some (.ref cd), some (.ref b), some (.ref ds), some (.ref lr), some (.int ((i : Nat) : Int)), z] ∧ Same H H' ∧ H' ln = some (.lst un6) ∧ Tups H' un6 ((Bfs.nears pn).map Bfs.pr) ∧ us[i]? = some un ∧ Pt H' un pn ∧
            H' ds = some (.dT (dF (((Bfs.nears pn).take j).foldl (Bfs.push1 C (dn + 1)) (Bfs.bfs C p i)))) ∧ H' lr = some (.lst us) ∧
            Tups H' us (((((Bfs.nears pn).take j).foldl (Bfs.push1 C (dn + 1)) (Bfs.bfs C p i)).map Prod.fst).map Bfs.pr))
          ⟨us, _, rfl, s8.trans s9, h9, t9, hun, hpn.keep s9, s9 _ _ f8, s9 _ _ h8, t8.keep s9⟩ (fun j σ H' _ ⟨_, _, _, _, h, _⟩ => SqL.of h) ?_ ?_⟩
        · rintro j uj σ Ha hj ⟨us, z2, rfl, sa, ha, ta, hui, hpa, fa, la, tua⟩
          obtain ⟨q, hq, hqp⟩ := ta.getPt hj
          have hjl : j < un6.length := (List.getElem?_eq_some_iff.mp hj).1
          have good := Bfs.Good.pushes (y := (pn, dn)) dn0 ((Bfs.nears pn).take j) run.toGood (List.mem_of_getElem? hn) (run.top _ hn) fun q' hq' => List.mem_of_mem_take hq'
          have pre := Bfs.pushes_pre (C := C) (d := dn + 1) ((Bfs.nears pn).take j) (Bfs.bfs C p i)
          have est : ((Bfs.nears pn).take (j + 1)).foldl (Bfs.push1 C (dn + 1)) (Bfs.bfs C p i) = Bfs.push1 C (dn + 1) (((Bfs.nears pn).take j).foldl (Bfs.push1 C (dn + 1)) (Bfs.bfs C p i)) q := by
            rw [Rg.take_snoc hq, List.foldl_append]; rfl
          rw [est]
          generalize hfl : ((Bfs.nears pn).take j).foldl (Bfs.push1 C (dn + 1)) (Bfs.bfs C p i) = fl at *
          have gl := Bfs.bfs_len hC good.1
          have lk : Bfs.look fl pn = some dn := Bfs.mem_look good.1.nd (Bfs.pre_mem pre (List.mem_of_getElem? hn))
          refine ⟨_, rfl, _, rfl, cd, _, rfl, getC (.inl (sa _ _ hcd)) hqp, _, rfl, ?_⟩
          by_cases hc : Bfs.pr q ∈ CL
          · rw [if_pos hc]
            have cq := (hCL q).mp hc
            refine iteT ⟨_, rfl, _, rfl, ds, _, rfl, getFl (.inl fa) hqp, _, rfl, ?_⟩
            cases hlk : Bfs.look fl q with
            | some e =>
              have hm : q ∈ fl.map Prod.fst := (Bfs.look_isSome fl q).mp (by rw [hlk]; rfl)
              have ep : Bfs.push1 C (dn + 1) fl q = fl := by unfold Bfs.push1; rw [if_neg (fun z => z.2 hm)]
              rw [ep]
              exact iteF ⟨us, _, rfl, sa, ha, ta, hui, hpa, fa, la, tua⟩
            | none =>
              have hm : q ∉ fl.map Prod.fst := fun z => by
                have := (Bfs.look_isSome fl q).mpr z
                rw [hlk] at this; cases this
              have ep : Bfs.push1 C (dn + 1) fl q = fl ++ [(q, dn + 1)] := by unfold Bfs.push1; rw [if_pos ⟨cq, hm⟩]
              rw [ep]
              refine iteT ?_
              have g1 := getFl (.inl fa) hpa
              rw [lk] at g1
              refine ⟨_, rfl, _, rfl, _, rfl, lr, us, _, un, rfl, rfl, SqL.of la, atI_nat hui, ds, _, rfl, g1, _, _, rfl, rfl, _, rfl, _, rfl, ds, _, rfl, putFl fa hqp hm (small1000 (by omega)), ?_⟩
              have nds1 : ∀ b o, Ha b = some o → o ≠ .dT (dF fl) → b ≠ ds := fun b o e z => ne_of e fa z
              have nt : ∀ ys, Ha ds ≠ some (.tup ys) := fun ys z => by rw [fa] at z; cases z
              have la' : upd Ha ds (.dT (dF (fl ++ [(q, dn + 1)]))) lr = some (.lst us) := by rw [upd_ne (nds1 _ _ la (by intro z; cases z))]; exact la
              have usl := tua.len
              rw [List.length_map, List.length_map] at usl
              refine ⟨_, rfl, .inl ⟨rfl, _, SqL.of la'⟩, _, rfl, lr, us, _, rfl, rfl, la', small1000 (by omega), ?_⟩
              have nlt : ∀ ys, upd Ha ds (.dT (dF (fl ++ [(q, dn + 1)]))) lr ≠ some (.tup ys) := fun ys z => by rw [la'] at z; cases z
              have lne : ∀ b o, upd Ha ds (.dT (dF (fl ++ [(q, dn + 1)]))) b = some o → o ≠ .lst us → b ≠ lr := fun b o e z => ne_of e la' z
              refine ⟨us ++ [uj], _, rfl, (sa.upd n5).upd nlr, ?_, (ta.upd nt).upd nlt, ?_, (hpa.upd nt).upd nlt, ?_, upd_same, ?_⟩
              · have : ln ≠ lr := (ne_of_none h8 n9).symm
                rw [upd_ne this, upd_ne (nds1 _ _ ha (by intro z; cases z))]; exact ha
              · rw [List.getElem?_append_left (List.getElem?_eq_some_iff.mp hui).1]; exact hui
              · rw [upd_ne (lne ds _ upd_same (by intro z; cases z))]; exact upd_same
              · rw [List.map_append]
                exact ((tua.upd nt).upd nlt).snocPt ((hqp.upd nt).upd nlt)
          · rw [if_neg hc]
            have ep : Bfs.push1 C (dn + 1) fl q = fl := by unfold Bfs.push1; rw [if_neg (fun z => hc ((hCL q).mpr z.1))]
            rw [ep]
            exact iteF ⟨us, _, rfl, sa, ha, ta, hui, hpa, fa, la, tua⟩
        · rintro σ Ha ⟨us, z2, rfl, sa, ha, ta, hui, hpa, fa, la, tua⟩
          rw [ul6, show (Bfs.nears pn).take 6 = Bfs.nears pn from rfl, ← eb] at fa tua
          exact ⟨_, rfl, _, _, rfl, rfl, us, _, rfl, sa, fa, la, tua⟩
    · have c : ¬ ((i : Nat) : Int) < ((us.length : Nat) : Int) := fun w => c (decide_eq_true w)
      exact ⟨_, rfl, k ds i H8 s8 n5 f8 (by omega)⟩

theorem get_eq1 (fl : Bfs.FL) (z : Bfs.P) (e : Int) (he : 0 ≤ e) : scal (((Bfs.look fl z).map V.int).getD (.int (-1))) (.int e) = true ∧ decide (((Bfs.look fl z).map V.int).getD (.int (-1)) = V.int e) = decide (Bfs.look fl z = some e) := by
  cases Bfs.look fl z with
  | none =>
    refine ⟨rfl, ?_⟩
    simp
    omega
  | some x => exact ⟨rfl, by simp⟩
def sp_due : Sp := fun vs H Q _ => ∃ (u : V) (q : Bfs.P) (sd : Addr) (C : Bfs.P → Bool) (p : Bfs.P) (fl : Bfs.FL) (d : Int), vs = [.ref sd, u] ∧ Pt H u q ∧ H sd = some (.dT (dF fl)) ∧ Bfs.Good C p fl ∧ fl.length < 64 ∧ Bfs.look fl q = some d ∧ ∀ l us H', Same H H' → H l = none → H' l = some (.lst us) → Tups H' us ((wayP fl q d).map Bfs.pr) → Q (.ref l) H'
theorem atI_last {us : List V} {u : V} {n : Nat} (hl : us.length = n + 1) (h : us[n]? = some u) : atI us (-1) = some u := by
  unfold atI ixN
  rw [hl, if_neg (by omega), if_pos (by omega)]
  rw [show ((-1 : Int) + ((n + 1 : Nat) : Int)).toNat = n by omega]
  exact h
theorem ok_law_due (T : Txt K mg t) : FnOk P w K mg base CX0 3 t.f_law_due t.x_law_due ["found", "one"] sp_due := by
  have G_law_near := ok_law_near (P := P) (w := w) (base := base) T
  refine T.d_law_due.F.ok sc_law_due (fun vs H Q E h => ?_) (fun cdv A outer s H vs Q E hr h => ?_)
  · obtain ⟨u, q, sd, C, p, fl, d, rfl, _⟩ := h; rfl
  · obtain ⟨u, p1, sd, C, p, fl, dd, rfl, ⟨b1, rfl, hb1⟩, hd, g, fl64, lk, k⟩ := h
    have hu := hu_of hr
    have dlt := Bfs.dist_lt g lk
    have dd0 := (g.zero (Bfs.look_mem lk)).2
    refine ⟨_, (pss_cons (ps_set (i := 2) sc_law_due.nd rfl (by first | exact Or.inl rfl | exact Or.inr rfl) (pe_lstN (pa_cons (pv 1) pa_nil)))
      (pss_cons (ps_while PassesOwn.never (pt_cmpR op_gt (pe_dget hu (pv 0) (pe_ix (ix_listK (K := K) rfl) (pv 2) (pe_un un_neg pe_int) (fun _ _ => rfl)) (fun _ _ => rfl)) pe_int (nomark _))
        (pss_cons (ps_setLcI (x := "far") (fr := ["found", "row"]) (js := [0, 2]) (i := 3) sc_law_due.nd rfl rfl ⟨rfl, by decide +kernel, by decide +kernel, rfl, rfl, by decide +kernel, by decide +kernel, by decide +kernel, by decide +kernel⟩ rfl rfl rfl (pi_list (pcall T.d_law_near G_law_near (hr.mono (by decide)) (pa_cons (pe_ix (ix_listK (K := K) rfl) (pv 2) (pe_un un_neg pe_int) (fun _ _ => rfl)) pa_nil))) (fun cl fp s H => (pt_cmpR op_eq (pe_dget2 hu (pv 1) (pv 0) (pe_un un_neg pe_int) ⟨rfl, rfl, rfl, rfl⟩) (pe_op op_sub (pe_dget hu (pv 1) (pe_ix (ix_listK (K := K) rfl) (pv 2) (pe_un un_neg pe_int) (fun _ _ => rfl)) (fun _ _ => rfl)) pe_int) (nomark _))) (fun cl fp s H => (pv 0)))
        (pss_one (ps_expr (pe_bm PySem.F.plainAttrs_list PySem.F.slot_list_append PySem.F.type_list_append mt_append (pv 2) (pa_cons (pe_ix ix_list (pv 3) pe_int (fun _ _ => rfl)) pa_nil))))))
      (pss_one (ps_ret (pv 2))))), ?_⟩
    refine ⟨_, rfl, (by walk_at "rdc"), fun lp H3 s3 n3 h3 => ?_⟩
    refine ⟨fun m σ H' => ∃ (i : Nat) (us : List V) (z : Option V), σ = [some (.ref sd), some (.ref b1), some (.ref lp), z] ∧ Same H H' ∧ H' lp = some (.lst us) ∧ Tups H' us (((List.range (i + 1)).map (Bfs.pth fl p1)).map Bfs.pr) ∧ (i : Int) ≤ dd ∧ m = dd.toNat - i,
      ⟨_, 0, [.ref b1], _, rfl, s3, h3, Tups.one (p := p1) ⟨b1, rfl, s3 _ _ hb1⟩, dd0, rfl⟩, ?_⟩
    rintro m σ H4 ⟨i, us, z, rfl, s4, h4, t4, hi, rfl⟩
    have tl := t4.len
    rw [List.length_map, List.length_map, List.length_range] at tl
    have lki := Bfs.pth_look g lk i hi
    obtain ⟨un, hun, hpn⟩ := t4.atPt (i := i) (p := Bfs.pth fl p1 i) (by rw [List.getElem?_map, List.getElem?_range (by omega)]; rfl)
    have hat := atI_last tl hun
    have g4 := getFl (.inl (s4 _ _ hd)) hpn
    rw [lki] at g4
    refine ⟨_, rfl, _, rfl, _, rfl, lp, us, _, un, rfl, rfl, SqL.of h4, hat, sd, _, rfl, g4, _, _, rfl, rfl, _, rfl, ite2 (fun c => ?_) (fun c => ?_)⟩
    · have c : 0 < dd - (i : Int) := of_decide_eq_true c
      refine ⟨fun σ' H' => ∃ (us : List V) (z : Option V), σ' = [some (.ref sd), some (.ref b1), some (.ref lp), z] ∧ Same H H' ∧ H' lp = some (.lst us) ∧ Tups H' us (((List.range (i + 1 + 1)).map (Bfs.pth fl p1)).map Bfs.pr), ?_, ?_⟩
      · rintro σ' H' ⟨us, z, rfl, s', h', t'⟩
        exact ⟨dd.toNat - (i + 1), by omega, i + 1, us, z, rfl, s', h', t', by omega, rfl⟩
      · refine ⟨_, rfl, _, rfl, lp, us, _, un, rfl, rfl, SqL.of h4, hat, un, _, rfl, hpn.pl, fun ln un6 H5 s5 n5 h5 t5 => ?_⟩
        have ul6 := t5.len
        rw [List.length_map, Bfs.nears_len] at ul6
        refine ⟨ln, rfl, ⟨_, SqL.of h5⟩, fun D hD => ?_⟩
        refine lcS_list (xs := un6) (PvN H5 D fl (dd - (i : Int)) (Bfs.pth fl p1 i)) ⟨same_upd hD, upd_same, .nil⟩ (fun i ys H' ⟨s', _⟩ => SqL.of (s' _ _ h5)) ?_ ?_
        · rintro j x ys H6 hx ⟨s6, h6, t6⟩
          obtain ⟨z, hz, hzp⟩ := t5.getPt hx
          have hj : j < un6.length := (List.getElem?_eq_some_iff.mp hx).1
          have s46 := s5.trans s6
          have hd2 := (s4.trans s46) _ _ hd
          obtain ⟨e1, e2⟩ := get_eq1 fl z (dd - (i : Int) - 1) (by omega)
          have gq := getFl (.inl hd2) (hpn.keep s46)
          rw [lki] at gq
          refine ⟨_, rfl, sd, rfl, .inr ⟨_, .inl hd2⟩, _, rfl, _, rfl, _, getFl (.inl hd2) (hzp.keep s6), _, rfl, _, rfl, _, rfl, lp, us, _, un, rfl, rfl, SqL.of (s46 _ _ h4), hat, sd, _, rfl, gq, _, _, rfl, rfl, e1, _, rfl, ?_⟩
          rw [e2]
          have yl := t6.len
          rw [List.length_map] at yl
          have fl6 := List.length_filter_le (fun z => decide (Bfs.look fl z = some (dd - (i : Int) - 1))) ((Bfs.nears (Bfs.pth fl p1 i)).take j)
          rw [List.length_take, Bfs.nears_len] at fl6
          by_cases cz : Bfs.look fl z = some (dd - (i : Int) - 1)
          · rw [decide_eq_true cz]
            refine iteT ⟨_, rfl, lcS_put (Pv := PvN H5 D fl (dd - (i : Int)) (Bfs.pth fl p1 i)) h6 (small1000 (by omega)) hj ⟨s6.upd hD, upd_same, ?_⟩⟩
            rw [Rg.take_snoc hz, List.filter_append, List.filter_cons, if_pos (decide_eq_true cz)]
            exact (t6.snocPt (hzp.keep s6)).upd fun zs w => by rw [h6] at w; cases w
          · rw [decide_eq_false cz]
            refine iteF (lcS_skip (Pv := PvN H5 D fl (dd - (i : Int)) (Bfs.pth fl p1 i)) hj ⟨s6, h6, ?_⟩)
            rw [Rg.take_snoc hz, List.filter_append, List.filter_cons, if_neg (by rw [decide_eq_false cz]; exact Bool.false_ne_true)]
            simpa using t6
        · rintro ys H6 ⟨s6, h6, t6⟩
          rw [ul6, show (Bfs.nears (Bfs.pth fl p1 i)).take 6 = Bfs.nears (Bfs.pth fl p1 i) from rfl] at t6
          obtain ⟨tt, e, _, _⟩ := Bfs.nx_ok g lki (by omega)
          rw [e] at t6
          obtain ⟨ux, hux, hpt⟩ := t6.atPt (i := 0) (p := Bfs.nx fl (Bfs.pth fl p1 i)) rfl
          have h46 := s6 _ _ (s5 _ _ h4)
          refine ⟨_, rfl, .inl ⟨rfl, _, SqL.of h46⟩, _, rfl, D, ys, 0, ux, rfl, rfl, SqL.of h6, atI_nat (j := 0) hux, lp, us, _, rfl, rfl, h46, small1000 (by omega), ?_⟩
          have nt : ∀ ys, H6 lp ≠ some (.tup ys) := fun ys z => by rw [h46] at z; cases z
          refine ⟨us ++ [ux], _, rfl, ((s4.trans s5).trans s6).upd n3, upd_same, ?_⟩
          rw [List.range_succ (n := i + 1), List.map_append]
          exact ((t4.keep (s5.trans s6)).upd nt).snocPt (hpt.upd nt)
    · have c : ¬ 0 < dd - (i : Int) := fun w => c (decide_eq_true w)
      refine ⟨_, rfl, k lp us H4 s4 n3 h4 ?_⟩
      unfold wayP
      rw [show dd.toNat = i by omega]; exact t4

theorem made_ok {C : Addr} {lv : Nat} {xss : List (List Int)} (hf : FigsIn xss) (hs : ShortIn lv xss) : LinesOk lv (Rg.lall lv xss) := Rg.lall_ok hf fun xs hx => by have := hs xs hx; omega
theorem few_lines {lv : Nat} {LL : List (List Int)} (l2 : lv ≤ 2) (nd : LL.Nodup) (h : LinesOk lv LL) : LL.length < 64 := by
  have := Rg.lines_few nd h
  have h7 : 7 ^ lv ≤ 7 ^ 2 := Nat.pow_le_pow_right (by decide) l2
  have e : (7 : Nat) ^ 2 = 49 := by decide
  omega
theorem mem_cells {lv : Nat} {xss : List (List Int)} (q : Bfs.P) : Bfs.pr q ∈ Rg.puts [] (((lawLines lv xss).map wk).map Bfs.pr) ↔ CB (Rg.lall lv xss) q = true := by
  unfold CB
  rw [Rg.mem_puts, decide_eq_true_iff]
  have hm : q ∈ (lawLines lv xss).map wk ↔ q ∈ (Rg.lall lv xss).map wk := by
    rw [List.mem_map, List.mem_map]
    constructor
    · rintro ⟨a, h1, h2⟩; exact ⟨a, mem_lawLines.mp h1, h2⟩
    · rintro ⟨a, h1, h2⟩; exact ⟨a, mem_lawLines.mpr h1, h2⟩
  constructor
  · rintro (h | h)
    · simp at h
    · obtain ⟨z, hz, e⟩ := List.mem_map.mp h
      exact hm.mp (Bfs.pr_inj e ▸ hz)
  · intro h
    exact .inr (List.mem_map.mpr ⟨q, hm.mpr h, rfl⟩)
def unpr (xs : List Int) : Bfs.P := (xs.getD 0 0, xs.getD 1 0)
theorem cells_pr {ps : List Bfs.P} : ∀ xs ∈ Rg.puts [] (ps.map Bfs.pr), Bfs.pr (unpr xs) = xs := by
  intro xs hx
  rcases Rg.mem_puts.mp hx with h | h
  · simp at h
  · obtain ⟨p, _, rfl⟩ := List.mem_map.mp h; rfl
theorem map_unpr {LL : List (List Int)} (h : ∀ xs ∈ LL, Bfs.pr (unpr xs) = xs) : LL = (LL.map unpr).map Bfs.pr := by
  rw [List.map_map]
  exact (List.map_id LL).symm.trans (List.map_congr_left fun xs hx => (h xs hx).symm)
theorem cb_near {lv : Nat} {LL : List (List Int)} (l4 : lv ≤ 4) (hL : LinesOk lv LL) {q : Bfs.P} (h : CB LL q = true) : (-625 ≤ q.1 ∧ q.1 ≤ 625) ∧ (-625 ≤ q.2 ∧ q.2 ≤ 625) := by
  have h := of_decide_eq_true h
  obtain ⟨xs, hx, rfl⟩ := List.mem_map.mp h
  exact Rg.nr_wk (by rw [(hL xs hx).1]; exact l4) (hL xs hx).2

--CUT
def sp_tried (K : PySem.W.Frag) (C : Addr) : Sp := fun vs H Q _ => ∃ (v : V) (lv : Nat) (LL : List (List Int)) (u1 : V) (p1 : Bfs.P) (A1 : List Int) (u2 : V) (p2 : Bfs.P) (A2 : List Int), vs = [v, u1, u2] ∧ RegAt C H v lv LL ∧ 0 < lv ∧ lv ≤ 4 ∧ LinesOk lv LL ∧ LL.length < 64 ∧ Pt H u1 p1 ∧ Sev.Adr p1.1 p1.2 A1 ∧ A1.length ≤ 1000 ∧ Pt H u2 p2 ∧ Sev.Adr p2.1 p2.2 A2 ∧ A2.length ≤ 1000 ∧
  (CB LL p1 = true → CB LL p2 = true → ∀ n, n = (Bfs.bfs (CB LL) p2 n).length →
    (∀ d, Bfs.look (Bfs.bfs (CB LL) p2 n) p1 = some d → ∀ p l lk us H', Same H H' → H l = none → H' p = some (.tup [.ref l, .ref lk]) → H' l = some (.lst us) → H' lk = some (.lst []) → Tups H' us ((wayP (Bfs.bfs (CB LL) p2 n) p1 d).map Bfs.pr) → Q (.ref p) H') ∧
    (Bfs.look (Bfs.bfs (CB LL) p2 n) p1 = none → ∀ p lk H', Same H H' → H' p = some (.tup [.non, .ref lk]) → H' lk = some (.lst [.bl true, .bl false, .bl false, .bl false]) → Q (.ref p) H')) ∧
  (¬ (CB LL p1 = true ∧ CB LL p2 = true) → ∀ p lk H', Same H H' → H' p = some (.tup [.non, .ref lk]) → H' lk = some (.lst [.bl false, .bl true, .bl false, .bl false]) → Q (.ref p) H')
theorem ok_law_tried (T : Txt K mg t) : FnOk P w K mg base CX0 11 t.f_law_tried t.x_law_tried ["region", "one", "other"] (sp_tried K t.c_Region) := by
  have GE_way := okE_way (P := P) (w := w) (base := base) T
  refine T.d_law_tried.F.ok sc_law_tried (fun vs H Q E h => ?_) (fun cdv A outer s H vs Q E hr h => ?_)
  · obtain ⟨v, lv, LL, u1, p1, A1, u2, p2, A2, rfl, _⟩ := h; rfl
  · obtain ⟨v, lv, LL, u1, p1, A1, u2, p2, A2, rfl, hreg, lv0, lv4, hL, h64, hp1, hA1, l1, hp2, hA2, l2, k1, k2⟩ := h
    refine ⟨_, (pss_cons (ps_set (i := 3) sc_law_tried.nd rfl (by first | exact Or.inl rfl | exact Or.inr rfl) pe_non)
      (pss_cons (ps_set (i := 4) sc_law_tried.nd rfl (by first | exact Or.inl rfl | exact Or.inr rfl) (pe_lstN pa_nil))
      (pss_cons (ps_try_as (i := 5) ⟨rfl, rfl, rfl⟩ sc_law_tried.nd rfl rfl (psx_set (i := 3) sc_law_tried.nd rfl (by first | exact Or.inl rfl | exact Or.inr rfl) T.d_way GE_way (hr.mono (by decide)) (pa_cons (pv 0) (pa_cons (pv 1) (pa_cons (pv 2) pa_nil)))) (fun ea =>
        (pss_one (ps_set (i := 4) sc_law_tried.nd rfl (by first | exact Or.inl rfl | exact Or.inr rfl) (pe_lstN (pa_cons (pe_callB (call_isiX (K := K) rfl) (by rfl) T.n_isinstance bb_isinstance (pa_cons (pv 5) (pa_cons (pe_glob (v := .ref t.c_Apart) rfl T.m_Apart rfl) pa_nil))) (pa_cons (pe_callB (call_isiX (K := K) rfl) (by rfl) T.n_isinstance bb_isinstance (pa_cons (pv 5) (pa_cons (pe_glob (v := .ref t.c_NoCell) rfl T.m_NoCell rfl) pa_nil))) (pa_cons (pe_callB (call_isiX (K := K) rfl) (by rfl) T.n_isinstance bb_isinstance (pa_cons (pv 5) (pa_cons (pe_glob (v := .ref t.c_NoFigure) rfl T.m_NoFigure rfl) pa_nil))) (pa_cons (pe_callB (call_isiX (K := K) rfl) (by rfl) T.n_isinstance bb_isinstance (pa_cons (pv 5) (pa_cons (pe_glob (v := .ref t.c_NoLevel) rfl T.m_NoLevel rfl) pa_nil))) pa_nil)))))))) T.m_FloorError)
      (pss_one (ps_ret (pe_tupN (pa_cons (pv 3) (pa_cons (pv 4) pa_nil)))))))), ?_⟩
    refine ⟨(by walk_at "rdc"), fun lk H1 s1 n1 h1 => ?_⟩
    refine ⟨_, rfl, _, rfl, _, rfl, v, lv, LL, u1, p1, A1, u2, p2, A2, rfl, hreg.keep s1, lv0, lv4, hL, h64, hp1.keep s1, hA1, l1, hp2.keep s1, hA2, l2, fun c1 c2 n hn => ⟨fun d lkd l us H2 s2 n2 h2 t2 => ?_, fun lkd H2 s2 => ⟨_, rfl, T.xs_Apart_FloorError, fun ea nea => ?_⟩⟩, fun hnot H2 s2 => ⟨_, rfl, T.xs_NoCell_FloorError, fun ea nea => ?_⟩⟩
    · refine ⟨_, rfl, _, rfl, (by walk_at "rdc"), fun p H3 s3 n3 h3 => ?_⟩
      exact (k1 c1 c2 n hn).1 d lkd p l lk us H3 ((s1.trans s2).trans s3) (s1.free n2) h3 (s3 _ _ h2) (s3 _ _ (s2 _ _ h1)) (t2.keep s3)
    · have hx : upd H2 ea (XO ea t.c_Apart) ea = some (XO ea t.c_Apart) := upd_same
      refine ⟨_, rfl, ea, _, _, _, rfl, rfl, hx, T.xa_Apart, T.ki_Apart_Apart, ?_⟩
      refine ⟨_, rfl, ea, _, _, _, rfl, rfl, hx, T.xa_Apart, T.ki_Apart_NoCell, ?_⟩
      refine ⟨_, rfl, ea, _, _, _, rfl, rfl, hx, T.xa_Apart, T.ki_Apart_NoFigure, ?_⟩
      refine ⟨_, rfl, ea, _, _, _, rfl, rfl, hx, T.xa_Apart, T.ki_Apart_NoLevel, ?_⟩
      refine ⟨(by walk_at "rdc"), fun l3 H3 s3 n3 h3 => ?_⟩
      refine ⟨_, rfl, _, rfl, (by walk_at "rdc"), fun p H4 s4 n4 h4 => ?_⟩
      exact (k1 c1 c2 n hn).2 lkd p l3 H4 ((((s1.trans s2).trans (same_upd nea)).trans s3).trans s4) h4 (s4 _ _ h3)
    · have hx : upd H2 ea (XO ea t.c_NoCell) ea = some (XO ea t.c_NoCell) := upd_same
      refine ⟨_, rfl, ea, _, _, _, rfl, rfl, hx, T.xa_NoCell, T.ki_NoCell_Apart, ?_⟩
      refine ⟨_, rfl, ea, _, _, _, rfl, rfl, hx, T.xa_NoCell, T.ki_NoCell_NoCell, ?_⟩
      refine ⟨_, rfl, ea, _, _, _, rfl, rfl, hx, T.xa_NoCell, T.ki_NoCell_NoFigure, ?_⟩
      refine ⟨_, rfl, ea, _, _, _, rfl, rfl, hx, T.xa_NoCell, T.ki_NoCell_NoLevel, ?_⟩
      refine ⟨(by walk_at "rdc"), fun l3 H3 s3 n3 h3 => ?_⟩
      refine ⟨_, rfl, _, rfl, (by walk_at "rdc"), fun p H4 s4 n4 h4 => ?_⟩
      exact k2 hnot p l3 H4 ((((s1.trans s2).trans (same_upd nea)).trans s3).trans s4) h4 (s4 _ _ h3)
theorem ok_way (T : Txt K mg t) : FnOk P w K mg base CX0 10 t.f_way t.x_way ["region", "one", "other"] (fun vs H Q _ => sp_wayE K t.c_Region t.c_NoCell t.c_Apart vs H Q E0) := (okE_way (P := P) (w := w) (base := base) T).down
theorem at_mod {us : List V} {n : Nat} (hl : us.length = n) (h0 : 0 < n) (c : Int) : ∃ (j : Nat) (u : V), us[j]? = some u ∧ atI us (c % ((us.length : Nat) : Int)) = some u := by
  have i0 := Int.emod_nonneg c (show ((us.length : Nat) : Int) ≠ 0 by omega)
  have i1 := Int.emod_lt_of_pos c (show (0 : Int) < ((us.length : Nat) : Int) by omega)
  have hj : (c % ((us.length : Nat) : Int)).toNat < us.length := by omega
  refine ⟨_, _, List.getElem?_eq_getElem hj, ?_⟩
  have := atI_nat (List.getElem?_eq_getElem hj)
  rwa [Int.toNat_of_nonneg i0] at this
--CUT
def sp_law (K : PySem.W.Frag) : Sp := fun vs H Q _ => ∃ (a : Addr) (ns : List Int), vs = [.ref a] ∧ SqL K H a (ns.map V.int) ∧ ns.length ≤ 63 ∧ ∀ H', Q (.bl true) H'
def PvE (H1 : Hp) (D : Addr) (CL : List (List Int)) (q : Bfs.P) : Nat → List V → Hp → Prop := fun i ys H' => Same H1 H' ∧ H' D = some (.lst ys) ∧ Tups H' ys ((((Bfs.nears q).take i).filter fun z => decide (Bfs.pr z ∉ CL)).map Bfs.pr)
theorem ok_law (T : Txt K mg t) : FnOk P w K mg base CX0 12 t.f_law t.x_law ["script"] (sp_law K) := by
  have G_law_cell_at := ok_law_cell_at (P := P) (w := w) (base := base) T
  have G_law_rows := ok_law_rows (P := P) (w := w) (base := base) T
  have G_law_all := ok_law_all (P := P) (w := w) (base := base) T
  have G_law_place := ok_law_placeP (P := P) (w := w) (base := base) T
  have G_law_near := ok_law_near (P := P) (w := w) (base := base) T
  have G_law_levels := ok_law_levels (P := P) (w := w) (base := base) T
  have G_law_due := ok_law_due (P := P) (w := w) (base := base) T
  have G_law_tried := ok_law_tried (P := P) (w := w) (base := base) T
  have G_law_place_alike := ok_law_place_alike (P := P) (w := w) (base := base) T
  have G_way := ok_way (P := P) (w := w) (base := base) T
  have G_Region_init := ok_Region_init (P := P) (w := w) (base := base) T
  refine T.d_law.F.ok sc_law (fun vs H Q E h => ?_) (fun cdv A outer s H vs Q E hr h => ?_)
  · obtain ⟨a, ns, rfl, _⟩ := h; rfl
  · obtain ⟨a, ns, rfl, hS, hlen, k⟩ := h
    have hu64 := hr.units
    have hu0 := hr.units0
    have hu := hu_of hr
    -- from the places on
    obtain ⟨tr7, hrest7, hC7⟩ : ∃ tr', PSs (cxOf CX0 P w K mg base ["script", "level", "rows", "region", "cells", "line", "some", "edge", "one", "other", "tried", "found", "due", "k"] "law" (defScope s_law) t.f_law cdv A outer s H E).nox ((defBody s_law).drop 7) tr' ∧
        ∀ (lv : Nat) (LL CL : List (List Int)) (x cd ls : Addr) (us : List V) (ps : List Bfs.P) (x2 x5 x7 : Option V) H1, 0 < lv → lv ≤ 2 → LinesOk lv LL → LL.length < 64 → RegAt t.c_Region H1 (.ref x) lv LL → H1 cd = some (.dT (dset CL)) → (∀ q, Bfs.pr q ∈ CL ↔ CB LL q = true) → SqL K H1 a (List.map V.int ns) →
          H1 ls = some (.lst us) → Tups H1 us (ps.map Bfs.pr) → 0 < ps.length → (∀ p ∈ ps, Rg.Nr p) →
          tr' { nx := fun _ H' => Q .non H', rt := Q } [some (.ref a), some (.int lv), x2, some (.ref x), some (.ref cd), x5, some (.ref ls), x7, none, none, none, none, none, none] H1 := by
      refine ⟨_, (pss_cons (ps_set (i := 8) sc_law.nd rfl (by first | exact Or.inl rfl | exact Or.inr rfl) (pe_ix ix_list (pv 6) (pe_op op_mod (pcall T.d_law_cell_at G_law_cell_at (hr.mono (by decide)) (pa_cons (pv 0) (pa_cons pe_int pa_nil))) (pe_callB call_len_seq (by rfl) T.n_len bb_len (pa_cons (pv 6) pa_nil))) (fun _ _ => rfl)))
      (pss_cons (ps_set (i := 9) sc_law.nd rfl (by first | exact Or.inl rfl | exact Or.inr rfl) (pe_ix ix_list (pv 6) (pe_op op_mod (pcall T.d_law_cell_at G_law_cell_at (hr.mono (by decide)) (pa_cons (pv 0) (pa_cons pe_int pa_nil))) (pe_callB call_len_seq (by rfl) T.n_len bb_len (pa_cons (pv 6) pa_nil))) (fun _ _ => rfl)))
      (pss_cons (ps_set (i := 10) sc_law.nd rfl (by first | exact Or.inl rfl | exact Or.inr rfl) (pcall T.d_law_tried G_law_tried (hr.mono (by decide)) (pa_cons (pv 3) (pa_cons (pv 8) (pa_cons (pv 9) pa_nil)))))
      (pss_cons (ps_if (PW.pt (pw_or (pt_cmp (pc_dnotin hu (pv 8) (pv 4))) (pw_or1 (pt_cmp (pc_dnotin hu (pv 9) (pv 4))))))
        (pss_one (ps_ret (pe_cmpR (op_eqNB hu64) (pv 10) (pe_tupN (pa_cons pe_non (pa_cons (pe_lstN (pa_cons pe_bl (pa_cons pe_bl (pa_cons pe_bl (pa_cons pe_bl pa_nil))))) pa_nil))) (nomark _))))
        pss_nil)
      (pss_cons (ps_set (i := 11) sc_law.nd rfl (by first | exact Or.inl rfl | exact Or.inr rfl) (pcall T.d_law_levels G_law_levels (hr.mono (by decide)) (pa_cons (pv 4) (pa_cons (pv 9) pa_nil))))
      (pss_cons (ps_if (pt_cmp (pc_dnotin hu (pv 8) (pv 11)))
        (pss_one (ps_ret (pe_cmpR (op_eqNB hu64) (pv 10) (pe_tupN (pa_cons pe_non (pa_cons (pe_lstN (pa_cons pe_bl (pa_cons pe_bl (pa_cons pe_bl (pa_cons pe_bl pa_nil))))) pa_nil))) (nomark _))))
        pss_nil)
      (pss_cons (ps_set (i := 12) sc_law.nd rfl (by first | exact Or.inl rfl | exact Or.inr rfl) (pcall T.d_law_due G_law_due (hr.mono (by decide)) (pa_cons (pv 11) (pa_cons (pv 8) pa_nil))))
      (pss_cons (ps_if (PW.pt (pw_or (pt_cmpR (op_neD hu64) (pe_ix ix_tup (pv 10) pe_int (fun _ _ => rfl)) (pe_lstN pa_nil) (nomark _)) (pw_or (pt_not (pt_val (pe_callB call_isi (by rfl) T.n_isinstance bb_isinstance (pa_cons (pe_ix ix_tup (pv 10) pe_int (fun _ _ => rfl)) (pa_cons (pe_bltn (v := .ty "list") rfl T.n_list bb_list rfl) pa_nil))))) (pw_or1 (pt_cmpR op_ne (pe_callB call_len_seq (by rfl) T.n_len bb_len (pa_cons (pe_ix ix_tup (pv 10) pe_int (fun _ _ => rfl)) pa_nil)) (pe_callB call_len_seq (by rfl) T.n_len bb_len (pa_cons (pv 12) pa_nil)) (nomark _))))))
        (pss_one (ps_ret pe_bl))
        pss_nil)
      (pss_cons (ps_for PassesOwn.never rfl (pi_range1 rfl T.n_range (pa_cons (pe_callB call_len_seq (by rfl) T.n_len bb_len (pa_cons (pv 12) pa_nil)) pa_nil)) (pg_name (i := 13) sc_law.nd rfl (by first | exact Or.inl rfl | exact Or.inr rfl))
        (pss_one (ps_if (pt_not (pt_val (pcall T.d_law_place_alike G_law_place_alike (hr.mono (by decide)) (pa_cons (pe_ix ix_list (pe_ix ix_tup (pv 10) pe_int (fun _ _ => rfl)) (pv 13) (fun _ _ => rfl)) (pa_cons (pe_ix ix_list (pv 12) (pv 13) (fun _ _ => rfl)) pa_nil)))))
          (pss_one (ps_ret pe_bl))
          pss_nil)))
      (pss_cons (ps_expr (pe_bm0 PySem.F.plainAttrs_list PySem.F.slot_list_clear PySem.F.type_list_clear mt_clear (pe_ix ix_tup (pv 10) pe_int (fun _ _ => rfl))))
      (pss_one (ps_ret (pe_cmpR (op_eqLT hu64) (pcall T.d_way G_way (hr.mono (by decide)) (pa_cons (pv 3) (pa_cons (pv 8) (pa_cons (pv 9) pa_nil)))) (pv 12) (nomark _)))))))))))))), fun lv LL CL x cd ls us ps x2 x5 x7 H1 lv0 lv2 hL h64 hreg hcd hCL hS1 hls ht hps hnr => ?_⟩
      have ul := ht.len
      rw [List.length_map] at ul
      obtain ⟨j1, u1, hj1, hat1⟩ := at_mod ul hps (cl ns 20)
      obtain ⟨j2, u2, hj2, hat2⟩ := at_mod ul hps (cl ns 21)
      obtain ⟨p1, hp1, hpt1⟩ := ht.getPt hj1
      obtain ⟨p2, hp2, hpt2⟩ := ht.getPt hj2
      obtain ⟨A1, hA1, l1⟩ := (hnr p1 (List.mem_of_getElem? hp1)).adr
      obtain ⟨A2, hA2, l2⟩ := (hnr p2 (List.mem_of_getElem? hp2)).adr
      refine ⟨_, rfl, _, rfl, a, ns, 20, rfl, hS1, by decide, _, rfl, ls, _, rfl, .inl (SqL.of hls), _, _, rfl, rfl, (by show (0 : Int) < _; omega), ls, us, _, u1, rfl, rfl, SqL.of hls, hat1, ?_⟩
      refine ⟨_, rfl, _, rfl, a, ns, 21, rfl, hS1, by decide, _, rfl, ls, _, rfl, .inl (SqL.of hls), _, _, rfl, rfl, (by show (0 : Int) < _; omega), ls, us, _, u2, rfl, rfl, SqL.of hls, hat2, ?_⟩
      have hC : ∀ q, CB LL q = true → q ∈ LL.map wk := fun q hq => of_decide_eq_true hq
      refine ⟨_, rfl, _, rfl, _, rfl, .ref x, lv, LL, u1, p1, A1, u2, p2, A2, rfl, hreg, lv0, by omega, hL, h64, hpt1, hA1, l1, hpt2, hA2, l2, fun c1 c2 n hn => ⟨fun d lkd p l lk us2 H2 s2 n2 h2 hl2 hk2 t2 => ?_, fun lkd p lk H2 s2 h2 hk2 => ?_⟩, fun hnot p lk H2 s2 h2 hk2 => ?_⟩
      · -- a way
        refine ⟨_, rfl, _, rfl, cd, _, rfl, getC (.inl (s2 _ _ hcd)) (hpt1.keep s2), _, rfl, ?_⟩
        rw [if_pos ((hCL p1).mpr c1)]
        refine iteF ⟨_, rfl, _, rfl, cd, _, rfl, getC (.inl (s2 _ _ hcd)) (hpt2.keep s2), _, rfl, ?_⟩
        rw [if_pos ((hCL p2).mpr c2)]
        refine iteF ?_
        refine ⟨_, rfl, _, rfl, cd, CL, u2, p2, CB LL, LL.map wk, rfl, s2 _ _ hcd, hCL, hC, by rw [List.length_map]; exact h64, hpt2.keep s2, c2, fun fd n' H3 s3 n3 h3 hn' => ?_⟩
        have en := Bfs.bfs_uniq hn hn'
        subst en
        have s13 := s2.trans s3
        have g := (Bfs.run_bfs c2 n (by omega)).toGood
        have fl64 := Bfs.bfs_len hC g
        rw [List.length_map] at fl64
        generalize hfl : Bfs.bfs (CB LL) p2 n = fl at *
        have g3 := getFl (.inl h3) (hpt1.keep s13)
        rw [lkd] at g3
        refine ⟨_, rfl, _, rfl, fd, _, rfl, g3, _, rfl, iteF ?_⟩
        refine ⟨_, rfl, _, rfl, u1, p1, fd, CB LL, p2, fl, d, rfl, hpt1.keep s13, h3, g, by omega, lkd, fun ld ud H4 s4 n4 h4 t4 => ?_⟩
        have s14 := s13.trans s4
        have s24 := s3.trans s4
        have wl : (wayP fl p1 d).length = d.toNat + 1 := by unfold wayP; rw [List.length_map, List.length_range]
        have dlt := Bfs.dist_lt g lkd
        have ul2 := t2.len
        have udl := t4.len
        rw [List.length_map, wl] at ul2 udl
        have hp4 := SqT.of (K := K) (s24 _ _ h2)
        -- tried[1] != []
        refine ⟨_, rfl, _, _, _, _, rfl, rfl, hp4, (by rfl), (by walk_at "rdc"), fun l5 H5 s5 n5 h5 => ?_⟩
        refine ⟨.list [], .list [], .lst (SqL.of (s5 _ _ (s24 _ _ hk2))) .nil, .lst (SqL.of h5) .nil, rfl, rfl, rfl, _, rfl, iteF ?_⟩
        have s25 := s24.trans s5
        have hp5 := SqT.of (K := K) (s25 _ _ h2)
        have hl5 := s25 _ _ hl2
        refine ⟨_, rfl, _, _, _, _, rfl, rfl, hp5, (by rfl), _, _, _, _, rfl, rfl, .lst (SqL.of hl5), kit_same _ _, _, rfl, iteF ?_⟩
        refine ⟨_, rfl, _, _, _, _, rfl, rfl, hp5, (by rfl), l, us2, rfl, .inl (SqL.of hl5), _, rfl, ld, ud, rfl, .inl (SqL.of (s5 _ _ h4)), rfl, _, rfl, ?_⟩
        rw [ul2, udl, decide_eq_true rfl]
        refine iteF ?_
        -- each place
        refine ⟨_, rfl, ld, ud, rfl, .inl (SqL.of (s5 _ _ h4)), _, rfl, by omega, by omega, ?_⟩
        refine for_range (lo := 0) (fun i σ H' => ∃ y, σ = [some (.ref a), some (.int lv), x2, some (.ref x), some (.ref cd), x5, some (.ref ls), x7, some u1, some u2, some (.ref p), some (.ref fd), some (.ref ld), y] ∧ H' = H5) ⟨_, rfl, rfl⟩ ?_ ?_
        · rintro i σ H6 hi ⟨y, rfl, rfl⟩
          have hiw : i < (wayP fl p1 d).length := by omega
          obtain ⟨ua, hua, hpa⟩ := (t2.keep s25).atPt (List.getElem?_eq_getElem hiw)
          obtain ⟨ub, hub, hpb⟩ := (t4.keep s5).atPt (List.getElem?_eq_getElem hiw)
          have at1 : atI us2 (0 + (i : Int)) = some ua := by rw [show (0 : Int) + (i : Int) = i by omega]; exact atI_nat hua
          have at2 : atI ud (0 + (i : Int)) = some ub := by rw [show (0 : Int) + (i : Int) = i by omega]; exact atI_nat hub
          refine ⟨_, rfl, _, _, _, _, rfl, rfl, hp5, (by rfl), _, rfl, l, us2, _, ua, rfl, rfl, SqL.of hl5, at1, _, rfl, _, rfl, ld, ud, _, ub, rfl, rfl, SqL.of (s5 _ _ h4), at2, ?_⟩
          refine ⟨ua, ub, _, _, _, _, rfl, hpa.pl, hpb.pl, _, rfl, ?_⟩
          rw [decide_eq_true rfl]
          exact iteF ⟨_, rfl, rfl⟩
        · rintro σ H6 ⟨y, rfl, rfl⟩
          refine ⟨_, rfl, p, _, _, .ref l, rfl, rfl, hp5, (by rfl), .inl ⟨rfl, _, SqL.of hl5⟩, l, us2, rfl, rfl, hl5, ?_⟩
          have s15 := s14.trans s5
          generalize hH7 : upd H6 l (.lst []) = H7
          have s17 : Same H1 H7 := by rw [← hH7]; exact s15.upd n2
          have ldl : ld ≠ l := (ne_of_none (s3 _ _ hl2) n4).symm
          have hd7 : H7 ld = some (.lst ud) := by rw [← hH7, upd_ne ldl]; exact s5 _ _ h4
          have td7 : Tups H7 ud ((wayP fl p1 d).map Bfs.pr) := by rw [← hH7]; exact (t4.keep s5).upd fun zs z => by rw [hl5] at z; cases z
          refine ⟨_, rfl, _, rfl, _, rfl, .ref x, lv, LL, u1, p1, A1, u2, p2, A2, rfl, hreg.keep s17, lv0, by omega, hL, h64, hpt1.keep s17, hA1, l1, hpt2.keep s17, hA2, l2, fun _ _ n8 hn8 => ⟨fun d8 lk8 l8 us8 H8 s8 n8' h8 t8 => ?_, fun lk8 H8 s8 => ?_⟩, fun hnot H8 s8 => absurd ⟨c1, c2⟩ hnot⟩
          · have en := Bfs.bfs_uniq (C := CB LL) (p := p2) (n := n) (m := n8) (by rw [hfl]; exact hn) hn8
            subst en
            rw [hfl] at lk8 t8
            rw [lkd] at lk8
            cases lk8
            refine ⟨_, rfl, l8, ld, us8, ud, _, _, rfl, rfl, SqL.of h8, SqL.of (s8 _ _ hd7), t8, td7.keep s8, ?_⟩
            rw [decide_eq_true rfl]
            exact k H8
          · have en := Bfs.bfs_uniq (C := CB LL) (p := p2) (n := n) (m := n8) (by rw [hfl]; exact hn) hn8
            subst en
            rw [hfl, lkd] at lk8
            cases lk8
      · -- apart
        refine ⟨_, rfl, _, rfl, cd, _, rfl, getC (.inl (s2 _ _ hcd)) (hpt1.keep s2), _, rfl, ?_⟩
        rw [if_pos ((hCL p1).mpr c1)]
        refine iteF ⟨_, rfl, _, rfl, cd, _, rfl, getC (.inl (s2 _ _ hcd)) (hpt2.keep s2), _, rfl, ?_⟩
        rw [if_pos ((hCL p2).mpr c2)]
        refine iteF ?_
        refine ⟨_, rfl, _, rfl, cd, CL, u2, p2, CB LL, LL.map wk, rfl, s2 _ _ hcd, hCL, hC, by rw [List.length_map]; exact h64, hpt2.keep s2, c2, fun fd n' H3 s3 n3 h3 hn' => ?_⟩
        have en := Bfs.bfs_uniq hn hn'
        subst en
        have g3 := getFl (.inl h3) (hpt1.keep (s2.trans s3))
        rw [lkd] at g3
        refine ⟨_, rfl, _, rfl, fd, _, rfl, g3, _, rfl, iteT ?_⟩
        refine ⟨_, rfl, (by walk_at "rdc"), fun l5 H5 s5 n5 h5 => ⟨(by walk_at "rdc"), fun q6 H6 s6 n6 h6 => ?_⟩⟩
        have s36 := s3.trans (s5.trans s6)
        exact ⟨p, q6, lk, l5, true, false, false, false, true, false, false, false, rfl, rfl, s36 _ _ h2, h6, s36 _ _ hk2, s6 _ _ h5, ⟨rfl, rfl, rfl, rfl⟩, k H6⟩
      · -- outside
        refine ⟨_, rfl, _, rfl, cd, _, rfl, getC (.inl (s2 _ _ hcd)) (hpt1.keep s2), _, rfl, ?_⟩
        by_cases c1 : Bfs.pr p1 ∈ CL
        · rw [if_pos c1]
          refine iteF ⟨_, rfl, _, rfl, cd, _, rfl, getC (.inl (s2 _ _ hcd)) (hpt2.keep s2), _, rfl, ?_⟩
          have c2 : Bfs.pr p2 ∉ CL := fun z => hnot ⟨(hCL p1).mp c1, (hCL p2).mp z⟩
          rw [if_neg c2]
          refine iteT ⟨_, rfl, (by walk_at "rdc"), fun l5 H5 s5 n5 h5 => ⟨(by walk_at "rdc"), fun q6 H6 s6 n6 h6 => ?_⟩⟩
          have s36 := s5.trans s6
          exact ⟨p, q6, lk, l5, false, true, false, false, false, true, false, false, rfl, rfl, s36 _ _ h2, h6, s36 _ _ hk2, s6 _ _ h5, ⟨rfl, rfl, rfl, rfl⟩, k H6⟩
        · rw [if_neg c1]
          refine iteT (iteT ⟨_, rfl, (by walk_at "rdc"), fun l5 H5 s5 n5 h5 => ⟨(by walk_at "rdc"), fun q6 H6 s6 n6 h6 => ?_⟩⟩)
          have s36 := s5.trans s6
          exact ⟨p, q6, lk, l5, false, true, false, false, false, true, false, false, rfl, rfl, s36 _ _ h2, h6, s36 _ _ hk2, s6 _ _ h5, ⟨rfl, rfl, rfl, rfl⟩, k H6⟩
    refine ⟨_, (pss_cons (ps_set (i := 1) sc_law.nd rfl (by first | exact Or.inl rfl | exact Or.inr rfl) (pe_op op_add pe_int (pe_op op_mod (pcall T.d_law_cell_at G_law_cell_at (hr.mono (by decide)) (pa_cons (pv 0) (pa_cons pe_int pa_nil))) pe_int)))
      (pss_cons (ps_set (i := 2) sc_law.nd rfl (by first | exact Or.inl rfl | exact Or.inr rfl) (pe_op op_catN (pcall T.d_law_rows G_law_rows (hr.mono (by decide)) (pa_cons (pv 0) (pa_cons pe_int (pa_cons (pv 1) pa_nil)))) (pcall T.d_law_rows G_law_rows (hr.mono (by decide)) (pa_cons (pv 0) (pa_cons pe_int (pa_cons (pv 1) pa_nil))))))
      (pss_cons (ps_set (i := 3) sc_law.nd rfl (by first | exact Or.inl rfl | exact Or.inr rfl) (pmake T.m_Region T.k_Region T.d_Region_init G_Region_init (hr.mono (by decide)) (pa_cons (pv 1) (pa_cons (pv 2) pa_nil))))
      (pss_cons (ps_set (i := 4) sc_law.nd rfl (by first | exact Or.inl rfl | exact Or.inr rfl) pe_dnewTN)
      (pss_cons (PS.thaw (ps_for PassesOwn.never rfl (pi_dict (pcall T.d_law_all G_law_all (hr.mono (by decide)) (pa_cons (pv 2) (pa_cons (pv 1) pa_nil)))) (pg_name (i := 5) sc_law.nd rfl (by first | exact Or.inl rfl | exact Or.inr rfl))
        (pss_one (ps_dput hu (pv 4) (pcall T.d_law_place G_law_place (hr.mono (by decide)) (pa_cons (pv 5) pa_nil)) pe_bl rfl))))
      (pss_cons (ps_set (i := 6) sc_law.nd rfl (by first | exact Or.inl rfl | exact Or.inr rfl) (pe_op op_catN (pe_callB (Srt.call_sortedD rfl) (by rfl) T.n_sorted bb_sorted (pa_cons (pv 4) pa_nil)) (pe_lstN (pa_cons (pe_tupN (pa_cons pe_int (pa_cons pe_int pa_nil))) pa_nil))))
      (pss_cons (ps_if (pt_cmpR (op_neDE hu0) (pv 4) pe_dnewTN (nomark _))
        (pss_cons (ps_set (i := 7) sc_law.nd rfl (by first | exact Or.inl rfl | exact Or.inr rfl) (pe_ix ix_list (pe_callB (Srt.call_sortedD rfl) (by rfl) T.n_sorted bb_sorted (pa_cons (pv 4) pa_nil)) (pe_op op_mod (pcall T.d_law_cell_at G_law_cell_at (hr.mono (by decide)) (pa_cons (pv 0) (pa_cons pe_int pa_nil))) (pe_callB call_lenDT (by rfl) T.n_len bb_len (pa_cons (pv 4) pa_nil))) (fun _ _ => rfl)))
        (pss_one (ps_set (i := 6) sc_law.nd rfl (by first | exact Or.inl rfl | exact Or.inr rfl) (pe_op op_catN (pv 6) (pe_lcI (x := "far") (fr := ["cells"]) (js := [4]) ⟨rfl, by decide +kernel, by decide +kernel, rfl, rfl, by decide +kernel, by decide +kernel, by decide +kernel, by decide +kernel⟩ rfl rfl rfl (pi_list (pcall T.d_law_near G_law_near (hr.mono (by decide)) (pa_cons (pv 7) pa_nil))) (fun cl fp s H => (pt_cmp (pc_dnotin hu (pv 0) (pv 1)))) (fun cl fp s H => (pv 0)))))))
        pss_nil)
      hrest7))))))), ?_⟩
    have m2 := Int.emod_lt_of_pos (cl ns 0) (show (0 : Int) < 2 by decide)
    have m2' := Int.emod_nonneg (cl ns 0) (show (2 : Int) ≠ 0 by decide)
    obtain ⟨lv, hlv, lv0, lv2⟩ : ∃ lv : Nat, 1 + cl ns 0 % 2 = (lv : Int) ∧ 0 < lv ∧ lv ≤ 2 := ⟨(1 + cl ns 0 % 2).toNat, by omega, by omega, by omega⟩
    refine ⟨_, rfl, a, ns, 0, rfl, hS, by decide, _, _, rfl, rfl, (by show (0 : Int) < 2; decide), _, _, rfl, rfl, ?_⟩
    dsimp only
    rw [hlv]
    refine ⟨_, rfl, _, rfl, a, ns, 1, lv, rfl, hS, by decide, by omega, by omega, fun l1 us1 xss1 H1 s1 n1 h1 r1 nl1 fg1 sh1 le1 => ?_⟩
    refine ⟨_, rfl, _, rfl, a, ns, 10, lv, rfl, s1.seq hS, by decide, by omega, by omega, fun l2 us2 xss2 H2 s2 n2 h2 r2 nl2 fg2 sh2 le2 => ?_⟩
    have ul1 := r1.len
    have ul2 := r2.len
    refine ⟨l1, l2, us1, us2, rfl, rfl, s2 _ _ h1, h2, Nat.le_of_lt (small1000 (by omega)), fun lr H3 s3 n3 h3 => ?_⟩
    have rr : HRows H3 (us1 ++ us2) (xss1 ++ xss2) := ((r1.keep s2).keep s3).app (r2.keep s3)
    have fg : FigsIn (xss1 ++ xss2) := fun xs hx => by
      rcases List.mem_append.mp hx with hx | hx
      · exact fg1 xs hx
      · exact fg2 xs hx
    have sh : ShortIn lv (xss1 ++ xss2) := fun xs hx => by
      rcases List.mem_append.mp hx with hx | hx
      · exact sh1 xs hx
      · exact sh2 xs hx
    have xl : (xss1 ++ xss2).length ≤ 16 := by rw [List.length_append]; omega
    generalize us1 ++ us2 = us at rr h3
    generalize hxss : xss1 ++ xss2 = xss at rr fg sh xl
    have s03 := (s1.trans s2).trans s3
    have hS3 := s03.seq hS
    -- the region
    refine ⟨_, rfl, _, rfl, fun x dx nx ndx ne => ?_⟩
    have sM : Same H3 (upd (upd H3 dx (.own x)) x (.ins t.c_Region dx [])) := (same_upd ndx).trans (same_upd (by rw [upd_ne ne.symm]; exact nx))
    generalize hHm : upd (upd H3 dx (.own x)) x (.ins t.c_Region dx []) = Hm at sM
    have hxm : Hm x = some (.ins t.c_Region dx []) := by rw [← hHm]; exact upd_same
    refine ⟨x, dx, lv, lr, us, xss, rfl, hxm, SqL.of (sM _ _ h3), (rr.keep sM).rows, by omega, fun _ _ _ d H4 sb nd hx' hd' => ⟨rfl, ?_⟩, fun hl => absurd ⟨by omega, by omega⟩ hl, fun _ hf => absurd fg hf, fun _ _ hs => absurd sh hs⟩
    have s4 : Same H3 H4 := fun b o e => sb b o (ne_of_none e nx) (sM _ _ e)
    rw [Int.toNat_natCast] at hd'
    have hreg : RegAt t.c_Region H4 (.ref x) lv (Rg.lall lv xss) := ⟨x, dx, d, rfl, hx', hd'⟩
    have hL : LinesOk lv (Rg.lall lv xss) := made_ok (C := x) fg sh
    have h64 := few_lines lv2 (Rg.lall_nodup lv xss) hL
    have shn : ∀ xs ∈ xss, xs.length ≤ lv := fun xs hx => by have := sh xs hx; omega
    -- the cells
    intro cd H5 s5 n5 h5
    have s35 := s4.trans s5
    refine ⟨_, rfl, _, rfl, lv, lr, us, xss, rfl, SqL.of (s35 _ _ h3), (rr.keep s35).rows, by omega, shn, by omega, fun dl H6 s6 n6 h6 => ?_⟩
    refine ⟨dl, _, rfl, h6, fun od nf => ?_⟩
    have ndl : H4 dl = none := s5.free n6
    have cdl : cd ≠ dl := ne_of_none h5 n6
    have hLw : LinesOk lv (lawLines lv xss) := fun ys hy => hL ys (mem_lawLines.mp hy)
    have hw64 : (lawLines lv xss).length < 64 := few_lines lv2 (Rg.puts_nodup (by simp)) hLw
    refine for_dict (fun i σ H' => ∃ y, σ = [some (.ref a), some (.int lv), some (.ref lr), some (.ref x), some (.ref cd), y, none, none, none, none, none, none, none, none] ∧ Same H4 H' ∧ H' dl = some (.frz od (.dT (dset (lawLines lv xss)))) ∧ H' cd = some (.dT (dset (Rg.puts [] ((((lawLines lv xss).take i).map wk).map Bfs.pr)))))
      ⟨_, rfl, (s5.trans s6).upd ndl, upd_same, by rw [upd_ne cdl]; exact s6 _ _ h5⟩ (fun i σ H' ⟨_, _, _, h, _⟩ => h) ?_ ?_
    · rintro i kx v b σ H7 hk hb ⟨y, rfl, s7, f7, c7⟩
      obtain ⟨xs, hxs, rfl, rfl⟩ := dset_get hk
      rw [kk_kV] at hb
      have hi : i < (lawLines lv xss).length := (List.getElem?_eq_some_iff.mp hxs).1
      refine ⟨_, rfl, _, rfl, b, xs, rfl, .inr (SqT.of hb), (hLw xs (List.mem_of_getElem? hxs)).2, fun pv H8 s8 hp8 => ?_⟩
      have pul := Rg.puts_len ((((lawLines lv xss).take i).map wk).map Bfs.pr) []
      rw [List.length_map, List.length_map, List.length_take, List.length_nil] at pul
      refine ⟨cd, _, rfl, putC (s8 _ _ c7) hp8 (small1000 (by omega)), ?_⟩
      refine ⟨_, rfl, (s7.trans s8).upd n5, ?_, ?_⟩
      · rw [upd_ne cdl.symm]; exact s8 _ _ f7
      · rw [upd_same, Rg.take_snoc hxs, List.map_append, List.map_append]
        show _ = some (HO.dT (dset (Rg.puts [] (_ ++ [Bfs.pr (wk xs)]))))
        rw [Rg.puts_snoc]
    · rintro σ H7 ⟨y, rfl, s7, f7, c7⟩
      refine ⟨dl, od, _, f7, nf, ?_⟩
      rw [dset_len, List.take_length] at c7
      generalize hH8 : upd H7 dl (.dT (dset (lawLines lv xss))) = H8
      have s8 : Same H4 H8 := by rw [← hH8]; exact s7.upd ndl
      have hcd : H8 cd = some (.dT (dset (Rg.puts [] (((lawLines lv xss).map wk).map Bfs.pr)))) := by rw [← hH8, upd_ne cdl]; exact c7
      have hCL : ∀ q, Bfs.pr q ∈ Rg.puts [] (((lawLines lv xss).map wk).map Bfs.pr) ↔ CB (Rg.lall lv xss) q = true := mem_cells
      have hCpr := cells_pr (ps := (lawLines lv xss).map wk)
      have CLl := Rg.puts_len (((lawLines lv xss).map wk).map Bfs.pr) []
      rw [List.length_map, List.length_map, List.length_nil] at CLl
      generalize hCLe : Rg.puts [] (((lawLines lv xss).map wk).map Bfs.pr) = CL at *
      have hne : ∀ xs ∈ CL, xs ≠ [] := fun xs hx z => by
        have := hCpr xs hx
        rw [z] at this
        simp [Bfs.pr] at this
      have near : ∀ xs ∈ CL, (-625 ≤ (unpr xs).1 ∧ (unpr xs).1 ≤ 625) ∧ (-625 ≤ (unpr xs).2 ∧ (unpr xs).2 ≤ 625) := fun xs hx => by
        refine cb_near (lv := lv) (by omega) hL ((hCL _).mp ?_)
        rw [hCpr xs hx]; exact hx
      have hS8 := s8.seq (s4.seq hS3)
      -- some places
      refine ⟨_, rfl, cd, CL, fun _ => .bl true, rfl, hcd, fun _ => hne, by omega, fun D us5 xs5 H9 s9 n9 h9 t9 pm asc => ?_⟩
      refine ⟨(by walk_at "rdc"), fun q50 H10 s10 n10 h10 => ⟨(by walk_at "rdc"), fun l50 H11 s11 n11 h11 => ?_⟩⟩
      have ul5 := t9.len
      have pml := pm.length_eq
      refine ⟨D, l50, us5, _, rfl, rfl, s11 _ _ (s10 _ _ h9), h11, Nat.le_of_lt (small1000 (by simp; omega)), fun ls H12 s12 n12 h12 => ?_⟩
      have s9c := (s9.trans s10).trans (s11.trans s12)
      have e5 := map_unpr (LL := xs5) fun xs hx => hCpr xs (pm.mem_iff.mp hx)
      have ts : Tups H12 (us5 ++ [.ref q50]) ((xs5.map unpr ++ [(50, 3)]).map Bfs.pr) := by
        rw [List.map_append, ← e5]
        exact (t9.keep ((s10.trans s11).trans s12)).snoc (s12 _ _ (s11 _ _ h10))
      have hnr : ∀ p ∈ xs5.map unpr ++ [((50, 3) : Bfs.P)], Rg.Nr p := fun p hp => by
        rcases List.mem_append.mp hp with hp | hp
        · obtain ⟨xs, hx, rfl⟩ := List.mem_map.mp hp
          have := near xs (pm.mem_iff.mp hx)
          unfold Rg.Nr; omega
        · rw [List.mem_singleton.mp hp]; unfold Rg.Nr; decide
      have hps : 0 < (xs5.map unpr ++ [((50, 3) : Bfs.P)]).length := by simp
      have psl : (xs5.map unpr ++ [((50, 3) : Bfs.P)]).length < 65 := by simp; omega
      generalize us5 ++ [V.ref q50] = us6 at h12 ts
      generalize xs5.map unpr ++ [((50, 3) : Bfs.P)] = ps at ts hnr hps psl
      have tsl := ts.len
      rw [List.length_map] at tsl
      refine ⟨_, rfl, fun d0 H13 s13 n13 h13 => ?_⟩
      have s8d := s9c.trans s13
      refine ⟨cd, d0, _, rfl, rfl, .inl (s8d _ _ hcd), h13, _, rfl, ?_⟩
      by_cases hemp : CL = []
      · have e0 : dset CL = [] := by rw [hemp]; rfl
        rw [decide_eq_true e0]
        exact iteF (hC7 lv _ CL x cd ls us6 ps _ _ _ H13 lv0 lv2 hL h64 (hreg.keep (s8.trans s8d)) (s8d _ _ hcd) hCL (s8d.seq hS8) (s13 _ _ h12) (ts.keep s13) hps hnr)
      · have e0 : ¬ dset CL = [] := fun z => hemp (by
          have := congrArg List.length z
          rw [dset_len] at this
          exact List.length_eq_zero_iff.mp this)
        rw [decide_eq_false e0]
        have CL0 : 0 < CL.length := List.length_pos_iff.mpr hemp
        have hcd13 := s8d _ _ hcd
        refine iteT ⟨_, rfl, cd, CL, fun _ => .bl true, rfl, hcd13, fun _ => hne, by omega, fun D2 us7 xs7 H14 s14 n14 h14 t14 pm2 asc2 => ?_⟩
        have ul7 := t14.len
        have pml2 := pm2.length_eq
        obtain ⟨je, ue, hje, hate⟩ := at_mod (us := us7) rfl (by omega) (cl ns 19)
        obtain ⟨ae, xe, rfl, hxe, hae⟩ := t14.get hje
        have xem : xe ∈ CL := pm2.mem_iff.mp (List.mem_of_getElem? hxe)
        have hpe : Pt H14 (.ref ae) (unpr xe) := ⟨ae, rfl, by rw [hae, ← hCpr xe xem]; rfl⟩
        have hlen7 : (dset CL).length = us7.length := by rw [dset_len]; omega
        refine ⟨_, rfl, a, ns, 19, rfl, (s8d.trans s14).seq hS8, by decide, _, rfl, cd, _, rfl, .inl (s14 _ _ hcd13), _, _, rfl, rfl, (by show (0 : Int) < _; rw [hlen7]; omega), D2, us7, _, .ref ae, rfl, rfl, SqL.of h14, (by rw [hlen7]; exact hate), ?_⟩
        refine ⟨_, rfl, _, rfl, .ref ae, unpr xe, rfl, hpe.pl, fun ln un6 H15 s15 n15 h15 t15 => ?_⟩
        have ul6 := t15.len
        rw [List.length_map, Bfs.nears_len] at ul6
        have hcd15 := s15 _ _ (s14 _ _ hcd13)
        refine ⟨ln, rfl, ⟨_, SqL.of h15⟩, fun D hD => ?_⟩
        refine lcS_list (xs := un6) (PvE H15 D CL (unpr xe)) ⟨same_upd hD, upd_same, .nil⟩ (fun i ys H' ⟨s', _⟩ => SqL.of (s' _ _ h15)) ?_ ?_
        · rintro j xx ys H16 hx ⟨s16, h16, t16⟩
          obtain ⟨z, hz, hzp⟩ := t15.getPt hx
          have hj : j < un6.length := (List.getElem?_eq_some_iff.mp hx).1
          refine ⟨_, rfl, _, rfl, cd, _, rfl, getC (.inl (s16 _ _ hcd15)) (hzp.keep s16), _, rfl, ?_⟩
          have yl := t16.len
          rw [List.length_map] at yl
          have fl6 := List.length_filter_le (fun z => decide (Bfs.pr z ∉ CL)) ((Bfs.nears (unpr xe)).take j)
          rw [List.length_take, Bfs.nears_len] at fl6
          by_cases cz : Bfs.pr z ∈ CL
          · rw [if_pos cz]
            refine iteF (lcS_skip (Pv := PvE H15 D CL (unpr xe)) hj ⟨s16, h16, ?_⟩)
            rw [Rg.take_snoc hz, List.filter_append, List.filter_cons, if_neg (by simpa using cz)]
            simpa using t16
          · rw [if_neg cz]
            refine iteT ⟨_, rfl, lcS_put (Pv := PvE H15 D CL (unpr xe)) h16 (small1000 (by omega)) hj ⟨s16.upd hD, upd_same, ?_⟩⟩
            rw [Rg.take_snoc hz, List.filter_append, List.filter_cons, if_pos (decide_eq_true cz)]
            exact (t16.snocPt (hzp.keep s16)).upd fun zs w => by rw [h16] at w; cases w
        · rintro ys H16 ⟨s16, h16, t16⟩
          rw [ul6, show (Bfs.nears (unpr xe)).take 6 = Bfs.nears (unpr xe) from rfl] at t16
          have s1316 := (s14.trans s15).trans s16
          have yl := t16.len
          rw [List.length_map] at yl
          have fl6 := List.length_filter_le (fun z => decide (Bfs.pr z ∉ CL)) (Bfs.nears (unpr xe))
          rw [Bfs.nears_len] at fl6
          refine ⟨ls, D, us6, ys, rfl, rfl, s1316 _ _ (s13 _ _ h12), h16, Nat.le_of_lt (small1000 (by omega)), fun ls2 H17 s17 n17 h17 => ?_⟩
          have s817 := s8d.trans (s1316.trans s17)
          refine hC7 lv _ CL x cd ls2 (us6 ++ ys) (ps ++ (Bfs.nears (unpr xe)).filter fun z => decide (Bfs.pr z ∉ CL)) _ _ _ H17 lv0 lv2 hL h64 (hreg.keep (s8.trans s817)) (s817 _ _ hcd) hCL (s817.seq hS8) h17 ?_ (by simp; omega) fun p hp => ?_
          · rw [List.map_append]
            exact (ts.keep ((s13.trans s1316).trans s17)).app (t16.keep s17)
          · rcases List.mem_append.mp hp with hp | hp
            · exact hnr p hp
            · have hp := (List.mem_filter.mp hp).1
              have := near xe xem
              rw [Bfs.nears_eq] at hp
              simp only [List.mem_cons, List.not_mem_nil, or_false] at hp
              unfold Rg.Nr
              rcases hp with rfl | rfl | rfl | rfl | rfl | rfl <;> simp only <;> omega
--CUT
end
set_option maxHeartbeats 0 in
theorem txt_mk {K : PySem.W.Frag} {h : Heap} {mg : Str → Option Value} (X : K.In h) (G : h.Ns mainGlobals mg)
    {cd_NoLevel : ClassData}
    {cd_NoFigure : ClassData}
    {cd_NoCell : ClassData}
    {cd_Apart : ClassData}
    {cd_NoCell_FloorError : ClassData}
    {cd_Apart_FloorError : ClassData}
    {c_NoFigure : Addr}
    {c_FloorError : Addr}
    {c_NoCell : Addr}
    {c_NoLevel : Addr}
    {c_Apart : Addr}
    {c_Region : Addr}
    {f_added : Addr} {od_added an_added : Option Addr} {sl_added : Array (Option Value)} {oc_added kV_added dc_added pm_added cd_added ct_added : Value}
    {f_taken : Addr} {od_taken an_taken : Option Addr} {sl_taken : Array (Option Value)} {oc_taken kV_taken dc_taken pm_taken cd_taken ct_taken : Value}
    {f_turned : Addr} {od_turned an_turned : Option Addr} {sl_turned : Array (Option Value)} {oc_turned kV_turned dc_turned pm_turned cd_turned ct_turned : Value}
    {f_step : Addr} {od_step an_step : Option Addr} {sl_step : Array (Option Value)} {oc_step kV_step dc_step pm_step cd_step ct_step : Value}
    {f_neighbours : Addr} {od_neighbours an_neighbours : Option Addr} {sl_neighbours : Array (Option Value)} {oc_neighbours kV_neighbours dc_neighbours pm_neighbours cd_neighbours ct_neighbours : Value}
    {f_great : Addr} {od_great an_great : Option Addr} {sl_great : Array (Option Value)} {oc_great kV_great dc_great pm_great cd_great ct_great : Value}
    {f_rest : Addr} {od_rest an_rest : Option Addr} {sl_rest : Array (Option Value)} {oc_rest kV_rest dc_rest pm_rest cd_rest ct_rest : Value}
    {f_place_of_rest : Addr} {od_place_of_rest an_place_of_rest : Option Addr} {sl_place_of_rest : Array (Option Value)} {oc_place_of_rest kV_place_of_rest dc_place_of_rest pm_place_of_rest cd_place_of_rest ct_place_of_rest : Value}
    {f_centre : Addr} {od_centre an_centre : Option Addr} {sl_centre : Array (Option Value)} {oc_centre kV_centre dc_centre pm_centre cd_centre ct_centre : Value}
    {f_address : Addr} {od_address an_address : Option Addr} {sl_address : Array (Option Value)} {oc_address kV_address dc_address pm_address cd_address ct_address : Value}
    {f_place_of : Addr} {od_place_of an_place_of : Option Addr} {sl_place_of : Array (Option Value)} {oc_place_of kV_place_of dc_place_of pm_place_of cd_place_of ct_place_of : Value}
    {f_refuse_no_level : Addr} {od_refuse_no_level an_refuse_no_level : Option Addr} {sl_refuse_no_level : Array (Option Value)} {oc_refuse_no_level kV_refuse_no_level dc_refuse_no_level pm_refuse_no_level cd_refuse_no_level ct_refuse_no_level : Value}
    {f_refuse_no_figures : Addr} {od_refuse_no_figures an_refuse_no_figures : Option Addr} {sl_refuse_no_figures : Array (Option Value)} {oc_refuse_no_figures kV_refuse_no_figures dc_refuse_no_figures pm_refuse_no_figures cd_refuse_no_figures ct_refuse_no_figures : Value}
    {f_refuse_too_long : Addr} {od_refuse_too_long an_refuse_too_long : Option Addr} {sl_refuse_too_long : Array (Option Value)} {oc_refuse_too_long kV_refuse_too_long dc_refuse_too_long pm_refuse_too_long cd_refuse_too_long ct_refuse_too_long : Value}
    {f_line_of : Addr} {od_line_of an_line_of : Option Addr} {sl_line_of : Array (Option Value)} {oc_line_of kV_line_of dc_line_of pm_line_of cd_line_of ct_line_of : Value}
    {f_one_figure_longer : Addr} {od_one_figure_longer an_one_figure_longer : Option Addr} {sl_one_figure_longer : Array (Option Value)} {oc_one_figure_longer kV_one_figure_longer dc_one_figure_longer pm_one_figure_longer cd_one_figure_longer ct_one_figure_longer : Value}
    {f_lines_of : Addr} {od_lines_of an_lines_of : Option Addr} {sl_lines_of : Array (Option Value)} {oc_lines_of kV_lines_of dc_lines_of pm_lines_of cd_lines_of ct_lines_of : Value}
    {f_lines_of_all : Addr} {od_lines_of_all an_lines_of_all : Option Addr} {sl_lines_of_all : Array (Option Value)} {oc_lines_of_all kV_lines_of_all dc_lines_of_all pm_lines_of_all cd_lines_of_all ct_lines_of_all : Value}
    {f_Region_init : Addr} {od_Region_init an_Region_init : Option Addr} {sl_Region_init : Array (Option Value)} {oc_Region_init kV_Region_init dc_Region_init pm_Region_init cd_Region_init ct_Region_init : Value}
    {f_Region_holds : Addr} {od_Region_holds an_Region_holds : Option Addr} {sl_Region_holds : Array (Option Value)} {oc_Region_holds kV_Region_holds dc_Region_holds pm_Region_holds cd_Region_holds ct_Region_holds : Value}
    {f_Region_cells : Addr} {od_Region_cells an_Region_cells : Option Addr} {sl_Region_cells : Array (Option Value)} {oc_Region_cells kV_Region_cells dc_Region_cells pm_Region_cells cd_Region_cells ct_Region_cells : Value}
    {f_refuse_outside : Addr} {od_refuse_outside an_refuse_outside : Option Addr} {sl_refuse_outside : Array (Option Value)} {oc_refuse_outside kV_refuse_outside dc_refuse_outside pm_refuse_outside cd_refuse_outside ct_refuse_outside : Value}
    {f_levels : Addr} {od_levels an_levels : Option Addr} {sl_levels : Array (Option Value)} {oc_levels kV_levels dc_levels pm_levels cd_levels ct_levels : Value}
    {f_first_one_nearer : Addr} {od_first_one_nearer an_first_one_nearer : Option Addr} {sl_first_one_nearer : Array (Option Value)} {oc_first_one_nearer kV_first_one_nearer dc_first_one_nearer pm_first_one_nearer cd_first_one_nearer ct_first_one_nearer : Value}
    {f_way : Addr} {od_way an_way : Option Addr} {sl_way : Array (Option Value)} {oc_way kV_way dc_way pm_way cd_way ct_way : Value}
    {f_law_cell_at : Addr} {od_law_cell_at an_law_cell_at : Option Addr} {sl_law_cell_at : Array (Option Value)} {oc_law_cell_at kV_law_cell_at dc_law_cell_at pm_law_cell_at cd_law_cell_at ct_law_cell_at : Value}
    {f_law_whole : Addr} {od_law_whole an_law_whole : Option Addr} {sl_law_whole : Array (Option Value)} {oc_law_whole kV_law_whole dc_law_whole pm_law_whole cd_law_whole ct_law_whole : Value}
    {f_law_place_alike : Addr} {od_law_place_alike an_law_place_alike : Option Addr} {sl_law_place_alike : Array (Option Value)} {oc_law_place_alike kV_law_place_alike dc_law_place_alike pm_law_place_alike cd_law_place_alike ct_law_place_alike : Value}
    {f_law_step : Addr} {od_law_step an_law_step : Option Addr} {sl_law_step : Array (Option Value)} {oc_law_step kV_law_step dc_law_step pm_law_step cd_law_step ct_law_step : Value}
    {f_law_place : Addr} {od_law_place an_law_place : Option Addr} {sl_law_place : Array (Option Value)} {oc_law_place kV_law_place dc_law_place pm_law_place cd_law_place ct_law_place : Value}
    {f_law_lines : Addr} {od_law_lines an_law_lines : Option Addr} {sl_law_lines : Array (Option Value)} {oc_law_lines kV_law_lines dc_law_lines pm_law_lines cd_law_lines ct_law_lines : Value}
    {f_law_rows : Addr} {od_law_rows an_law_rows : Option Addr} {sl_law_rows : Array (Option Value)} {oc_law_rows kV_law_rows dc_law_rows pm_law_rows cd_law_rows ct_law_rows : Value}
    {f_law_all : Addr} {od_law_all an_law_all : Option Addr} {sl_law_all : Array (Option Value)} {oc_law_all kV_law_all dc_law_all pm_law_all cd_law_all ct_law_all : Value}
    {f_law_near : Addr} {od_law_near an_law_near : Option Addr} {sl_law_near : Array (Option Value)} {oc_law_near kV_law_near dc_law_near pm_law_near cd_law_near ct_law_near : Value}
    {f_law_levels : Addr} {od_law_levels an_law_levels : Option Addr} {sl_law_levels : Array (Option Value)} {oc_law_levels kV_law_levels dc_law_levels pm_law_levels cd_law_levels ct_law_levels : Value}
    {f_law_due : Addr} {od_law_due an_law_due : Option Addr} {sl_law_due : Array (Option Value)} {oc_law_due kV_law_due dc_law_due pm_law_due cd_law_due ct_law_due : Value}
    {f_law_tried : Addr} {od_law_tried an_law_tried : Option Addr} {sl_law_tried : Array (Option Value)} {oc_law_tried kV_law_tried dc_law_tried pm_law_tried cd_law_tried ct_law_tried : Value}
    {f_law : Addr} {od_law an_law : Option Addr} {sl_law : Array (Option Value)} {oc_law kV_law dc_law pm_law cd_law ct_law : Value}
    {a_MIDDLE : Addr} {oc_MIDDLE : Value} {od_MIDDLE : Option Addr} {its_MIDDLE : Array Value} {n_MIDDLE : Nat} {sl_MIDDLE : Array (Option Value)}
    {a_FIRST_STEP : Addr} {oc_FIRST_STEP : Value} {od_FIRST_STEP : Option Addr} {its_FIRST_STEP : Array Value} {n_FIRST_STEP : Nat} {sl_FIRST_STEP : Array (Option Value)}
    {a_DIRECTIONS : Addr} {oc_DIRECTIONS : Value} {od_DIRECTIONS : Option Addr} {its_DIRECTIONS : Array Value} {n_DIRECTIONS : Nat} {sl_DIRECTIONS : Array (Option Value)}
    {a_FIGURES : Addr} {oc_FIGURES : Value} {od_FIGURES : Option Addr} {its_FIGURES : Array Value} {n_FIGURES : Nat} {sl_FIGURES : Array (Option Value)}
    {a_FIGURE_BY_REMAINDER : Addr} {oc_FIGURE_BY_REMAINDER : Value} {od_FIGURE_BY_REMAINDER : Option Addr} {its_FIGURE_BY_REMAINDER : Array Value} {n_FIGURE_BY_REMAINDER : Nat} {sl_FIGURE_BY_REMAINDER : Array (Option Value)}
    {a_LEVELS : Addr} {oc_LEVELS : Value} {od_LEVELS : Option Addr} {its_LEVELS : Array Value} {n_LEVELS : Nat} {sl_LEVELS : Array (Option Value)}
    (ec_NoFigure : PySem.W.nsIn K mainGlobals "NoFigure" = some (some (.ref c_NoFigure)))
    (ec_FloorError : PySem.W.nsIn K mainGlobals "FloorError" = some (some (.ref c_FloorError)))
    (ec_NoCell : PySem.W.nsIn K mainGlobals "NoCell" = some (some (.ref c_NoCell)))
    (ec_NoLevel : PySem.W.nsIn K mainGlobals "NoLevel" = some (some (.ref c_NoLevel)))
    (ec_Apart : PySem.W.nsIn K mainGlobals "Apart" = some (some (.ref c_Apart)))
    (ec_Region : PySem.W.nsIn K mainGlobals "Region" = some (some (.ref c_Region)))
    (e_added : PySem.W.nsIn K mainGlobals "added" = some (some (.ref f_added)))
    (l_added : K.lookup f_added = some ⟨oc_added, od_added, .func (PySem.W.fnOf "added" "added" (defArgs s_added) (defBody s_added) (defScope s_added) .none kV_added dc_added pm_added an_added cd_added ct_added), sl_added⟩)
    (q_added : PySem.W.codeIn K cd_added "added" = true)
    (p_added : PySem.W.keepIn K (.ref f_added) = true)
    (e_taken : PySem.W.nsIn K mainGlobals "taken" = some (some (.ref f_taken)))
    (l_taken : K.lookup f_taken = some ⟨oc_taken, od_taken, .func (PySem.W.fnOf "taken" "taken" (defArgs s_taken) (defBody s_taken) (defScope s_taken) .none kV_taken dc_taken pm_taken an_taken cd_taken ct_taken), sl_taken⟩)
    (q_taken : PySem.W.codeIn K cd_taken "taken" = true)
    (p_taken : PySem.W.keepIn K (.ref f_taken) = true)
    (e_turned : PySem.W.nsIn K mainGlobals "turned" = some (some (.ref f_turned)))
    (l_turned : K.lookup f_turned = some ⟨oc_turned, od_turned, .func (PySem.W.fnOf "turned" "turned" (defArgs s_turned) (defBody s_turned) (defScope s_turned) .none kV_turned dc_turned pm_turned an_turned cd_turned ct_turned), sl_turned⟩)
    (q_turned : PySem.W.codeIn K cd_turned "turned" = true)
    (p_turned : PySem.W.keepIn K (.ref f_turned) = true)
    (e_step : PySem.W.nsIn K mainGlobals "step" = some (some (.ref f_step)))
    (l_step : K.lookup f_step = some ⟨oc_step, od_step, .func (PySem.W.fnOf "step" "step" (defArgs s_step) (defBody s_step) (defScope s_step) .none kV_step dc_step pm_step an_step cd_step ct_step), sl_step⟩)
    (q_step : PySem.W.codeIn K cd_step "step" = true)
    (p_step : PySem.W.keepIn K (.ref f_step) = true)
    (e_neighbours : PySem.W.nsIn K mainGlobals "neighbours" = some (some (.ref f_neighbours)))
    (l_neighbours : K.lookup f_neighbours = some ⟨oc_neighbours, od_neighbours, .func (PySem.W.fnOf "neighbours" "neighbours" (defArgs s_neighbours) (defBody s_neighbours) (defScope s_neighbours) .none kV_neighbours dc_neighbours pm_neighbours an_neighbours cd_neighbours ct_neighbours), sl_neighbours⟩)
    (q_neighbours : PySem.W.codeIn K cd_neighbours "neighbours" = true)
    (p_neighbours : PySem.W.keepIn K (.ref f_neighbours) = true)
    (e_great : PySem.W.nsIn K mainGlobals "great" = some (some (.ref f_great)))
    (l_great : K.lookup f_great = some ⟨oc_great, od_great, .func (PySem.W.fnOf "great" "great" (defArgs s_great) (defBody s_great) (defScope s_great) .none kV_great dc_great pm_great an_great cd_great ct_great), sl_great⟩)
    (q_great : PySem.W.codeIn K cd_great "great" = true)
    (p_great : PySem.W.keepIn K (.ref f_great) = true)
    (e_rest : PySem.W.nsIn K mainGlobals "rest" = some (some (.ref f_rest)))
    (l_rest : K.lookup f_rest = some ⟨oc_rest, od_rest, .func (PySem.W.fnOf "rest" "rest" (defArgs s_rest) (defBody s_rest) (defScope s_rest) .none kV_rest dc_rest pm_rest an_rest cd_rest ct_rest), sl_rest⟩)
    (q_rest : PySem.W.codeIn K cd_rest "rest" = true)
    (p_rest : PySem.W.keepIn K (.ref f_rest) = true)
    (e_place_of_rest : PySem.W.nsIn K mainGlobals "place_of_rest" = some (some (.ref f_place_of_rest)))
    (l_place_of_rest : K.lookup f_place_of_rest = some ⟨oc_place_of_rest, od_place_of_rest, .func (PySem.W.fnOf "place_of_rest" "place_of_rest" (defArgs s_place_of_rest) (defBody s_place_of_rest) (defScope s_place_of_rest) .none kV_place_of_rest dc_place_of_rest pm_place_of_rest an_place_of_rest cd_place_of_rest ct_place_of_rest), sl_place_of_rest⟩)
    (q_place_of_rest : PySem.W.codeIn K cd_place_of_rest "place_of_rest" = true)
    (p_place_of_rest : PySem.W.keepIn K (.ref f_place_of_rest) = true)
    (e_centre : PySem.W.nsIn K mainGlobals "centre" = some (some (.ref f_centre)))
    (l_centre : K.lookup f_centre = some ⟨oc_centre, od_centre, .func (PySem.W.fnOf "centre" "centre" (defArgs s_centre) (defBody s_centre) (defScope s_centre) .none kV_centre dc_centre pm_centre an_centre cd_centre ct_centre), sl_centre⟩)
    (q_centre : PySem.W.codeIn K cd_centre "centre" = true)
    (p_centre : PySem.W.keepIn K (.ref f_centre) = true)
    (e_address : PySem.W.nsIn K mainGlobals "address" = some (some (.ref f_address)))
    (l_address : K.lookup f_address = some ⟨oc_address, od_address, .func (PySem.W.fnOf "address" "address" (defArgs s_address) (defBody s_address) (defScope s_address) .none kV_address dc_address pm_address an_address cd_address ct_address), sl_address⟩)
    (q_address : PySem.W.codeIn K cd_address "address" = true)
    (p_address : PySem.W.keepIn K (.ref f_address) = true)
    (e_place_of : PySem.W.nsIn K mainGlobals "place_of" = some (some (.ref f_place_of)))
    (l_place_of : K.lookup f_place_of = some ⟨oc_place_of, od_place_of, .func (PySem.W.fnOf "place_of" "place_of" (defArgs s_place_of) (defBody s_place_of) (defScope s_place_of) .none kV_place_of dc_place_of pm_place_of an_place_of cd_place_of ct_place_of), sl_place_of⟩)
    (q_place_of : PySem.W.codeIn K cd_place_of "place_of" = true)
    (p_place_of : PySem.W.keepIn K (.ref f_place_of) = true)
    (e_refuse_no_level : PySem.W.nsIn K mainGlobals "refuse_no_level" = some (some (.ref f_refuse_no_level)))
    (l_refuse_no_level : K.lookup f_refuse_no_level = some ⟨oc_refuse_no_level, od_refuse_no_level, .func (PySem.W.fnOf "refuse_no_level" "refuse_no_level" (defArgs s_refuse_no_level) (defBody s_refuse_no_level) (defScope s_refuse_no_level) .none kV_refuse_no_level dc_refuse_no_level pm_refuse_no_level an_refuse_no_level cd_refuse_no_level ct_refuse_no_level), sl_refuse_no_level⟩)
    (q_refuse_no_level : PySem.W.codeIn K cd_refuse_no_level "refuse_no_level" = true)
    (p_refuse_no_level : PySem.W.keepIn K (.ref f_refuse_no_level) = true)
    (e_refuse_no_figures : PySem.W.nsIn K mainGlobals "refuse_no_figures" = some (some (.ref f_refuse_no_figures)))
    (l_refuse_no_figures : K.lookup f_refuse_no_figures = some ⟨oc_refuse_no_figures, od_refuse_no_figures, .func (PySem.W.fnOf "refuse_no_figures" "refuse_no_figures" (defArgs s_refuse_no_figures) (defBody s_refuse_no_figures) (defScope s_refuse_no_figures) .none kV_refuse_no_figures dc_refuse_no_figures pm_refuse_no_figures an_refuse_no_figures cd_refuse_no_figures ct_refuse_no_figures), sl_refuse_no_figures⟩)
    (q_refuse_no_figures : PySem.W.codeIn K cd_refuse_no_figures "refuse_no_figures" = true)
    (p_refuse_no_figures : PySem.W.keepIn K (.ref f_refuse_no_figures) = true)
    (e_refuse_too_long : PySem.W.nsIn K mainGlobals "refuse_too_long" = some (some (.ref f_refuse_too_long)))
    (l_refuse_too_long : K.lookup f_refuse_too_long = some ⟨oc_refuse_too_long, od_refuse_too_long, .func (PySem.W.fnOf "refuse_too_long" "refuse_too_long" (defArgs s_refuse_too_long) (defBody s_refuse_too_long) (defScope s_refuse_too_long) .none kV_refuse_too_long dc_refuse_too_long pm_refuse_too_long an_refuse_too_long cd_refuse_too_long ct_refuse_too_long), sl_refuse_too_long⟩)
    (q_refuse_too_long : PySem.W.codeIn K cd_refuse_too_long "refuse_too_long" = true)
    (p_refuse_too_long : PySem.W.keepIn K (.ref f_refuse_too_long) = true)
    (e_line_of : PySem.W.nsIn K mainGlobals "line_of" = some (some (.ref f_line_of)))
    (l_line_of : K.lookup f_line_of = some ⟨oc_line_of, od_line_of, .func (PySem.W.fnOf "line_of" "line_of" (defArgs s_line_of) (defBody s_line_of) (defScope s_line_of) .none kV_line_of dc_line_of pm_line_of an_line_of cd_line_of ct_line_of), sl_line_of⟩)
    (q_line_of : PySem.W.codeIn K cd_line_of "line_of" = true)
    (p_line_of : PySem.W.keepIn K (.ref f_line_of) = true)
    (e_one_figure_longer : PySem.W.nsIn K mainGlobals "one_figure_longer" = some (some (.ref f_one_figure_longer)))
    (l_one_figure_longer : K.lookup f_one_figure_longer = some ⟨oc_one_figure_longer, od_one_figure_longer, .func (PySem.W.fnOf "one_figure_longer" "one_figure_longer" (defArgs s_one_figure_longer) (defBody s_one_figure_longer) (defScope s_one_figure_longer) .none kV_one_figure_longer dc_one_figure_longer pm_one_figure_longer an_one_figure_longer cd_one_figure_longer ct_one_figure_longer), sl_one_figure_longer⟩)
    (q_one_figure_longer : PySem.W.codeIn K cd_one_figure_longer "one_figure_longer" = true)
    (p_one_figure_longer : PySem.W.keepIn K (.ref f_one_figure_longer) = true)
    (e_lines_of : PySem.W.nsIn K mainGlobals "lines_of" = some (some (.ref f_lines_of)))
    (l_lines_of : K.lookup f_lines_of = some ⟨oc_lines_of, od_lines_of, .func (PySem.W.fnOf "lines_of" "lines_of" (defArgs s_lines_of) (defBody s_lines_of) (defScope s_lines_of) .none kV_lines_of dc_lines_of pm_lines_of an_lines_of cd_lines_of ct_lines_of), sl_lines_of⟩)
    (q_lines_of : PySem.W.codeIn K cd_lines_of "lines_of" = true)
    (p_lines_of : PySem.W.keepIn K (.ref f_lines_of) = true)
    (e_lines_of_all : PySem.W.nsIn K mainGlobals "lines_of_all" = some (some (.ref f_lines_of_all)))
    (l_lines_of_all : K.lookup f_lines_of_all = some ⟨oc_lines_of_all, od_lines_of_all, .func (PySem.W.fnOf "lines_of_all" "lines_of_all" (defArgs s_lines_of_all) (defBody s_lines_of_all) (defScope s_lines_of_all) .none kV_lines_of_all dc_lines_of_all pm_lines_of_all an_lines_of_all cd_lines_of_all ct_lines_of_all), sl_lines_of_all⟩)
    (q_lines_of_all : PySem.W.codeIn K cd_lines_of_all "lines_of_all" = true)
    (p_lines_of_all : PySem.W.keepIn K (.ref f_lines_of_all) = true)
    (e_Region_init : PySem.W.findIn K (.ref c_Region) "__init__" = some (some (.ref f_Region_init)))
    (i_Region_init : PySem.W.isFn K (.ref f_Region_init) = true)
    (l_Region_init : K.lookup f_Region_init = some ⟨oc_Region_init, od_Region_init, .func (PySem.W.fnOf "__init__" "Region.__init__" (defArgs s_Region_init) (defBody s_Region_init) (defScope s_Region_init) .none kV_Region_init dc_Region_init pm_Region_init an_Region_init cd_Region_init ct_Region_init), sl_Region_init⟩)
    (q_Region_init : PySem.W.codeIn K cd_Region_init "Region.__init__" = true)
    (p_Region_init : PySem.W.keepIn K (.ref f_Region_init) = true)
    (e_Region_holds : PySem.W.findIn K (.ref c_Region) "holds" = some (some (.ref f_Region_holds)))
    (i_Region_holds : PySem.W.isFn K (.ref f_Region_holds) = true)
    (l_Region_holds : K.lookup f_Region_holds = some ⟨oc_Region_holds, od_Region_holds, .func (PySem.W.fnOf "holds" "Region.holds" (defArgs s_Region_holds) (defBody s_Region_holds) (defScope s_Region_holds) .none kV_Region_holds dc_Region_holds pm_Region_holds an_Region_holds cd_Region_holds ct_Region_holds), sl_Region_holds⟩)
    (q_Region_holds : PySem.W.codeIn K cd_Region_holds "Region.holds" = true)
    (p_Region_holds : PySem.W.keepIn K (.ref f_Region_holds) = true)
    (e_Region_cells : PySem.W.findIn K (.ref c_Region) "cells" = some (some (.ref f_Region_cells)))
    (i_Region_cells : PySem.W.isFn K (.ref f_Region_cells) = true)
    (l_Region_cells : K.lookup f_Region_cells = some ⟨oc_Region_cells, od_Region_cells, .func (PySem.W.fnOf "cells" "Region.cells" (defArgs s_Region_cells) (defBody s_Region_cells) (defScope s_Region_cells) .none kV_Region_cells dc_Region_cells pm_Region_cells an_Region_cells cd_Region_cells ct_Region_cells), sl_Region_cells⟩)
    (q_Region_cells : PySem.W.codeIn K cd_Region_cells "Region.cells" = true)
    (p_Region_cells : PySem.W.keepIn K (.ref f_Region_cells) = true)
    (e_refuse_outside : PySem.W.nsIn K mainGlobals "refuse_outside" = some (some (.ref f_refuse_outside)))
    (l_refuse_outside : K.lookup f_refuse_outside = some ⟨oc_refuse_outside, od_refuse_outside, .func (PySem.W.fnOf "refuse_outside" "refuse_outside" (defArgs s_refuse_outside) (defBody s_refuse_outside) (defScope s_refuse_outside) .none kV_refuse_outside dc_refuse_outside pm_refuse_outside an_refuse_outside cd_refuse_outside ct_refuse_outside), sl_refuse_outside⟩)
    (q_refuse_outside : PySem.W.codeIn K cd_refuse_outside "refuse_outside" = true)
    (p_refuse_outside : PySem.W.keepIn K (.ref f_refuse_outside) = true)
    (e_levels : PySem.W.nsIn K mainGlobals "levels" = some (some (.ref f_levels)))
    (l_levels : K.lookup f_levels = some ⟨oc_levels, od_levels, .func (PySem.W.fnOf "levels" "levels" (defArgs s_levels) (defBody s_levels) (defScope s_levels) .none kV_levels dc_levels pm_levels an_levels cd_levels ct_levels), sl_levels⟩)
    (q_levels : PySem.W.codeIn K cd_levels "levels" = true)
    (p_levels : PySem.W.keepIn K (.ref f_levels) = true)
    (e_first_one_nearer : PySem.W.nsIn K mainGlobals "first_one_nearer" = some (some (.ref f_first_one_nearer)))
    (l_first_one_nearer : K.lookup f_first_one_nearer = some ⟨oc_first_one_nearer, od_first_one_nearer, .func (PySem.W.fnOf "first_one_nearer" "first_one_nearer" (defArgs s_first_one_nearer) (defBody s_first_one_nearer) (defScope s_first_one_nearer) .none kV_first_one_nearer dc_first_one_nearer pm_first_one_nearer an_first_one_nearer cd_first_one_nearer ct_first_one_nearer), sl_first_one_nearer⟩)
    (q_first_one_nearer : PySem.W.codeIn K cd_first_one_nearer "first_one_nearer" = true)
    (p_first_one_nearer : PySem.W.keepIn K (.ref f_first_one_nearer) = true)
    (e_way : PySem.W.nsIn K mainGlobals "way" = some (some (.ref f_way)))
    (l_way : K.lookup f_way = some ⟨oc_way, od_way, .func (PySem.W.fnOf "way" "way" (defArgs s_way) (defBody s_way) (defScope s_way) .none kV_way dc_way pm_way an_way cd_way ct_way), sl_way⟩)
    (q_way : PySem.W.codeIn K cd_way "way" = true)
    (p_way : PySem.W.keepIn K (.ref f_way) = true)
    (e_law_cell_at : PySem.W.nsIn K mainGlobals "_law_cell_at" = some (some (.ref f_law_cell_at)))
    (l_law_cell_at : K.lookup f_law_cell_at = some ⟨oc_law_cell_at, od_law_cell_at, .func (PySem.W.fnOf "_law_cell_at" "_law_cell_at" (defArgs s_law_cell_at) (defBody s_law_cell_at) (defScope s_law_cell_at) .none kV_law_cell_at dc_law_cell_at pm_law_cell_at an_law_cell_at cd_law_cell_at ct_law_cell_at), sl_law_cell_at⟩)
    (q_law_cell_at : PySem.W.codeIn K cd_law_cell_at "_law_cell_at" = true)
    (p_law_cell_at : PySem.W.keepIn K (.ref f_law_cell_at) = true)
    (e_law_whole : PySem.W.nsIn K mainGlobals "_law_whole" = some (some (.ref f_law_whole)))
    (l_law_whole : K.lookup f_law_whole = some ⟨oc_law_whole, od_law_whole, .func (PySem.W.fnOf "_law_whole" "_law_whole" (defArgs s_law_whole) (defBody s_law_whole) (defScope s_law_whole) .none kV_law_whole dc_law_whole pm_law_whole an_law_whole cd_law_whole ct_law_whole), sl_law_whole⟩)
    (q_law_whole : PySem.W.codeIn K cd_law_whole "_law_whole" = true)
    (p_law_whole : PySem.W.keepIn K (.ref f_law_whole) = true)
    (e_law_place_alike : PySem.W.nsIn K mainGlobals "_law_place_alike" = some (some (.ref f_law_place_alike)))
    (l_law_place_alike : K.lookup f_law_place_alike = some ⟨oc_law_place_alike, od_law_place_alike, .func (PySem.W.fnOf "_law_place_alike" "_law_place_alike" (defArgs s_law_place_alike) (defBody s_law_place_alike) (defScope s_law_place_alike) .none kV_law_place_alike dc_law_place_alike pm_law_place_alike an_law_place_alike cd_law_place_alike ct_law_place_alike), sl_law_place_alike⟩)
    (q_law_place_alike : PySem.W.codeIn K cd_law_place_alike "_law_place_alike" = true)
    (p_law_place_alike : PySem.W.keepIn K (.ref f_law_place_alike) = true)
    (e_law_step : PySem.W.nsIn K mainGlobals "_law_step" = some (some (.ref f_law_step)))
    (l_law_step : K.lookup f_law_step = some ⟨oc_law_step, od_law_step, .func (PySem.W.fnOf "_law_step" "_law_step" (defArgs s_law_step) (defBody s_law_step) (defScope s_law_step) .none kV_law_step dc_law_step pm_law_step an_law_step cd_law_step ct_law_step), sl_law_step⟩)
    (q_law_step : PySem.W.codeIn K cd_law_step "_law_step" = true)
    (p_law_step : PySem.W.keepIn K (.ref f_law_step) = true)
    (e_law_place : PySem.W.nsIn K mainGlobals "_law_place" = some (some (.ref f_law_place)))
    (l_law_place : K.lookup f_law_place = some ⟨oc_law_place, od_law_place, .func (PySem.W.fnOf "_law_place" "_law_place" (defArgs s_law_place) (defBody s_law_place) (defScope s_law_place) .none kV_law_place dc_law_place pm_law_place an_law_place cd_law_place ct_law_place), sl_law_place⟩)
    (q_law_place : PySem.W.codeIn K cd_law_place "_law_place" = true)
    (p_law_place : PySem.W.keepIn K (.ref f_law_place) = true)
    (e_law_lines : PySem.W.nsIn K mainGlobals "_law_lines" = some (some (.ref f_law_lines)))
    (l_law_lines : K.lookup f_law_lines = some ⟨oc_law_lines, od_law_lines, .func (PySem.W.fnOf "_law_lines" "_law_lines" (defArgs s_law_lines) (defBody s_law_lines) (defScope s_law_lines) .none kV_law_lines dc_law_lines pm_law_lines an_law_lines cd_law_lines ct_law_lines), sl_law_lines⟩)
    (q_law_lines : PySem.W.codeIn K cd_law_lines "_law_lines" = true)
    (p_law_lines : PySem.W.keepIn K (.ref f_law_lines) = true)
    (e_law_rows : PySem.W.nsIn K mainGlobals "_law_rows" = some (some (.ref f_law_rows)))
    (l_law_rows : K.lookup f_law_rows = some ⟨oc_law_rows, od_law_rows, .func (PySem.W.fnOf "_law_rows" "_law_rows" (defArgs s_law_rows) (defBody s_law_rows) (defScope s_law_rows) .none kV_law_rows dc_law_rows pm_law_rows an_law_rows cd_law_rows ct_law_rows), sl_law_rows⟩)
    (q_law_rows : PySem.W.codeIn K cd_law_rows "_law_rows" = true)
    (p_law_rows : PySem.W.keepIn K (.ref f_law_rows) = true)
    (e_law_all : PySem.W.nsIn K mainGlobals "_law_all" = some (some (.ref f_law_all)))
    (l_law_all : K.lookup f_law_all = some ⟨oc_law_all, od_law_all, .func (PySem.W.fnOf "_law_all" "_law_all" (defArgs s_law_all) (defBody s_law_all) (defScope s_law_all) .none kV_law_all dc_law_all pm_law_all an_law_all cd_law_all ct_law_all), sl_law_all⟩)
    (q_law_all : PySem.W.codeIn K cd_law_all "_law_all" = true)
    (p_law_all : PySem.W.keepIn K (.ref f_law_all) = true)
    (e_law_near : PySem.W.nsIn K mainGlobals "_law_near" = some (some (.ref f_law_near)))
    (l_law_near : K.lookup f_law_near = some ⟨oc_law_near, od_law_near, .func (PySem.W.fnOf "_law_near" "_law_near" (defArgs s_law_near) (defBody s_law_near) (defScope s_law_near) .none kV_law_near dc_law_near pm_law_near an_law_near cd_law_near ct_law_near), sl_law_near⟩)
    (q_law_near : PySem.W.codeIn K cd_law_near "_law_near" = true)
    (p_law_near : PySem.W.keepIn K (.ref f_law_near) = true)
    (e_law_levels : PySem.W.nsIn K mainGlobals "_law_levels" = some (some (.ref f_law_levels)))
    (l_law_levels : K.lookup f_law_levels = some ⟨oc_law_levels, od_law_levels, .func (PySem.W.fnOf "_law_levels" "_law_levels" (defArgs s_law_levels) (defBody s_law_levels) (defScope s_law_levels) .none kV_law_levels dc_law_levels pm_law_levels an_law_levels cd_law_levels ct_law_levels), sl_law_levels⟩)
    (q_law_levels : PySem.W.codeIn K cd_law_levels "_law_levels" = true)
    (p_law_levels : PySem.W.keepIn K (.ref f_law_levels) = true)
    (e_law_due : PySem.W.nsIn K mainGlobals "_law_due" = some (some (.ref f_law_due)))
    (l_law_due : K.lookup f_law_due = some ⟨oc_law_due, od_law_due, .func (PySem.W.fnOf "_law_due" "_law_due" (defArgs s_law_due) (defBody s_law_due) (defScope s_law_due) .none kV_law_due dc_law_due pm_law_due an_law_due cd_law_due ct_law_due), sl_law_due⟩)
    (q_law_due : PySem.W.codeIn K cd_law_due "_law_due" = true)
    (p_law_due : PySem.W.keepIn K (.ref f_law_due) = true)
    (e_law_tried : PySem.W.nsIn K mainGlobals "_law_tried" = some (some (.ref f_law_tried)))
    (l_law_tried : K.lookup f_law_tried = some ⟨oc_law_tried, od_law_tried, .func (PySem.W.fnOf "_law_tried" "_law_tried" (defArgs s_law_tried) (defBody s_law_tried) (defScope s_law_tried) .none kV_law_tried dc_law_tried pm_law_tried an_law_tried cd_law_tried ct_law_tried), sl_law_tried⟩)
    (q_law_tried : PySem.W.codeIn K cd_law_tried "_law_tried" = true)
    (p_law_tried : PySem.W.keepIn K (.ref f_law_tried) = true)
    (e_law : PySem.W.nsIn K mainGlobals "law" = some (some (.ref f_law)))
    (l_law : K.lookup f_law = some ⟨oc_law, od_law, .func (PySem.W.fnOf "law" "law" (defArgs s_law) (defBody s_law) (defScope s_law) .none kV_law dc_law pm_law an_law cd_law ct_law), sl_law⟩)
    (q_law : PySem.W.codeIn K cd_law "law" = true)
    (p_law : PySem.W.keepIn K (.ref f_law) = true)
    (eg_MIDDLE : PySem.W.nsIn K mainGlobals "MIDDLE" = some (some (.ref a_MIDDLE)))
    (lg_MIDDLE : K.lookup a_MIDDLE = some ⟨oc_MIDDLE, od_MIDDLE, .seq its_MIDDLE n_MIDDLE, sl_MIDDLE⟩)
    (hc_MIDDLE : oc_MIDDLE = .type "tuple")
    (hz_MIDDLE : its_MIDDLE.toList.length ≤ 1000)
    (hv_MIDDLE : relAll its_MIDDLE.toList = some [.int 0, .int 0])
    (eg_FIRST_STEP : PySem.W.nsIn K mainGlobals "FIRST_STEP" = some (some (.ref a_FIRST_STEP)))
    (lg_FIRST_STEP : K.lookup a_FIRST_STEP = some ⟨oc_FIRST_STEP, od_FIRST_STEP, .seq its_FIRST_STEP n_FIRST_STEP, sl_FIRST_STEP⟩)
    (hc_FIRST_STEP : oc_FIRST_STEP = .type "tuple")
    (hz_FIRST_STEP : its_FIRST_STEP.toList.length ≤ 1000)
    (hv_FIRST_STEP : relAll its_FIRST_STEP.toList = some [.int 1, .int 0])
    (eg_DIRECTIONS : PySem.W.nsIn K mainGlobals "DIRECTIONS" = some (some (.ref a_DIRECTIONS)))
    (lg_DIRECTIONS : K.lookup a_DIRECTIONS = some ⟨oc_DIRECTIONS, od_DIRECTIONS, .seq its_DIRECTIONS n_DIRECTIONS, sl_DIRECTIONS⟩)
    (hc_DIRECTIONS : oc_DIRECTIONS = .type "tuple")
    (hz_DIRECTIONS : its_DIRECTIONS.toList.length ≤ 1000)
    (hv_DIRECTIONS : relAll its_DIRECTIONS.toList = some [.int 1, .int 2, .int 3, .int 4, .int 5, .int 6])
    (eg_FIGURES : PySem.W.nsIn K mainGlobals "FIGURES" = some (some (.ref a_FIGURES)))
    (lg_FIGURES : K.lookup a_FIGURES = some ⟨oc_FIGURES, od_FIGURES, .seq its_FIGURES n_FIGURES, sl_FIGURES⟩)
    (hc_FIGURES : oc_FIGURES = .type "tuple")
    (hz_FIGURES : its_FIGURES.toList.length ≤ 1000)
    (hv_FIGURES : relAll its_FIGURES.toList = some [.int 0, .int 1, .int 2, .int 3, .int 4, .int 5, .int 6])
    (eg_FIGURE_BY_REMAINDER : PySem.W.nsIn K mainGlobals "FIGURE_BY_REMAINDER" = some (some (.ref a_FIGURE_BY_REMAINDER)))
    (lg_FIGURE_BY_REMAINDER : K.lookup a_FIGURE_BY_REMAINDER = some ⟨oc_FIGURE_BY_REMAINDER, od_FIGURE_BY_REMAINDER, .seq its_FIGURE_BY_REMAINDER n_FIGURE_BY_REMAINDER, sl_FIGURE_BY_REMAINDER⟩)
    (hc_FIGURE_BY_REMAINDER : oc_FIGURE_BY_REMAINDER = .type "tuple")
    (hz_FIGURE_BY_REMAINDER : its_FIGURE_BY_REMAINDER.toList.length ≤ 1000)
    (hv_FIGURE_BY_REMAINDER : relAll its_FIGURE_BY_REMAINDER.toList = some [.int 0, .int 1, .int 5, .int 6, .int 3, .int 2, .int 4])
    (eg_LEVELS : PySem.W.nsIn K mainGlobals "LEVELS" = some (some (.ref a_LEVELS)))
    (lg_LEVELS : K.lookup a_LEVELS = some ⟨oc_LEVELS, od_LEVELS, .seq its_LEVELS n_LEVELS, sl_LEVELS⟩)
    (hc_LEVELS : oc_LEVELS = .type "tuple")
    (hz_LEVELS : its_LEVELS.toList.length ≤ 1000)
    (hv_LEVELS : relAll its_LEVELS.toList = some [.int 0, .int 1, .int 2, .int 3, .int 4])
    (b_len : PySem.W.nsIn K mainGlobals "len" = some none)
    (b_isinstance : PySem.W.nsIn K mainGlobals "isinstance" = some none)
    (b_range : PySem.W.nsIn K mainGlobals "range" = some none)
    (b_tuple : PySem.W.nsIn K mainGlobals "tuple" = some none)
    (b_list : PySem.W.nsIn K mainGlobals "list" = some none)
    (b_max : PySem.W.nsIn K mainGlobals "max" = some none)
    (b_sorted : PySem.W.nsIn K mainGlobals "sorted" = some none)
    (b_int : PySem.W.nsIn K mainGlobals "int" = some none)
    (b_bool : PySem.W.nsIn K mainGlobals "bool" = some none)
    (xc_NoLevel : PySem.W.excIn K c_NoLevel vmro "ValueError.__new__" = true)
    (ga_NoLevel : PySem.W.findIn K (.ref c_NoLevel) "__getattribute__" = some (some (.builtin "BaseException.__getattribute__")))
    (gt_NoLevel : PySem.W.findIn K (.ref c_NoLevel) "__getattr__" = some none)
    (cl_NoLevel : PySem.W.findIn K (.ref c_NoLevel) "__class__" = some (some (.builtin "object.__class__")))
    (ob_NoLevel : PySem.W.mroIn K c_NoLevel (.type "object") = some true)
    (be_NoLevel : PySem.W.mroIn K c_NoLevel (.type "BaseException") = some true)
    (cs_NoLevel : PySem.W.clsIn K c_NoLevel = some cd_NoLevel)
    (xc_NoFigure : PySem.W.excIn K c_NoFigure vmro "ValueError.__new__" = true)
    (ga_NoFigure : PySem.W.findIn K (.ref c_NoFigure) "__getattribute__" = some (some (.builtin "BaseException.__getattribute__")))
    (gt_NoFigure : PySem.W.findIn K (.ref c_NoFigure) "__getattr__" = some none)
    (cl_NoFigure : PySem.W.findIn K (.ref c_NoFigure) "__class__" = some (some (.builtin "object.__class__")))
    (ob_NoFigure : PySem.W.mroIn K c_NoFigure (.type "object") = some true)
    (be_NoFigure : PySem.W.mroIn K c_NoFigure (.type "BaseException") = some true)
    (cs_NoFigure : PySem.W.clsIn K c_NoFigure = some cd_NoFigure)
    (xc_NoCell : PySem.W.excIn K c_NoCell vmro "ValueError.__new__" = true)
    (ga_NoCell : PySem.W.findIn K (.ref c_NoCell) "__getattribute__" = some (some (.builtin "BaseException.__getattribute__")))
    (gt_NoCell : PySem.W.findIn K (.ref c_NoCell) "__getattr__" = some none)
    (cl_NoCell : PySem.W.findIn K (.ref c_NoCell) "__class__" = some (some (.builtin "object.__class__")))
    (ob_NoCell : PySem.W.mroIn K c_NoCell (.type "object") = some true)
    (be_NoCell : PySem.W.mroIn K c_NoCell (.type "BaseException") = some true)
    (cs_NoCell : PySem.W.clsIn K c_NoCell = some cd_NoCell)
    (xc_Apart : PySem.W.excIn K c_Apart vmro "ValueError.__new__" = true)
    (ga_Apart : PySem.W.findIn K (.ref c_Apart) "__getattribute__" = some (some (.builtin "BaseException.__getattribute__")))
    (gt_Apart : PySem.W.findIn K (.ref c_Apart) "__getattr__" = some none)
    (cl_Apart : PySem.W.findIn K (.ref c_Apart) "__class__" = some (some (.builtin "object.__class__")))
    (ob_Apart : PySem.W.mroIn K c_Apart (.type "object") = some true)
    (be_Apart : PySem.W.mroIn K c_Apart (.type "BaseException") = some true)
    (cs_Apart : PySem.W.clsIn K c_Apart = some cd_Apart)
    (sb_NoCell_FloorError : PySem.W.mroIn K c_NoCell (.ref c_FloorError) = some true)
    (sbe_NoCell_FloorError : PySem.W.mroIn K c_FloorError (.type "BaseException") = some true)
    (scs_NoCell_FloorError : PySem.W.clsIn K c_FloorError = some cd_NoCell_FloorError)
    (sty_NoCell_FloorError : PySem.W.typeIn K (.ref c_FloorError) = some (.type "type"))
    (sb_Apart_FloorError : PySem.W.mroIn K c_Apart (.ref c_FloorError) = some true)
    (sbe_Apart_FloorError : PySem.W.mroIn K c_FloorError (.type "BaseException") = some true)
    (scs_Apart_FloorError : PySem.W.clsIn K c_FloorError = some cd_Apart_FloorError)
    (sty_Apart_FloorError : PySem.W.typeIn K (.ref c_FloorError) = some (.type "type"))
    (ki_NoCell_Apart : PySem.W.kitOne K (.ref c_NoCell) (.ref c_Apart) = some false)
    (ki_NoCell_NoCell : PySem.W.kitOne K (.ref c_NoCell) (.ref c_NoCell) = some true)
    (ki_NoCell_NoFigure : PySem.W.kitOne K (.ref c_NoCell) (.ref c_NoFigure) = some false)
    (ki_NoCell_NoLevel : PySem.W.kitOne K (.ref c_NoCell) (.ref c_NoLevel) = some false)
    (ki_Apart_Apart : PySem.W.kitOne K (.ref c_Apart) (.ref c_Apart) = some true)
    (ki_Apart_NoCell : PySem.W.kitOne K (.ref c_Apart) (.ref c_NoCell) = some false)
    (ki_Apart_NoFigure : PySem.W.kitOne K (.ref c_Apart) (.ref c_NoFigure) = some false)
    (ki_Apart_NoLevel : PySem.W.kitOne K (.ref c_Apart) (.ref c_NoLevel) = some false)
    (mk_Region : PySem.W.makesIn K c_Region = true)
    (kc_Region : PySem.W.keepIn K (.ref c_Region) = true)
    (pg_Region : PySem.W.plainGet K c_Region Str.empty = true)
    (hd_Region : PySem.W.hasDictIn K c_Region = true)
    (po_Region : PySem.W.plainOver K c_Region = true)
    (sa_Region : PySem.W.findIn K (.ref c_Region) "__setattr__" = some (some (.builtin "object.__setattr__")))
    (na_Region_level : PySem.W.findIn K (.ref c_Region) "level" = some none)
    (na_Region_lines : PySem.W.findIn K (.ref c_Region) "lines" = some none)
    : ∃ t : Adr, Txt K mg t ∧ t.f_law = f_law ∧ t.x_law = PySem.W.fnOf "law" "law" (defArgs s_law) (defBody s_law) (defScope s_law) .none kV_law dc_law pm_law an_law cd_law ct_law := by
  exact ⟨⟨f_added, PySem.W.fnOf "added" "added" (defArgs s_added) (defBody s_added) (defScope s_added) .none kV_added dc_added pm_added an_added cd_added ct_added, f_taken, PySem.W.fnOf "taken" "taken" (defArgs s_taken) (defBody s_taken) (defScope s_taken) .none kV_taken dc_taken pm_taken an_taken cd_taken ct_taken, f_turned, PySem.W.fnOf "turned" "turned" (defArgs s_turned) (defBody s_turned) (defScope s_turned) .none kV_turned dc_turned pm_turned an_turned cd_turned ct_turned, f_step, PySem.W.fnOf "step" "step" (defArgs s_step) (defBody s_step) (defScope s_step) .none kV_step dc_step pm_step an_step cd_step ct_step, f_neighbours, PySem.W.fnOf "neighbours" "neighbours" (defArgs s_neighbours) (defBody s_neighbours) (defScope s_neighbours) .none kV_neighbours dc_neighbours pm_neighbours an_neighbours cd_neighbours ct_neighbours, f_great, PySem.W.fnOf "great" "great" (defArgs s_great) (defBody s_great) (defScope s_great) .none kV_great dc_great pm_great an_great cd_great ct_great, f_rest, PySem.W.fnOf "rest" "rest" (defArgs s_rest) (defBody s_rest) (defScope s_rest) .none kV_rest dc_rest pm_rest an_rest cd_rest ct_rest, f_place_of_rest, PySem.W.fnOf "place_of_rest" "place_of_rest" (defArgs s_place_of_rest) (defBody s_place_of_rest) (defScope s_place_of_rest) .none kV_place_of_rest dc_place_of_rest pm_place_of_rest an_place_of_rest cd_place_of_rest ct_place_of_rest, f_centre, PySem.W.fnOf "centre" "centre" (defArgs s_centre) (defBody s_centre) (defScope s_centre) .none kV_centre dc_centre pm_centre an_centre cd_centre ct_centre, f_address, PySem.W.fnOf "address" "address" (defArgs s_address) (defBody s_address) (defScope s_address) .none kV_address dc_address pm_address an_address cd_address ct_address, f_place_of, PySem.W.fnOf "place_of" "place_of" (defArgs s_place_of) (defBody s_place_of) (defScope s_place_of) .none kV_place_of dc_place_of pm_place_of an_place_of cd_place_of ct_place_of, f_refuse_no_level, PySem.W.fnOf "refuse_no_level" "refuse_no_level" (defArgs s_refuse_no_level) (defBody s_refuse_no_level) (defScope s_refuse_no_level) .none kV_refuse_no_level dc_refuse_no_level pm_refuse_no_level an_refuse_no_level cd_refuse_no_level ct_refuse_no_level, f_refuse_no_figures, PySem.W.fnOf "refuse_no_figures" "refuse_no_figures" (defArgs s_refuse_no_figures) (defBody s_refuse_no_figures) (defScope s_refuse_no_figures) .none kV_refuse_no_figures dc_refuse_no_figures pm_refuse_no_figures an_refuse_no_figures cd_refuse_no_figures ct_refuse_no_figures, f_refuse_too_long, PySem.W.fnOf "refuse_too_long" "refuse_too_long" (defArgs s_refuse_too_long) (defBody s_refuse_too_long) (defScope s_refuse_too_long) .none kV_refuse_too_long dc_refuse_too_long pm_refuse_too_long an_refuse_too_long cd_refuse_too_long ct_refuse_too_long, f_line_of, PySem.W.fnOf "line_of" "line_of" (defArgs s_line_of) (defBody s_line_of) (defScope s_line_of) .none kV_line_of dc_line_of pm_line_of an_line_of cd_line_of ct_line_of, f_one_figure_longer, PySem.W.fnOf "one_figure_longer" "one_figure_longer" (defArgs s_one_figure_longer) (defBody s_one_figure_longer) (defScope s_one_figure_longer) .none kV_one_figure_longer dc_one_figure_longer pm_one_figure_longer an_one_figure_longer cd_one_figure_longer ct_one_figure_longer, f_lines_of, PySem.W.fnOf "lines_of" "lines_of" (defArgs s_lines_of) (defBody s_lines_of) (defScope s_lines_of) .none kV_lines_of dc_lines_of pm_lines_of an_lines_of cd_lines_of ct_lines_of, f_lines_of_all, PySem.W.fnOf "lines_of_all" "lines_of_all" (defArgs s_lines_of_all) (defBody s_lines_of_all) (defScope s_lines_of_all) .none kV_lines_of_all dc_lines_of_all pm_lines_of_all an_lines_of_all cd_lines_of_all ct_lines_of_all, f_Region_init, PySem.W.fnOf "__init__" "Region.__init__" (defArgs s_Region_init) (defBody s_Region_init) (defScope s_Region_init) .none kV_Region_init dc_Region_init pm_Region_init an_Region_init cd_Region_init ct_Region_init, f_Region_holds, PySem.W.fnOf "holds" "Region.holds" (defArgs s_Region_holds) (defBody s_Region_holds) (defScope s_Region_holds) .none kV_Region_holds dc_Region_holds pm_Region_holds an_Region_holds cd_Region_holds ct_Region_holds, f_Region_cells, PySem.W.fnOf "cells" "Region.cells" (defArgs s_Region_cells) (defBody s_Region_cells) (defScope s_Region_cells) .none kV_Region_cells dc_Region_cells pm_Region_cells an_Region_cells cd_Region_cells ct_Region_cells, f_refuse_outside, PySem.W.fnOf "refuse_outside" "refuse_outside" (defArgs s_refuse_outside) (defBody s_refuse_outside) (defScope s_refuse_outside) .none kV_refuse_outside dc_refuse_outside pm_refuse_outside an_refuse_outside cd_refuse_outside ct_refuse_outside, f_levels, PySem.W.fnOf "levels" "levels" (defArgs s_levels) (defBody s_levels) (defScope s_levels) .none kV_levels dc_levels pm_levels an_levels cd_levels ct_levels, f_first_one_nearer, PySem.W.fnOf "first_one_nearer" "first_one_nearer" (defArgs s_first_one_nearer) (defBody s_first_one_nearer) (defScope s_first_one_nearer) .none kV_first_one_nearer dc_first_one_nearer pm_first_one_nearer an_first_one_nearer cd_first_one_nearer ct_first_one_nearer, f_way, PySem.W.fnOf "way" "way" (defArgs s_way) (defBody s_way) (defScope s_way) .none kV_way dc_way pm_way an_way cd_way ct_way, f_law_cell_at, PySem.W.fnOf "_law_cell_at" "_law_cell_at" (defArgs s_law_cell_at) (defBody s_law_cell_at) (defScope s_law_cell_at) .none kV_law_cell_at dc_law_cell_at pm_law_cell_at an_law_cell_at cd_law_cell_at ct_law_cell_at, f_law_whole, PySem.W.fnOf "_law_whole" "_law_whole" (defArgs s_law_whole) (defBody s_law_whole) (defScope s_law_whole) .none kV_law_whole dc_law_whole pm_law_whole an_law_whole cd_law_whole ct_law_whole, f_law_place_alike, PySem.W.fnOf "_law_place_alike" "_law_place_alike" (defArgs s_law_place_alike) (defBody s_law_place_alike) (defScope s_law_place_alike) .none kV_law_place_alike dc_law_place_alike pm_law_place_alike an_law_place_alike cd_law_place_alike ct_law_place_alike, f_law_step, PySem.W.fnOf "_law_step" "_law_step" (defArgs s_law_step) (defBody s_law_step) (defScope s_law_step) .none kV_law_step dc_law_step pm_law_step an_law_step cd_law_step ct_law_step, f_law_place, PySem.W.fnOf "_law_place" "_law_place" (defArgs s_law_place) (defBody s_law_place) (defScope s_law_place) .none kV_law_place dc_law_place pm_law_place an_law_place cd_law_place ct_law_place, f_law_lines, PySem.W.fnOf "_law_lines" "_law_lines" (defArgs s_law_lines) (defBody s_law_lines) (defScope s_law_lines) .none kV_law_lines dc_law_lines pm_law_lines an_law_lines cd_law_lines ct_law_lines, f_law_rows, PySem.W.fnOf "_law_rows" "_law_rows" (defArgs s_law_rows) (defBody s_law_rows) (defScope s_law_rows) .none kV_law_rows dc_law_rows pm_law_rows an_law_rows cd_law_rows ct_law_rows, f_law_all, PySem.W.fnOf "_law_all" "_law_all" (defArgs s_law_all) (defBody s_law_all) (defScope s_law_all) .none kV_law_all dc_law_all pm_law_all an_law_all cd_law_all ct_law_all, f_law_near, PySem.W.fnOf "_law_near" "_law_near" (defArgs s_law_near) (defBody s_law_near) (defScope s_law_near) .none kV_law_near dc_law_near pm_law_near an_law_near cd_law_near ct_law_near, f_law_levels, PySem.W.fnOf "_law_levels" "_law_levels" (defArgs s_law_levels) (defBody s_law_levels) (defScope s_law_levels) .none kV_law_levels dc_law_levels pm_law_levels an_law_levels cd_law_levels ct_law_levels, f_law_due, PySem.W.fnOf "_law_due" "_law_due" (defArgs s_law_due) (defBody s_law_due) (defScope s_law_due) .none kV_law_due dc_law_due pm_law_due an_law_due cd_law_due ct_law_due, f_law_tried, PySem.W.fnOf "_law_tried" "_law_tried" (defArgs s_law_tried) (defBody s_law_tried) (defScope s_law_tried) .none kV_law_tried dc_law_tried pm_law_tried an_law_tried cd_law_tried ct_law_tried, f_law, PySem.W.fnOf "law" "law" (defArgs s_law) (defBody s_law) (defScope s_law) .none kV_law dc_law pm_law an_law cd_law ct_law, a_MIDDLE, a_FIRST_STEP, a_DIRECTIONS, a_FIGURES, a_FIGURE_BY_REMAINDER, a_LEVELS, c_NoFigure, c_FloorError, c_NoCell, c_NoLevel, c_Apart, c_Region⟩, ⟨dn_mk (fun_mk (st := s_added) l_added q_added p_added) (PySem.W.mg_of X G e_added) (fun _ _ _ _ _ _ => len2 fun _ _ => rfl),
    dn_mk (fun_mk (st := s_taken) l_taken q_taken p_taken) (PySem.W.mg_of X G e_taken) (fun _ _ _ _ _ _ => len2 fun _ _ => rfl),
    dn_mk (fun_mk (st := s_turned) l_turned q_turned p_turned) (PySem.W.mg_of X G e_turned) (fun _ _ _ _ _ _ => len2 fun _ _ => rfl),
    dn_mk (fun_mk (st := s_step) l_step q_step p_step) (PySem.W.mg_of X G e_step) (fun _ _ _ _ _ _ => len1 fun _ => rfl),
    dn_mk (fun_mk (st := s_neighbours) l_neighbours q_neighbours p_neighbours) (PySem.W.mg_of X G e_neighbours) (fun _ _ _ _ _ _ => len1 fun _ => rfl),
    dn_mk (fun_mk (st := s_great) l_great q_great p_great) (PySem.W.mg_of X G e_great) (fun _ _ _ _ _ _ => len1 fun _ => rfl),
    dn_mk (fun_mk (st := s_rest) l_rest q_rest p_rest) (PySem.W.mg_of X G e_rest) (fun _ _ _ _ _ _ => len1 fun _ => rfl),
    dn_mk (fun_mk (st := s_place_of_rest) l_place_of_rest q_place_of_rest p_place_of_rest) (PySem.W.mg_of X G e_place_of_rest) (fun _ _ _ _ _ _ => len1 fun _ => rfl),
    dn_mk (fun_mk (st := s_centre) l_centre q_centre p_centre) (PySem.W.mg_of X G e_centre) (fun _ _ _ _ _ _ => len1 fun _ => rfl),
    dn_mk (fun_mk (st := s_address) l_address q_address p_address) (PySem.W.mg_of X G e_address) (fun _ _ _ _ _ _ => len1 fun _ => rfl),
    dn_mk (fun_mk (st := s_place_of) l_place_of q_place_of p_place_of) (PySem.W.mg_of X G e_place_of) (fun _ _ _ _ _ _ => len1 fun _ => rfl),
    dn_mk (fun_mk (st := s_refuse_no_level) l_refuse_no_level q_refuse_no_level p_refuse_no_level) (PySem.W.mg_of X G e_refuse_no_level) (fun _ _ _ _ _ _ => len1 fun _ => rfl),
    dn_mk (fun_mk (st := s_refuse_no_figures) l_refuse_no_figures q_refuse_no_figures p_refuse_no_figures) (PySem.W.mg_of X G e_refuse_no_figures) (fun _ _ _ _ _ _ => len1 fun _ => rfl),
    dn_mk (fun_mk (st := s_refuse_too_long) l_refuse_too_long q_refuse_too_long p_refuse_too_long) (PySem.W.mg_of X G e_refuse_too_long) (fun _ _ _ _ _ _ => len2 fun _ _ => rfl),
    dn_mk (fun_mk (st := s_line_of) l_line_of q_line_of p_line_of) (PySem.W.mg_of X G e_line_of) (fun _ _ _ _ _ _ => len2 fun _ _ => rfl),
    dn_mk (fun_mk (st := s_one_figure_longer) l_one_figure_longer q_one_figure_longer p_one_figure_longer) (PySem.W.mg_of X G e_one_figure_longer) (fun _ _ _ _ _ _ => len1 fun _ => rfl),
    dn_mk (fun_mk (st := s_lines_of) l_lines_of q_lines_of p_lines_of) (PySem.W.mg_of X G e_lines_of) (fun _ _ _ _ _ _ => len2 fun _ _ => rfl),
    dn_mk (fun_mk (st := s_lines_of_all) l_lines_of_all q_lines_of_all p_lines_of_all) (PySem.W.mg_of X G e_lines_of_all) (fun _ _ _ _ _ _ => len2 fun _ _ => rfl),
    dm_mk (fun_mk (st := s_Region_init) l_Region_init q_Region_init p_Region_init) e_Region_init i_Region_init (fun _ _ _ _ _ _ => len3 fun _ _ _ => rfl),
    dm_mk (fun_mk (st := s_Region_holds) l_Region_holds q_Region_holds p_Region_holds) e_Region_holds i_Region_holds (fun _ _ _ _ _ _ => len2 fun _ _ => rfl),
    dm_mk (fun_mk (st := s_Region_cells) l_Region_cells q_Region_cells p_Region_cells) e_Region_cells i_Region_cells (fun _ _ _ _ _ _ => len1 fun _ => rfl),
    dn_mk (fun_mk (st := s_refuse_outside) l_refuse_outside q_refuse_outside p_refuse_outside) (PySem.W.mg_of X G e_refuse_outside) (fun _ _ _ _ _ _ => len2 fun _ _ => rfl),
    dn_mk (fun_mk (st := s_levels) l_levels q_levels p_levels) (PySem.W.mg_of X G e_levels) (fun _ _ _ _ _ _ => len2 fun _ _ => rfl),
    dn_mk (fun_mk (st := s_first_one_nearer) l_first_one_nearer q_first_one_nearer p_first_one_nearer) (PySem.W.mg_of X G e_first_one_nearer) (fun _ _ _ _ _ _ => len2 fun _ _ => rfl),
    dn_mk (fun_mk (st := s_way) l_way q_way p_way) (PySem.W.mg_of X G e_way) (fun _ _ _ _ _ _ => len3 fun _ _ _ => rfl),
    dn_mk (fun_mk (st := s_law_cell_at) l_law_cell_at q_law_cell_at p_law_cell_at) (PySem.W.mg_of X G e_law_cell_at) (fun _ _ _ _ _ _ => len2 fun _ _ => rfl),
    dn_mk (fun_mk (st := s_law_whole) l_law_whole q_law_whole p_law_whole) (PySem.W.mg_of X G e_law_whole) (fun _ _ _ _ _ _ => len1 fun _ => rfl),
    dn_mk (fun_mk (st := s_law_place_alike) l_law_place_alike q_law_place_alike p_law_place_alike) (PySem.W.mg_of X G e_law_place_alike) (fun _ _ _ _ _ _ => len2 fun _ _ => rfl),
    dn_mk (fun_mk (st := s_law_step) l_law_step q_law_step p_law_step) (PySem.W.mg_of X G e_law_step) (fun _ _ _ _ _ _ => len1 fun _ => rfl),
    dn_mk (fun_mk (st := s_law_place) l_law_place q_law_place p_law_place) (PySem.W.mg_of X G e_law_place) (fun _ _ _ _ _ _ => len1 fun _ => rfl),
    dn_mk (fun_mk (st := s_law_lines) l_law_lines q_law_lines p_law_lines) (PySem.W.mg_of X G e_law_lines) (fun _ _ _ _ _ _ => len2 fun _ _ => rfl),
    dn_mk (fun_mk (st := s_law_rows) l_law_rows q_law_rows p_law_rows) (PySem.W.mg_of X G e_law_rows) (fun _ _ _ _ _ _ => len3 fun _ _ _ => rfl),
    dn_mk (fun_mk (st := s_law_all) l_law_all q_law_all p_law_all) (PySem.W.mg_of X G e_law_all) (fun _ _ _ _ _ _ => len2 fun _ _ => rfl),
    dn_mk (fun_mk (st := s_law_near) l_law_near q_law_near p_law_near) (PySem.W.mg_of X G e_law_near) (fun _ _ _ _ _ _ => len1 fun _ => rfl),
    dn_mk (fun_mk (st := s_law_levels) l_law_levels q_law_levels p_law_levels) (PySem.W.mg_of X G e_law_levels) (fun _ _ _ _ _ _ => len2 fun _ _ => rfl),
    dn_mk (fun_mk (st := s_law_due) l_law_due q_law_due p_law_due) (PySem.W.mg_of X G e_law_due) (fun _ _ _ _ _ _ => len2 fun _ _ => rfl),
    dn_mk (fun_mk (st := s_law_tried) l_law_tried q_law_tried p_law_tried) (PySem.W.mg_of X G e_law_tried) (fun _ _ _ _ _ _ => len3 fun _ _ _ => rfl),
    dn_mk (fun_mk (st := s_law) l_law q_law p_law) (PySem.W.mg_of X G e_law) (fun _ _ _ _ _ _ => len1 fun _ => rfl),
    PySem.W.mg_of X G eg_MIDDLE,
    fun H => tup_of lg_MIDDLE hc_MIDDLE hz_MIDDLE hv_MIDDLE,
    PySem.W.mg_of X G eg_FIRST_STEP,
    fun H => tup_of lg_FIRST_STEP hc_FIRST_STEP hz_FIRST_STEP hv_FIRST_STEP,
    PySem.W.mg_of X G eg_DIRECTIONS,
    fun H => tup_of lg_DIRECTIONS hc_DIRECTIONS hz_DIRECTIONS hv_DIRECTIONS,
    PySem.W.mg_of X G eg_FIGURES,
    fun H => tup_of lg_FIGURES hc_FIGURES hz_FIGURES hv_FIGURES,
    PySem.W.mg_of X G eg_FIGURE_BY_REMAINDER,
    fun H => tup_of lg_FIGURE_BY_REMAINDER hc_FIGURE_BY_REMAINDER hz_FIGURE_BY_REMAINDER hv_FIGURE_BY_REMAINDER,
    PySem.W.mg_of X G eg_LEVELS,
    fun H => tup_of lg_LEVELS hc_LEVELS hz_LEVELS hv_LEVELS,
    PySem.W.mg_none_of X G b_len,
    PySem.W.mg_none_of X G b_isinstance,
    PySem.W.mg_none_of X G b_range,
    PySem.W.mg_none_of X G b_tuple,
    PySem.W.mg_none_of X G b_list,
    PySem.W.mg_none_of X G b_max,
    PySem.W.mg_none_of X G b_sorted,
    PySem.W.mg_none_of X G b_int,
    PySem.W.mg_none_of X G b_bool,
    PySem.W.mg_of X G ec_NoFigure,
    PySem.W.mg_of X G ec_FloorError,
    PySem.W.mg_of X G ec_NoCell,
    PySem.W.mg_of X G ec_NoLevel,
    PySem.W.mg_of X G ec_Apart,
    PySem.W.mg_of X G ec_Region,
    xc_NoLevel,
    ⟨ga_NoLevel, gt_NoLevel, cl_NoLevel, ob_NoLevel, be_NoLevel, by rw [cs_NoLevel]; rfl⟩,
    xc_NoFigure,
    ⟨ga_NoFigure, gt_NoFigure, cl_NoFigure, ob_NoFigure, be_NoFigure, by rw [cs_NoFigure]; rfl⟩,
    xc_NoCell,
    ⟨ga_NoCell, gt_NoCell, cl_NoCell, ob_NoCell, be_NoCell, by rw [cs_NoCell]; rfl⟩,
    xc_Apart,
    ⟨ga_Apart, gt_Apart, cl_Apart, ob_Apart, be_Apart, by rw [cs_Apart]; rfl⟩,
    ⟨sb_NoCell_FloorError, sbe_NoCell_FloorError, by rw [scs_NoCell_FloorError]; rfl, sty_NoCell_FloorError⟩,
    ⟨sb_Apart_FloorError, sbe_Apart_FloorError, by rw [scs_Apart_FloorError]; rfl, sty_Apart_FloorError⟩,
    ki_NoCell_Apart,
    ki_NoCell_NoCell,
    ki_NoCell_NoFigure,
    ki_NoCell_NoLevel,
    ki_Apart_Apart,
    ki_Apart_NoCell,
    ki_Apart_NoFigure,
    ki_Apart_NoLevel,
    ⟨mk_Region, e_Region_init, i_Region_init, kc_Region⟩,
    ⟨pg_Region, hd_Region, po_Region, sa_Region⟩,
    na_Region_level,
    na_Region_lines⟩, rfl, rfl⟩
theorem walk {l : PySem.W.OpenLaw} {q : Program} {loose : List Str} {XP : (Str → Option Value) → Heap → Prop} {YP : World → Heap → Prop} {d : DefRec} {K : Params → PySem.W.Frag} (hn : l.most = some 63) (hdf : d.params.defaults = [])
    (hY : ∀ (w : World) (h : Heap), YP w h → (K w.params).In h)
    (F : ∀ (w : World) (mg : Str → Option Value) (fa : Addr) (h : Heap), (K w.params).In h → h.Ns mainGlobals mg → mg d.name = some (.ref fa) →
      ∃ fd : FuncData, (∀ (s : Shared) (u : Value), BindsTo s fd ⟨[u], []⟩ [("script", u)]) ∧ ∀ base : Heap, (K w.params).In base → base.Ns mainGlobals mg → FnOk l.prog w (K w.params) mg base CX0 12 fa fd ["script"] (sp_law (K w.params))) :
    PySem.W.WalkO q loose XP YP l.row.toRowW d [] (fun f vs => PySem.call f vs) :=
  L2.walk_of (n := 63) (k := 12) (x := "script") (CX := fun _ => CX0) (sp := fun w => sp_law (K w.params)) hn (by decide) hdf ⟨rfl, by decide, by decide⟩ hY F (fun _ _ a ns hl _ hS => ⟨a, ns, rfl, hS, hl, fun _ => rfl⟩) fun _ _ _ _ _ z => z
end My
theorem PySem.W.Fast.te9341601780986044163 : True := trivial
theorem PySem.W.Fast.te9487863859431614944 : True := trivial
open PySem PySem.W PyProof.Rows
set_option maxRecDepth 100000 in
set_option maxHeartbeats 0 in
theorem PySem.Challenge.cw_hexaddress_k20_whole_a_way_holds : PySem.Challenge.rw_hexaddress_k20_whole_a_way.Holds := by
  w_on; o_law; k_head; (case hw => w_witness2)
  k_fill
  refine My.walk (l := PySem.Challenge.rw_hexaddress_k20_whole_a_way) rfl rfl (fun w h Y => PySem.W.kIn_of Y) ?F
  case F =>
    intro w mg fa h KX G hmg
    have T : ∃ t : My.Adr, My.Txt (L2.KOf KX) mg t := by
      dsimp only [L2.KOf]
      refine' My.txt_ex (My.txt_mk KX G ?ec_NoFigure ?ec_FloorError ?ec_NoCell ?ec_NoLevel ?ec_Apart ?ec_Region ?e_added ?l_added ?q_added ?p_added ?e_taken ?l_taken ?q_taken ?p_taken ?e_turned ?l_turned ?q_turned ?p_turned ?e_step ?l_step ?q_step ?p_step ?e_neighbours ?l_neighbours ?q_neighbours ?p_neighbours ?e_great ?l_great ?q_great ?p_great ?e_rest ?l_rest ?q_rest ?p_rest ?e_place_of_rest ?l_place_of_rest ?q_place_of_rest ?p_place_of_rest ?e_centre ?l_centre ?q_centre ?p_centre ?e_address ?l_address ?q_address ?p_address ?e_place_of ?l_place_of ?q_place_of ?p_place_of ?e_refuse_no_level ?l_refuse_no_level ?q_refuse_no_level ?p_refuse_no_level ?e_refuse_no_figures ?l_refuse_no_figures ?q_refuse_no_figures ?p_refuse_no_figures ?e_refuse_too_long ?l_refuse_too_long ?q_refuse_too_long ?p_refuse_too_long ?e_line_of ?l_line_of ?q_line_of ?p_line_of ?e_one_figure_longer ?l_one_figure_longer ?q_one_figure_longer ?p_one_figure_longer ?e_lines_of ?l_lines_of ?q_lines_of ?p_lines_of ?e_lines_of_all ?l_lines_of_all ?q_lines_of_all ?p_lines_of_all ?e_Region_init ?i_Region_init ?l_Region_init ?q_Region_init ?p_Region_init ?e_Region_holds ?i_Region_holds ?l_Region_holds ?q_Region_holds ?p_Region_holds ?e_Region_cells ?i_Region_cells ?l_Region_cells ?q_Region_cells ?p_Region_cells ?e_refuse_outside ?l_refuse_outside ?q_refuse_outside ?p_refuse_outside ?e_levels ?l_levels ?q_levels ?p_levels ?e_first_one_nearer ?l_first_one_nearer ?q_first_one_nearer ?p_first_one_nearer ?e_way ?l_way ?q_way ?p_way ?e_law_cell_at ?l_law_cell_at ?q_law_cell_at ?p_law_cell_at ?e_law_whole ?l_law_whole ?q_law_whole ?p_law_whole ?e_law_place_alike ?l_law_place_alike ?q_law_place_alike ?p_law_place_alike ?e_law_step ?l_law_step ?q_law_step ?p_law_step ?e_law_place ?l_law_place ?q_law_place ?p_law_place ?e_law_lines ?l_law_lines ?q_law_lines ?p_law_lines ?e_law_rows ?l_law_rows ?q_law_rows ?p_law_rows ?e_law_all ?l_law_all ?q_law_all ?p_law_all ?e_law_near ?l_law_near ?q_law_near ?p_law_near ?e_law_levels ?l_law_levels ?q_law_levels ?p_law_levels ?e_law_due ?l_law_due ?q_law_due ?p_law_due ?e_law_tried ?l_law_tried ?q_law_tried ?p_law_tried ?e_law ?l_law ?q_law ?p_law ?eg_MIDDLE ?lg_MIDDLE ?hc_MIDDLE ?hz_MIDDLE ?hv_MIDDLE ?eg_FIRST_STEP ?lg_FIRST_STEP ?hc_FIRST_STEP ?hz_FIRST_STEP ?hv_FIRST_STEP ?eg_DIRECTIONS ?lg_DIRECTIONS ?hc_DIRECTIONS ?hz_DIRECTIONS ?hv_DIRECTIONS ?eg_FIGURES ?lg_FIGURES ?hc_FIGURES ?hz_FIGURES ?hv_FIGURES ?eg_FIGURE_BY_REMAINDER ?lg_FIGURE_BY_REMAINDER ?hc_FIGURE_BY_REMAINDER ?hz_FIGURE_BY_REMAINDER ?hv_FIGURE_BY_REMAINDER ?eg_LEVELS ?lg_LEVELS ?hc_LEVELS ?hz_LEVELS ?hv_LEVELS ?b_len ?b_isinstance ?b_range ?b_tuple ?b_list ?b_max ?b_sorted ?b_int ?b_bool ?xc_NoLevel ?ga_NoLevel ?gt_NoLevel ?cl_NoLevel ?ob_NoLevel ?be_NoLevel ?cs_NoLevel ?xc_NoFigure ?ga_NoFigure ?gt_NoFigure ?cl_NoFigure ?ob_NoFigure ?be_NoFigure ?cs_NoFigure ?xc_NoCell ?ga_NoCell ?gt_NoCell ?cl_NoCell ?ob_NoCell ?be_NoCell ?cs_NoCell ?xc_Apart ?ga_Apart ?gt_Apart ?cl_Apart ?ob_Apart ?be_Apart ?cs_Apart ?sb_NoCell_FloorError ?sbe_NoCell_FloorError ?scs_NoCell_FloorError ?sty_NoCell_FloorError ?sb_Apart_FloorError ?sbe_Apart_FloorError ?scs_Apart_FloorError ?sty_Apart_FloorError ?ki_NoCell_Apart ?ki_NoCell_NoCell ?ki_NoCell_NoFigure ?ki_NoCell_NoLevel ?ki_Apart_Apart ?ki_Apart_NoCell ?ki_Apart_NoFigure ?ki_Apart_NoLevel ?mk_Region ?kc_Region ?pg_Region ?hd_Region ?po_Region ?sa_Region ?na_Region_level ?na_Region_lines)
      (case ec_NoFigure => k_is)
      (case ec_FloorError => k_is)
      (case ec_NoCell => k_is)
      (case ec_NoLevel => k_is)
      (case ec_Apart => k_is)
      (case ec_Region => k_is)
      (case e_added => k_is)
      (case l_added => k_is)
      (case q_added => k_is)
      (case p_added => k_is)
      (case e_taken => k_is)
      (case l_taken => k_is)
      (case q_taken => k_is)
      (case p_taken => k_is)
      (case e_turned => k_is)
      (case l_turned => k_is)
      (case q_turned => k_is)
      (case p_turned => k_is)
      (case e_step => k_is)
      (case l_step => k_is)
      (case q_step => k_is)
      (case p_step => k_is)
      (case e_neighbours => k_is)
      (case l_neighbours => k_is)
      (case q_neighbours => k_is)
      (case p_neighbours => k_is)
      (case e_great => k_is)
      (case l_great => k_is)
      (case q_great => k_is)
      (case p_great => k_is)
      (case e_rest => k_is)
      (case l_rest => k_is)
      (case q_rest => k_is)
      (case p_rest => k_is)
      (case e_place_of_rest => k_is)
      (case l_place_of_rest => k_is)
      (case q_place_of_rest => k_is)
      (case p_place_of_rest => k_is)
      (case e_centre => k_is)
      (case l_centre => k_is)
      (case q_centre => k_is)
      (case p_centre => k_is)
      (case e_address => k_is)
      (case l_address => k_is)
      (case q_address => k_is)
      (case p_address => k_is)
      (case e_place_of => k_is)
      (case l_place_of => k_is)
      (case q_place_of => k_is)
      (case p_place_of => k_is)
      (case e_refuse_no_level => k_is)
      (case l_refuse_no_level => k_is)
      (case q_refuse_no_level => k_is)
      (case p_refuse_no_level => k_is)
      (case e_refuse_no_figures => k_is)
      (case l_refuse_no_figures => k_is)
      (case q_refuse_no_figures => k_is)
      (case p_refuse_no_figures => k_is)
      (case e_refuse_too_long => k_is)
      (case l_refuse_too_long => k_is)
      (case q_refuse_too_long => k_is)
      (case p_refuse_too_long => k_is)
      (case e_line_of => k_is)
      (case l_line_of => k_is)
      (case q_line_of => k_is)
      (case p_line_of => k_is)
      (case e_one_figure_longer => k_is)
      (case l_one_figure_longer => k_is)
      (case q_one_figure_longer => k_is)
      (case p_one_figure_longer => k_is)
      (case e_lines_of => k_is)
      (case l_lines_of => k_is)
      (case q_lines_of => k_is)
      (case p_lines_of => k_is)
      (case e_lines_of_all => k_is)
      (case l_lines_of_all => k_is)
      (case q_lines_of_all => k_is)
      (case p_lines_of_all => k_is)
      (case e_Region_init => k_is)
      (case i_Region_init => k_is)
      (case l_Region_init => k_is)
      (case q_Region_init => k_is)
      (case p_Region_init => k_is)
      (case e_Region_holds => k_is)
      (case i_Region_holds => k_is)
      (case l_Region_holds => k_is)
      (case q_Region_holds => k_is)
      (case p_Region_holds => k_is)
      (case e_Region_cells => k_is)
      (case i_Region_cells => k_is)
      (case l_Region_cells => k_is)
      (case q_Region_cells => k_is)
      (case p_Region_cells => k_is)
      (case e_refuse_outside => k_is)
      (case l_refuse_outside => k_is)
      (case q_refuse_outside => k_is)
      (case p_refuse_outside => k_is)
      (case e_levels => k_is)
      (case l_levels => k_is)
      (case q_levels => k_is)
      (case p_levels => k_is)
      (case e_first_one_nearer => k_is)
      (case l_first_one_nearer => k_is)
      (case q_first_one_nearer => k_is)
      (case p_first_one_nearer => k_is)
      (case e_way => k_is)
      (case l_way => k_is)
      (case q_way => k_is)
      (case p_way => k_is)
      (case e_law_cell_at => k_is)
      (case l_law_cell_at => k_is)
      (case q_law_cell_at => k_is)
      (case p_law_cell_at => k_is)
      (case e_law_whole => k_is)
      (case l_law_whole => k_is)
      (case q_law_whole => k_is)
      (case p_law_whole => k_is)
      (case e_law_place_alike => k_is)
      (case l_law_place_alike => k_is)
      (case q_law_place_alike => k_is)
      (case p_law_place_alike => k_is)
      (case e_law_step => k_is)
      (case l_law_step => k_is)
      (case q_law_step => k_is)
      (case p_law_step => k_is)
      (case e_law_place => k_is)
      (case l_law_place => k_is)
      (case q_law_place => k_is)
      (case p_law_place => k_is)
      (case e_law_lines => k_is)
      (case l_law_lines => k_is)
      (case q_law_lines => k_is)
      (case p_law_lines => k_is)
      (case e_law_rows => k_is)
      (case l_law_rows => k_is)
      (case q_law_rows => k_is)
      (case p_law_rows => k_is)
      (case e_law_all => k_is)
      (case l_law_all => k_is)
      (case q_law_all => k_is)
      (case p_law_all => k_is)
      (case e_law_near => k_is)
      (case l_law_near => k_is)
      (case q_law_near => k_is)
      (case p_law_near => k_is)
      (case e_law_levels => k_is)
      (case l_law_levels => k_is)
      (case q_law_levels => k_is)
      (case p_law_levels => k_is)
      (case e_law_due => k_is)
      (case l_law_due => k_is)
      (case q_law_due => k_is)
      (case p_law_due => k_is)
      (case e_law_tried => k_is)
      (case l_law_tried => k_is)
      (case q_law_tried => k_is)
      (case p_law_tried => k_is)
      (case e_law => k_is)
      (case l_law => k_is)
      (case q_law => k_is)
      (case p_law => k_is)
      (case eg_MIDDLE => k_is)
      (case lg_MIDDLE => k_is)
      (case hc_MIDDLE => rfl)
      (case hz_MIDDLE => decide)
      (case hv_MIDDLE => rfl)
      (case eg_FIRST_STEP => k_is)
      (case lg_FIRST_STEP => k_is)
      (case hc_FIRST_STEP => rfl)
      (case hz_FIRST_STEP => decide)
      (case hv_FIRST_STEP => rfl)
      (case eg_DIRECTIONS => k_is)
      (case lg_DIRECTIONS => k_is)
      (case hc_DIRECTIONS => rfl)
      (case hz_DIRECTIONS => decide)
      (case hv_DIRECTIONS => rfl)
      (case eg_FIGURES => k_is)
      (case lg_FIGURES => k_is)
      (case hc_FIGURES => rfl)
      (case hz_FIGURES => decide)
      (case hv_FIGURES => rfl)
      (case eg_FIGURE_BY_REMAINDER => k_is)
      (case lg_FIGURE_BY_REMAINDER => k_is)
      (case hc_FIGURE_BY_REMAINDER => rfl)
      (case hz_FIGURE_BY_REMAINDER => decide)
      (case hv_FIGURE_BY_REMAINDER => rfl)
      (case eg_LEVELS => k_is)
      (case lg_LEVELS => k_is)
      (case hc_LEVELS => rfl)
      (case hz_LEVELS => decide)
      (case hv_LEVELS => rfl)
      (case b_len => k_is)
      (case b_isinstance => k_is)
      (case b_range => k_is)
      (case b_tuple => k_is)
      (case b_list => k_is)
      (case b_max => k_is)
      (case b_sorted => k_is)
      (case b_int => k_is)
      (case b_bool => k_is)
      (case xc_NoLevel => k_exc)
      (case ga_NoLevel => k_is)
      (case gt_NoLevel => k_is)
      (case cl_NoLevel => k_is)
      (case ob_NoLevel => k_is)
      (case be_NoLevel => k_is)
      (case cs_NoLevel => k_is)
      (case xc_NoFigure => k_exc)
      (case ga_NoFigure => k_is)
      (case gt_NoFigure => k_is)
      (case cl_NoFigure => k_is)
      (case ob_NoFigure => k_is)
      (case be_NoFigure => k_is)
      (case cs_NoFigure => k_is)
      (case xc_NoCell => k_exc)
      (case ga_NoCell => k_is)
      (case gt_NoCell => k_is)
      (case cl_NoCell => k_is)
      (case ob_NoCell => k_is)
      (case be_NoCell => k_is)
      (case cs_NoCell => k_is)
      (case xc_Apart => k_exc)
      (case ga_Apart => k_is)
      (case gt_Apart => k_is)
      (case cl_Apart => k_is)
      (case ob_Apart => k_is)
      (case be_Apart => k_is)
      (case cs_Apart => k_is)
      (case sb_NoCell_FloorError => k_is)
      (case sbe_NoCell_FloorError => k_is)
      (case scs_NoCell_FloorError => k_is)
      (case sty_NoCell_FloorError => k_is)
      (case sb_Apart_FloorError => k_is)
      (case sbe_Apart_FloorError => k_is)
      (case scs_Apart_FloorError => k_is)
      (case sty_Apart_FloorError => k_is)
      (case ki_NoCell_Apart => kit_is)
      (case ki_NoCell_NoCell => kit_is)
      (case ki_NoCell_NoFigure => kit_is)
      (case ki_NoCell_NoLevel => kit_is)
      (case ki_Apart_Apart => kit_is)
      (case ki_Apart_NoCell => kit_is)
      (case ki_Apart_NoFigure => kit_is)
      (case ki_Apart_NoLevel => kit_is)
      (case mk_Region => k_is)
      (case kc_Region => k_is)
      (case pg_Region => k_is)
      (case hd_Region => k_is)
      (case po_Region => k_is)
      (case sa_Region => k_is)
      (case na_Region_level => k_is)
      (case na_Region_lines => k_is)
    obtain ⟨t, T⟩ := T
    have e0 := hmg.symm.trans T.d_law.m
    cases e0
    exact ⟨_, T.d_law.bind1, fun base _ _ => My.ok_law T⟩


