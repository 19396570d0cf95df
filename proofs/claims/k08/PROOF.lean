import PyProof.Rows.All
import Wide.All
import OpenK.AllK
import Wide.FinOn
import PyProof.TupleKey
import Lean
import PyProof.EqAt
import PyProof.EqKinds
import PyProof.TupleCall
import PyProof.NeData
import PyProof.NsDelKeeps
import PyProof.MinMaxWalk
import PyProof.WalkInts
import KE.KDictList
import PyProof.Rows.TupDisplay
import PyProof.AttrMissHeap
import KE.KDictOf
import PyProof.Rows.SortRunsK
import KE.KSortTup
import PySem.Challenge.RW_relayroom_k08_showings
section
set_option Elab.async false
set_option linter.all false
set_option maxRecDepth 100000
/-! THE HAND LAYER, for ints, bools, texts, own classes, LISTS and tuples (index, slices, in, append, pop ..), calls, loops. Paste it whole ahead of your own text; what your proof does not reach may be deleted. -/
namespace L2
open PySem PySem.Spec PyProof.Rows

def bInt (b : Bool) : Int := if b = true then 1 else 0
def bHash (b : Bool) : Int := reduceHash (bInt b)
theorem pyHash_bool {prog : Program} {w : World} {A : Around} {E : Value → Shared → Prop} {s : Shared} {b : Bool} {Q : Int → Shared → Prop} (h : Q (bHash b) { s with toks := s.toks + 1 }) :
    wpAny (model prog w) A (pyHash (.bool b)) Q E s := by
  refine PySem.W.pyHash_slot (T := "bool") rfl PySem.F.slot_bool_hash entry_int_hash (args_int_hash _) (beq_builtin_none _) (.inl rfl) ?_
  have body : ∀ n : Int, Q (reduceHash n) { s with toks := s.toks + 1 } → wpAny (model prog w) A.in1 (do ret (← mkInt n)) (fun fin s' => ∃ m t, fin = .done (.ret (.int m t)) ∧ Q (reduceHash m) s') E s := fun n hn => wpAny_bind (wpAny_mkInt (wpAny_pure ⟨_, _, rfl, hn⟩))
  cases b with
  | false => exact body 0 h
  | true => exact body 1 h
def boolIs (k : Bool) : Value → Bool
  | .bool b => b == k
  | _ => false
theorem boolIs_shape {k : Bool} {v : Value} (h : boolIs k v = true) : v = .bool k := by
  cases v <;> simp_all [boolIs]
def boolKind (prog : Program) (w : World) : PySem.KeyKind prog w Bool where
  is := boolIs
  hash := bHash
  inj := fun v a b ha hb => by
    have e1 := boolIs_shape ha
    have e2 := boolIs_shape hb
    rw [e1] at e2
    injection e2
  byValue := fun k v h => by rw [boolIs_shape h]; rfl
  pyHash := fun hv h => by rw [boolIs_shape hv]; exact pyHash_bool h
  eqBool := fun {A E s a b u v Q} hu hv h => by
    rw [boolIs_shape hu, boolIs_shape hv]
    refine SeqAt.EqAt.bool_bool a b _ _ _ _ ?_
    have : decide (a = b) = (a == b) := by cases a <;> cases b <;> rfl
    rw [← this]
    exact h
  «strs» := fun k x t v h => by have := boolIs_shape h; cases this

abbrev Key := Sum Bool Str
def keyIs : Key → Value → Bool
  | .inl k, v => boolIs k v
  | .inr x, v => Value.isStrOf x v
def keyH (w : World) : Key → Int
  | .inl k => bHash k
  | .inr x => hashStr w x
theorem keyIs_shape {k : Key} {v : Value} (h : keyIs k v = true) : (∃ b, k = Sum.inl b ∧ v = Value.bool b) ∨ (∃ x t, k = Sum.inr x ∧ v = Value.str x t) := by
  cases k with
  | inl b => exact .inl ⟨b, rfl, boolIs_shape h⟩
  | inr x => obtain ⟨t, e⟩ := Value.isStrOf_shape (x := x) (v := v) h; exact .inr ⟨x, t, rfl, e⟩
def mixKind (prog : Program) (w : World) : PySem.KeyKind prog w Key where
  is := keyIs
  hash := keyH w
  inj := fun v a b ha hb => by
    rcases keyIs_shape ha with ⟨i, rfl, rfl⟩ | ⟨x, t, rfl, rfl⟩ <;> rcases keyIs_shape hb with ⟨j, rfl, e⟩ | ⟨y, u, rfl, e⟩
    · injection e with e; rw [e]
    · cases e
    · cases e
    · injection e with e _; rw [e]
  byValue := fun k v h => by
    rcases keyIs_shape h with ⟨i, rfl, rfl⟩ | ⟨x, t, rfl, rfl⟩ <;> rfl
  pyHash := fun hv h => by
    rcases keyIs_shape hv with ⟨i, rfl, rfl⟩ | ⟨x, t, rfl, rfl⟩
    · exact pyHash_bool h
    · exact wpAny_pyHash_str h
  eqBool := fun hu hv h => by
    rcases keyIs_shape hu with ⟨i, rfl, rfl⟩ | ⟨x, t, rfl, rfl⟩ <;> rcases keyIs_shape hv with ⟨j, rfl, rfl⟩ | ⟨y, u, rfl, rfl⟩
    · refine SeqAt.EqAt.bool_bool i j _ _ _ _ ?_
      have e : decide ((Sum.inl i : Key) = Sum.inl j) = (i == j) := by cases i <;> cases j <;> decide
      rw [← e]; exact h
    · refine SeqAt.EqAt.bool_str i y u _ _ _ _ ?_
      rw [decide_eq_false (fun z => nomatch z)] at h; exact h
    · refine SeqAt.EqAt.str_bool x t j _ _ _ _ ?_
      rw [decide_eq_false (fun z => nomatch z)] at h; exact h
    · have e : decide ((Sum.inr x : Key) = Sum.inr y) = decide (x = y) := by
        by_cases c : x = y
        · rw [decide_eq_true c, decide_eq_true (by rw [c])]
        · rw [decide_eq_false c, decide_eq_false (fun z => c (Sum.inr.inj z))]
      rw [e] at h; exact wpAny_eqBool_str h
  «strs» := fun k x t v h => by
    rcases keyIs_shape h with ⟨i, rfl, e⟩ | ⟨y, u, rfl, e⟩
    · cases e
    · injection e with e1 _
      subst e1
      cases v <;> rfl
theorem mixKind_int (prog : Program) (w : World) (i : Bool) : (mixKind prog w).is (.inl i) (.bool i) = true := by show boolIs i (.bool i) = true; simp [boolIs]
theorem mixKind_str (prog : Program) (w : World) (x : Str) (t : Tok) : (mixKind prog w).is (.inr x) (.str x t) = true := by show Value.isStrOf x (.str x t) = true; simp [Value.isStrOf]

end L2

namespace L2
open PySem PySem.Spec PyProof.Rows

/-- a value, without the heap -/
inductive V where
  | non | bl (b : Bool) | int (i : Int) | str (x : Str) | byt (b : Array UInt8) | flt (b : UInt64) | ref (a : Addr) | ty (n : String)
  deriving DecidableEq

def RelV : V → Value → Prop
  | .non, u => u = Value.none
  | .bl b, u => u = Value.bool b
  | .int i, u => ∃ t, u = Value.int i t
  | .str x, u => ∃ t, u = Value.str x t
  | .byt b, u => ∃ t, u = Value.bytes b t
  | .flt b, u => ∃ t, u = Value.float b t
  | .ref a, u => u = Value.ref a
  | .ty n, u => u = Value.type n

abbrev Vals : List V → List Value → Prop := Paired RelV
theorem Vals.length {xs : List V} {us : List Value} (r : Vals xs us) : xs.length = us.length := Paired.length r
theorem Vals.get : ∀ {xs : List V} {us : List Value} {i : Nat} {x : V}, Vals xs us → xs[i]? = some x → ∃ u, us[i]? = some u ∧ RelV x u
  | _, _, _, _, .nil, e => by simp at e
  | _, _, 0, _, .cons r _, e => by simp at e; subst e; exact ⟨_, rfl, r⟩
  | _, _, i + 1, x, .cons _ t, e => by
    obtain ⟨u, h1, h2⟩ := Vals.get (i := i) (x := x) t (by simpa using e)
    exact ⟨u, by simpa using h1, h2⟩
theorem Vals.append : ∀ {xs ys : List V} {us ws : List Value}, Vals xs us → Vals ys ws → Vals (xs ++ ys) (us ++ ws)
  | _, _, _, _, .nil, s => s
  | _, _, _, _, .cons r t, s => .cons r (Vals.append t s)
theorem Vals.take : ∀ {xs : List V} {us : List Value} (n : Nat), Vals xs us → Vals (xs.take n) (us.take n)
  | _, _, 0, _ => .nil
  | _, _, _ + 1, .nil => .nil
  | _, _, n + 1, .cons r t => .cons r (Vals.take n t)
theorem Vals.drop : ∀ {xs : List V} {us : List Value} (n : Nat), Vals xs us → Vals (xs.drop n) (us.drop n)
  | _, _, 0, r => r
  | _, _, _ + 1, .nil => .nil
  | _, _, n + 1, .cons _ t => Vals.drop n t

def RelO : Option V → Option Value → Prop
  | some v, some u => RelV v u
  | none, none => True
  | _, _ => False
def KV {κ : Type} : List (κ × V) → List (κ × Value) → Prop := Paired fun (p : κ × V) (q : κ × Value) => p.1 = q.1 ∧ RelV p.2 q.2

/-- a key of a dict (00_mix): an int or a text -/
def kV : Key → V
  | .inl i => .bl i
  | .inr x => .str x

/-- what stands at a tracked address -/
inductive HO where
  /-- a list -/
  | lst (xs : List V)
  /-- a tuple (never changes) -/
  | tup (xs : List V)
  /-- a dict whose keys are ints and texts; one whose keys are tuples of ints and texts (the empty one is both) -/
  | dK (kvs : List (Key × V)) | dT (kvs : List (List Key × V))
  /-- a set of ints: its members, its size -/
  | set (S : Int → Bool) (n : Nat)
  /-- an instance of the class at C, its dict at dx, its attributes -/
  | ins (C dx : Addr) (fs : List (Str × V))
  /-- the dict of the instance at x -/
  | own (x : Addr)
  /-- the dict of an exception -/
  | xd (fs : List (Str × V))
  /-- a bound method, f of x -/
  | met (f x : Addr)
  /-- a range object lo, lo + 1, .. below hi -/
  | rng (lo hi : Int)
  /-- a thing that is known to the object (the script; a dict while a loop walks it): read, never written while it is so -/
  | frz (o : Obj) (u : HO)
  /-- a code object's table -/
  | tbl (ps : Array Value)
  /-- any other thing, by what is true of its one object (a def of one's own: SetO a S n := HO.ext fun h => ..) -/
  | ext (φ : Heap → Prop)

abbrev Hp := Addr → Option HO
def upd (H : Hp) (a : Addr) (o : HO) : Hp := fun b => if b = a then some o else H b
theorem upd_same {H : Hp} {a : Addr} {o : HO} : upd H a o a = some o := by unfold upd; rw [if_pos rfl]
theorem upd_ne {H : Hp} {a b : Addr} {o : HO} (h : b ≠ a) : upd H a o b = H b := by unfold upd; rw [if_neg h]
/-- two objects of different content stand apart -/
theorem ne_of {H : Hp} {a b : Addr} {o u : HO} (h : H a = some o) (h' : H b = some u) (d : o ≠ u) : a ≠ b := by
  intro e; subst e; rw [h] at h'; exact d (Option.some.inj h')
theorem ne_of_none {H : Hp} {a b : Addr} {o : HO} (h : H a = some o) (h' : H b = none) : a ≠ b := by
  intro e; subst e; rw [h] at h'; cases h'

section
variable (P : Program) (w : World)
def ObjOk (H : Hp) (h : Heap) (a : Addr) : HO → Prop
  | .lst xs => xs.length ≤ sizeLine ∧ ∃ (its : List Value) (n : Nat), Vals xs its ∧ h.get? a = some { cls := .type "list", data := .seq its.toArray n }
  | .tup xs => xs.length ≤ sizeLine ∧ ∃ its : List Value, Vals xs its ∧ IsTup h a its.toArray
  | .dK kvs => kvs.length ≤ sizeLine ∧ (a == sysModules) = false ∧ ∃ vs, KV kvs vs ∧ h.DictOf (mixKind P w) a vs
  | .dT kvs => kvs.length ≤ sizeLine ∧ (a == sysModules) = false ∧ ∃ xs : List (List Key × Addr × Value),
      Paired (fun (p : List Key × V) (q : List Key × Addr × Value) => p.1 = q.1 ∧ H q.2.1 = some (.tup (p.1.map kV)) ∧ RelV p.2 q.2.2) kvs xs ∧
      ∃ o es ep, h.get? a = some o ∧ o.ExactDict ∧ o.data = .dict es ep ∧ es.toList = xs.map (entryOfKey (tupleKind (mixKind P w))) ∧ (xs.map (·.1)).Nodup
  | .set S n => h.SetOf (intKind P w) a S n
  | .ins C dx fs => H dx = some (.own a) ∧ fs.length ≤ 1000 ∧ dx ≠ a ∧ h.get? a = some (PySem.W.instObj C dx) ∧
      ∃ mA, h.Ns1 dx mA ∧ (∀ f, RelO (fs.lookup f) (mA f)) ∧ PySem.Within mA (fs.map (·.1))
  | .own _ => ∃ o, h.get? a = some o
  | .xd fs => ∃ mA, h.Ns1 a mA ∧ ∀ f, RelO (fs.lookup f) (mA f)
  | .rng lo hi => ∃ t u v, h.get? a = some { cls := .type "range", data := .fields #[.int lo t, .int hi u, .int 1 v] }
  | .frz o u => h.get? a = some o ∧ ObjOk H h a u
  | .tbl ps => h.get? a = some { cls := .none, data := .fields ps }
  | .met f x => h.get? a = some (PySem.W.methodObj (.ref f) (.ref x))
  | .ext φ => φ h ∧ (∃ o, h.get? a = some o) ∧ ∀ h1 h2 : Heap, φ h1 → (∀ o, h1.get? a = some o → h2.get? a = some o) → φ h2
/-- the abstract heap is held -/
def HOk (H : Hp) (h : Heap) : Prop := ∀ a o, H a = some o → ObjOk P w H h a o
end

section
variable {P : Program} {w : World} {H H' : Hp} {h h' : Heap} {a : Addr} {o : HO}
theorem ObjOk.lt (x : ObjOk P w H h a o) : a < h.objs.size := by
  cases o with
  | lst xs => obtain ⟨_, _, _, _, e⟩ := x; exact Heap.lt_size e
  | tup xs => obtain ⟨_, _, _, p⟩ := x; exact p.lt
  | dK kvs => obtain ⟨_, _, _, _, o, _, _, e, _⟩ := x; exact Heap.lt_size e
  | dT kvs => obtain ⟨_, _, _, _, o, _, _, e, _⟩ := x; exact Heap.lt_size e
  | set S n => obtain ⟨o, _, _, _, e, _⟩ := x; exact Heap.lt_size e
  | ins C dx fs => obtain ⟨_, _, _, e, _⟩ := x; exact Heap.lt_size e
  | own y => obtain ⟨_, e⟩ := x; exact Heap.lt_size e
  | xd fs => obtain ⟨_, ⟨_, _, _, e, _⟩, _⟩ := x; exact Heap.lt_size e
  | rng lo hi => obtain ⟨_, _, _, e⟩ := x; exact Heap.lt_size e
  | frz ob u => obtain ⟨e, _⟩ := x; exact Heap.lt_size e
  | tbl ps => exact Heap.lt_size (show h.get? a = some _ from x)
  | met f y => exact Heap.lt_size (show h.get? a = some _ from x)
  | ext φ => obtain ⟨_, ⟨_, e⟩, _⟩ := x; exact Heap.lt_size e
theorem Paired.mapP {α β : Type} {F G : α → β → Prop} : ∀ {l₁ : List α} {l₂ : List β}, Paired F l₁ l₂ → (∀ a b, F a b → G a b) → Paired G l₁ l₂
  | _, _, .nil, _ => .nil
  | _, _, .cons r t, f => .cons (f _ _ r) (Paired.mapP t f)
/-- what an object's description leans on: its own object, its own dict, the tuples -/
theorem ObjOk.stay (x : ObjOk P w H h a o) (k : ∀ b u, (b = a ∨ H b = some (.own a)) → h.get? b = some u → h'.get? b = some u)
    (ho : ∀ b, H b = some (.own a) → H' b = some (.own a)) (ht : ∀ b xs, H b = some (.tup xs) → H' b = some (.tup xs)) : ObjOk P w H' h' a o := by
  induction o with
  | lst xs => obtain ⟨z, its, n, r, e⟩ := x; exact ⟨z, its, n, r, k _ _ (.inl rfl) e⟩
  | tup xs => obtain ⟨z, its, r, ob, e, c⟩ := x; exact ⟨z, its, r, ob, k _ _ (.inl rfl) e, c⟩
  | dK kvs => obtain ⟨z, y, vs, r, ob, es, ep, e, c⟩ := x; exact ⟨z, y, vs, r, ob, es, ep, k _ _ (.inl rfl) e, c⟩
  | dT kvs =>
    obtain ⟨z, y, xs, r, ob, es, ep, e, c⟩ := x
    exact ⟨z, y, xs, Paired.mapP r fun p q z => ⟨z.1, ht _ _ z.2.1, z.2.2⟩, ob, es, ep, k _ _ (.inl rfl) e, c⟩
  | set S n => obtain ⟨ob, es, ep, t, e, c⟩ := x; exact ⟨ob, es, ep, t, k _ _ (.inl rfl) e, c⟩
  | ins C dx fs =>
    obtain ⟨d, z, ne, e, mA, ⟨od, es, ep, e2, c⟩, r⟩ := x
    exact ⟨ho _ d, z, ne, k _ _ (.inl rfl) e, mA, ⟨od, es, ep, k _ _ (.inr d) e2, c⟩, r⟩
  | own y => obtain ⟨ob, e⟩ := x; exact ⟨ob, k _ _ (.inl rfl) e⟩
  | xd fs => obtain ⟨mA, ⟨od, es, ep, e, c⟩, r⟩ := x; exact ⟨mA, ⟨od, es, ep, k _ _ (.inl rfl) e, c⟩, r⟩
  | rng lo hi => obtain ⟨t, u, v, e⟩ := x; exact ⟨t, u, v, k _ _ (.inl rfl) e⟩
  | frz ob u ih => obtain ⟨e, q⟩ := x; exact ⟨k _ _ (.inl rfl) e, ih q⟩
  | tbl ps =>
    have e : h.get? a = some { cls := .none, data := .fields ps } := x
    show h'.get? a = some { cls := .none, data := .fields ps }
    exact k a _ (.inl rfl) e
  | met f y =>
    have e : h.get? a = some (PySem.W.methodObj (.ref f) (.ref y)) := x
    show h'.get? a = some (PySem.W.methodObj (.ref f) (.ref y))
    exact k a _ (.inl rfl) e
  | ext φ => obtain ⟨p, ⟨o, e⟩, st⟩ := x; exact ⟨st _ _ p fun o q => k _ _ (.inl rfl) q, ⟨o, k _ _ (.inl rfl) e⟩, st⟩
theorem HOk.lt (x : HOk P w H h) (e : H a = some o) : a < h.objs.size := (x a o e).lt
theorem HOk.fresh (x : HOk P w H h) (e : h.objs.size ≤ a) : H a = none := by
  cases q : H a with
  | none => rfl
  | some u => exact absurd (Nat.lt_of_lt_of_le (x.lt q) e) (Nat.lt_irrefl _)
/-- every object of the heap is kept -/
theorem HOk.kept (x : HOk P w H h) (k : ∀ b u, h.get? b = some u → h'.get? b = some u) : HOk P w H h' := fun a o e =>
  (x a o e).stay (fun b u _ q => k b u q) (fun _ q => q) fun _ _ q => q
/-- a new object is laid and tracked -/
theorem HOk.laid (x : HOk P w H h) (k : ∀ b u, h.get? b = some u → h'.get? b = some u) (hp : h.objs.size ≤ a) (new : ObjOk P w (upd H a o) h' a o) : HOk P w (upd H a o) h' := fun b u e => by
  have hn := x.fresh hp
  by_cases hb : b = a
  · subst hb; rw [upd_same] at e; cases e; exact new
  · rw [upd_ne hb] at e
    exact (x b u e).stay (fun c v _ q => k c v q) (fun c q => by rw [upd_ne (ne_of_none q hn)]; exact q) fun c xs q => by rw [upd_ne (ne_of_none q hn)]; exact q
end

/-- what may be read as u: it is u, or a known u -/
def Rd (H : Hp) (a : Addr) (u : HO) : Prop := H a = some u ∨ ∃ o, H a = some (.frz o u)
theorem Rd.ok {P : Program} {w : World} {H : Hp} {h : Heap} {a : Addr} {u : HO} (r : Rd H a u) (x : HOk P w H h) : ObjOk P w H h a u := by
  rcases r with r | ⟨o, r⟩
  · exact x a u r
  · obtain ⟨_, q⟩ := x a _ r
    exact q
/-- what may be written -/
def Mut : Option HO → Prop
  | some (.lst _) => True
  | some (.dK _) => True
  | some (.dT _) => True
  | some (.set _ _) => True
  | some (.ins _ _ _) => True
  | some (.ext _) => True
  | _ => False
section
variable {P : Program} {w : World} {H : Hp} {h h' : Heap} {x e : Addr} {o' : HO}
/-- the object at e is changed: x itself, or the dict of the instance x -/
theorem HOk.write (ok : HOk P w H h) (mu : Mut (H x)) (he : e = x ∨ H e = some (.own x)) (k : ∀ b u, b ≠ e → h.get? b = some u → h'.get? b = some u) (heo : ∃ u, h'.get? e = some u)
    (new : ObjOk P w (upd H x o') h' x o') : HOk P w (upd H x o') h' := fun b u q => by
  have nown : ∀ c y, H c = some (.own y) → c ≠ x := fun c y r z => by subst z; rw [r] at mu; exact mu
  have ntup : ∀ c xs, H c = some (.tup xs) → c ≠ x := fun c xs r z => by subst z; rw [r] at mu; exact mu
  by_cases hb : b = x
  · subst hb; rw [upd_same] at q; cases q; exact new
  · rw [upd_ne hb] at q
    by_cases hbe : b = e
    · have q' : H b = some (.own x) := by
        rcases he with z | z
        · exact absurd (hbe.trans z) hb
        · rw [hbe]; exact z
      rw [q] at q'; cases q'
      obtain ⟨v, hv⟩ := heo
      exact ⟨v, by rw [hbe]; exact hv⟩
    · refine (ok b u q).stay (fun c v hc r => k c v ?_ r) (fun c r => by rw [upd_ne (nown c b r)]; exact r) fun c xs r => by rw [upd_ne (ntup c xs r)]; exact r
      rcases hc with rfl | hc
      · exact hbe
      · rintro rfl
        rcases he with z | z
        · exact nown c b hc z
        · rw [hc] at z; cases z; exact hb rfl
end

/-! ### kept unless tracked; of the frames at fs (the callers') the slots may change (an exception that passes writes there); of the records at ex (iterators) nothing is said -/
structure Un (fs ex : List Addr) (H H' : Hp) (h h' : Heap) : Prop where
  keep : ∀ b o, h.get? b = some o → H b = none → b ∉ fs → b ∉ ex → h'.get? b = some o
  slot : ∀ b o, h.get? b = some o → H b = none → b ∈ fs → b ∉ ex → ∃ sl, h'.get? b = some { o with slots := sl }
  free : ∀ b o, h.get? b = some o → H b = none → b ∉ ex → H' b = none
  there : ∀ b o, h.get? b = some o → b ∉ ex → ∃ o', h'.get? b = some o'
  tups : ∀ b xs, H b = some (.tup xs) → H' b = some (.tup xs)
  frzs : ∀ b o u, H b = some (.frz o u) → H' b = some (.frz o u)
  tbls : ∀ b ps, H b = some (.tbl ps) → ∃ more, H' b = some (.tbl (ps ++ more))
section
variable {fs fs' ex ex' : List Addr} {H H1 H2 : Hp} {h h1 h2 h' : Heap} {a x e : Addr} {o : HO}
theorem Un.any (u : Un fs ex H H1 h h1) {b : Addr} {ob : Obj} (q : h.get? b = some ob) (n : H b = none) (hx : b ∉ ex) : ∃ sl, h1.get? b = some { ob with slots := sl } := by
  by_cases hb : b ∈ fs
  · exact u.slot b ob q n hb hx
  · exact ⟨ob.slots, u.keep b ob q n hb hx⟩
theorem Un.kept (k : ∀ b u, h.get? b = some u → h'.get? b = some u) : Un fs ex H H h h' :=
  ⟨fun b ob q _ _ _ => k b ob q, fun b ob q _ _ _ => ⟨ob.slots, k b ob q⟩, fun _ _ _ n _ => n, fun b ob q _ => ⟨ob, k b ob q⟩, fun _ _ q => q, fun _ _ _ q => q, fun _ ps q => ⟨#[], by rw [q]; simp⟩⟩
theorem Un.refl : Un fs ex H H h h := Un.kept fun _ _ q => q
theorem Un.laid (k : ∀ b u, h.get? b = some u → h'.get? b = some u) (hp : h.objs.size ≤ a) (hn : H a = none) : Un fs ex H (upd H a o) h h' where
  keep := fun b u q _ _ _ => k b u q
  slot := fun b u q _ _ _ => ⟨u.slots, k b u q⟩
  free := fun b u q n _ => by rw [upd_ne (Nat.ne_of_lt (Nat.lt_of_lt_of_le (Heap.lt_size q) hp))]; exact n
  there := fun b u q _ => ⟨u, k b u q⟩
  tups := fun b xs q => by rw [upd_ne (ne_of_none q hn)]; exact q
  frzs := fun b u xs q => by rw [upd_ne (ne_of_none q hn)]; exact q
  tbls := fun b ps q => ⟨#[], by rw [upd_ne (ne_of_none q hn), q]; simp⟩
theorem Un.write (mu : Mut (H x)) (he : e = x ∨ H e = some (.own x)) (k : ∀ b u, b ≠ e → h.get? b = some u → h'.get? b = some u) (heo : ∃ u, h'.get? e = some u) : Un fs ex H (upd H x o) h h' := by
  have hx : ∀ b, H b = none → b ≠ x := fun b n z => by subst z; rw [n] at mu; exact mu
  have hb : ∀ b, H b = none → b ≠ e := fun b n z => by
    subst z
    rcases he with r | r
    · exact hx b n r
    · rw [n] at r; cases r
  have hm : ∀ b u, H b = some u → ¬ Mut (some u) → b ≠ x := fun b u q nm z => by subst z; rw [q] at mu; exact nm mu
  refine ⟨fun b u q n _ _ => k b u (hb b n) q, fun b u q n _ _ => ⟨u.slots, k b u (hb b n) q⟩, fun b u q n _ => by rw [upd_ne (hx b n)]; exact n, fun b u q _ => ?_,
    fun b xs q => by rw [upd_ne (hm b _ q fun z => z)]; exact q, fun b u xs q => by rw [upd_ne (hm b _ q fun z => z)]; exact q, fun b ps q => ⟨#[], by rw [upd_ne (hm b _ q fun z => z), q]; simp⟩⟩
  by_cases hbe : b = e
  · subst hbe; exact heo
  · exact ⟨u, k b u hbe q⟩
end

/-! ### the heap without what is tracked -/
def trk (h : Heap) (H : Hp) : List Addr := (List.range h.objs.size).filter fun a => (H a).isSome
def hidT (h : Heap) (H : Hp) : Heap := PySem.W.hideAll h (trk h H)
theorem hidT_size (h : Heap) (H : Hp) : (hidT h H).objs.size = h.objs.size := PySem.W.hideAll_size _ _
theorem hidT_get {h : Heap} {H : Hp} {b : Addr} {o : Obj} (e : h.get? b = some o) (n : H b = none) : (hidT h H).get? b = some o :=
  PySem.W.hideAll_get _ e fun hm => by
    have q : (H b).isSome = true := (List.mem_filter.mp hm).2
    rw [n] at q; simp at q
theorem of_hidT {h : Heap} {H : Hp} {b : Addr} {o : Obj} (e : (hidT h H).get? b = some o) : h.get? b = some o ∧ H b = none := by
  have e' : h.get? b = some o := PySem.W.of_hideAll (trk h H) e
  refine ⟨e', ?_⟩
  cases q : H b with
  | none => rfl
  | some x =>
    have hm : b ∈ trk h H := List.mem_filter.mpr ⟨List.mem_range.mpr (Heap.lt_size e'), by simp [q]⟩
    have z : (hidT h H).get? b = none := PySem.W.hideAll_none (trk h H) hm
    rw [z] at e; cases e

/-! ### OpenK's ledger, filled with every new object but one -/
def allNews (g h : Heap) (L : Addr) : List (Addr × Obj) := (List.range h.objs.size).filterMap fun a => if a = L ∨ (g.get? a).isSome = true then none else (h.get? a).map fun o => (a, o)
def rest (g h : Heap) (L d : Addr) : List (Addr × Obj) := (allNews g h L).filter fun p => decide (p.1 ≠ d)
end L2

namespace L2
open PySem PySem.Spec PyProof.Rows

/-- the module's facts, over the base: the heap at the law's entry without what is tracked there -/
structure Mod (K : PySem.W.Frag) (mg : Str → Option Value) (base : Heap) : Prop where
  kin : K.In base
  glob : base.Ns mainGlobals mg
  blt : ∃ mb, base.Ns builtinsNs mb ∧ ∀ x : Str, x ≠ "__name__" → mb x = bootBuiltins x
  nolimit : base.NoLimit

/-- the context: a def's body (or a comprehension's block) running. base: fixed through the whole law; s₀, H₀: the entry; outer: the frames whose slots others may change (a def's callers); stack: all frames that run;
   ex: iterators that were made ahead of the entry and are walked here (a comprehension's); fn: the names whose cells were made at the entry (a def: all; a comprehension's block: its own); calm: not within an except suite; pn: pins that every state bears; xe: what is wanted of an exception that leaves the code -/
structure Cx where
  prog : Program
  w : World
  K : PySem.W.Frag
  mg : Str → Option Value
  base : Heap
  A : Around
  N : List Str
  s₀ : Shared
  H₀ : Hp
  env : Env
  outer : List Env
  stack : List Env
  ex : List Addr
  fn : Str → Bool
  calm : Bool
  pn : List (Addr × Obj)
  xe : Value → Shared → Prop
/-- the callers' frames -/
def frs (l : List Env) : List Addr := l.filterMap (·.frame)
abbrev Cx.fs (X : Cx) : List Addr := frs X.outer

def Vis (sc : Scope) (x : Str) : Prop := sc.names.lookup x = some .local ∨ sc.names.lookup x = some .cell ∨ sc.names.lookup x = some .free
def Loc (sc : Scope) (x : Str) : Prop := sc.names.lookup x = some .local ∨ sc.names.lookup x = some .cell
def Look (env : Env) (h : Heap) (m : Str → Option Value) (x : Str) (u : Value) : Prop :=
  (env.kindOf x = some .local ∧ m x = some u) ∨ ((env.kindOf x = some .cell ∨ env.kindOf x = some .free) ∧ ∃ c, env.cells.lookup x = some c ∧ h.IsCell c (some u))

structure Cx.Ok (X : Cx) : Prop where
  mod : Mod X.K X.mg X.base
  kind : X.env.scope.kind = .function
  glob : X.env.globals = mainGlobals
  blt : X.env.builtins = builtinsNs
  above : X.s₀.heap.objs.size ≤ X.env.locals
  inj : ∀ x y c, X.env.cells.lookup x = some c → X.env.cells.lookup y = some c → x = y
  has : ∀ x, (X.env.kindOf x = some .cell ∨ X.env.kindOf x = some .free) → ∃ c, X.env.cells.lookup x = some c
  cab : ∀ x c, X.fn x = true → X.env.cells.lookup x = some c → X.s₀.heap.objs.size ≤ c
  hd : X.calm = true → X.A.handled = none
  frames : X.A.frames = some X.stack
  stk : X.stack = X.outer ∨ (X.stack = X.env :: X.outer ∧ X.env.frame = some X.env.locals)
  exf : ∀ b ∈ X.ex, b ≠ X.env.locals ∧ ∀ x c, X.env.cells.lookup x = some c → c ≠ b
  bs : ∀ b o, X.base.get? b = some o → X.s₀.heap.get? b = some o ∧ X.H₀ b = none
  bsz : X.base.objs.size ≤ X.s₀.heap.objs.size
  noex : ∀ b o, X.base.get? b = some o → b ∉ X.ex
  exfs : ∀ b ∈ X.ex, b ∉ X.fs
  funs : X.s₀.heap.FunFrames X.base X.outer
  frf : ∀ b ∈ X.fs, X.H₀ b = none

structure Inv (X : Cx) (pins : List (Addr × Obj)) (σ : List (Option V)) (H : Hp) (s : Shared) : Prop where
  ok : X.Ok
  os : s.os = X.s₀.os
  bare : AllBare s.gens
  base : Un X.fs X.ex X.H₀ H X.s₀.heap s.heap
  loc : ∃ m, s.heap.Ns X.env.locals m ∧ ∀ (i : Nat) (x : Str) (v : V), X.N[i]? = some x → σ[i]? = some (some v) → Vis X.env.scope x → ∃ u, RelV v u ∧ Look X.env s.heap m x u
  cell : ∀ x c, X.env.cells.lookup x = some c → ∃ v, s.heap.IsCell c v
  free : H X.env.locals = none
  freeC : ∀ x c, X.env.cells.lookup x = some c → H c = none
  pin : ∀ p ∈ X.pn ++ pins, s.heap.get? p.1 = some p.2 ∧ H p.1 = none ∧ p.1 ≠ X.env.locals ∧ p.1 ∉ X.fs ∧ ∀ v, p.2.data ≠ .cell v
  hok : HOk X.prog X.w H s.heap
  len : σ.length = X.N.length

section
variable {X : Cx} {pins : List (Addr × Obj)} {σ : List (Option V)} {H H' : Hp} {s : Shared} {h' : Heap}

theorem Cx.Ok.nofr (ok : X.Ok) {b : Addr} {o : Obj} (e : X.base.get? b = some o) : b ∉ X.fs := fun hb => by
  have := (ok.funs.mem hb).1
  rw [e] at this; cases this
theorem Inv.bs (I : Inv X pins σ H s) : ∀ b o, X.base.get? b = some o → s.heap.get? b = some o ∧ H b = none := fun b o e =>
  ⟨I.base.keep b o (I.ok.bs b o e).1 (I.ok.bs b o e).2 (I.ok.nofr e) (I.ok.noex b o e), I.base.free b o (I.ok.bs b o e).1 (I.ok.bs b o e).2 (I.ok.noex b o e)⟩
theorem Inv.bk (I : Inv X pins σ H s) : ∀ b o, X.base.get? b = some o → s.heap.get? b = some o := fun b o e => (I.bs b o e).1
theorem Inv.mod (I : Inv X pins σ H s) : Mod X.K X.mg X.base := I.ok.mod
theorem Inv.kIn (I : Inv X pins σ H s) : X.K.In s.heap := I.ok.mod.kin.keeps I.bk
theorem Inv.lt (I : Inv X pins σ H s) : X.env.locals < s.heap.objs.size := let ⟨_, hn, _⟩ := I.loc; hn.lt
theorem Inv.sz (I : Inv X pins σ H s) : X.s₀.heap.objs.size ≤ s.heap.objs.size := Nat.le_trans I.ok.above (Nat.le_of_lt I.lt)
theorem Inv.nofs (I : Inv X pins σ H s) {a : Addr} (h : s.heap.objs.size ≤ a) : a ∉ X.fs := fun hb => by
  obtain ⟨_, o, ho, _⟩ := I.ok.funs.mem hb
  exact absurd (Nat.lt_of_lt_of_le (Heap.lt_size ho) (Nat.le_trans I.sz h)) (Nat.lt_irrefl _)
theorem Inv.cne (I : Inv X pins σ H s) : ∀ x c, X.env.cells.lookup x = some c → c ≠ X.env.locals := fun x c e z => by
  obtain ⟨v, o, ho, hd⟩ := I.cell x c e
  obtain ⟨m, ⟨o', es, ep, ho', hd', _⟩, _⟩ := I.loc
  rw [z, ho'] at ho; cases ho; rw [hd'] at hd; cases hd
theorem Inv.funs (I : Inv X pins σ H s) : s.heap.FunFrames X.base X.outer := by
  have all : ∀ (l : List Env), (∀ b ∈ frs l, b ∈ X.fs) → X.s₀.heap.FunFrames X.base l → s.heap.FunFrames X.base l := by
    intro l
    induction l with
    | nil => intro _ _; trivial
    | cons env r ih =>
      intro hs hl
      obtain ⟨hk, ⟨L, o, hf, hn, ho, hd⟩, hr⟩ := hl
      have hL : L ∈ X.fs := hs L (by unfold frs; rw [List.filterMap_cons, hf]; exact List.mem_cons_self)
      obtain ⟨sl, e⟩ := I.base.slot L o ho (I.ok.frf L hL) hL fun z => I.ok.exfs L z hL
      exact ⟨hk, ⟨L, _, hf, hn, e, hd⟩, ih (fun b hb => hs b (by unfold frs; rw [List.filterMap_cons, hf]; exact List.mem_cons_of_mem _ hb)) hr⟩
  exact all X.outer (fun _ hb => hb) I.ok.funs

/-- the frames that run, for a call -/
theorem Inv.stack (I : Inv X pins σ H s) : s.heap.FunFrames X.base X.stack := by
  rcases I.ok.stk with e | ⟨e, hf⟩
  · rw [e]; exact I.funs
  · rw [e]
    obtain ⟨m, hn, _⟩ := I.loc
    refine .cons (by rw [I.ok.kind]; decide) hf hn ?_ I.funs
    exact Heap.get?_none_of_le (Nat.le_trans I.ok.bsz I.ok.above)
theorem Inv.stkSub (I : Inv X pins σ H s) : ∀ b ∈ frs X.stack, b ∈ X.env.locals :: X.fs := fun b hb => by
  rcases I.ok.stk with e | ⟨e, hf⟩
  · rw [e] at hb; exact List.mem_cons_of_mem _ hb
  · rw [e] at hb
    unfold frs at hb
    rw [List.filterMap_cons, hf] at hb
    exact hb
theorem Inv.stkFree (I : Inv X pins σ H s) : ∀ b ∈ frs X.stack, H b = none := fun b hb => by
  rcases List.mem_cons.mp (I.stkSub b hb) with e | hb
  · rw [e]; exact I.free
  · obtain ⟨_, o, ho, _⟩ := I.ok.funs.mem hb
    exact I.base.free b o ho (I.ok.frf b hb) fun z => I.ok.exfs b z hb

/-- THE STEP: the untracked objects but the frame and the records at ch are kept (the callers' frames up to slots), the frame's map is kept, the new abstract heap is held -/
theorem Inv.step {g' : Array GenState} {t' : Nat} {d' : Drawn} {ch : List Addr} (I : Inv X pins σ H s)
    (hch : ∀ b ∈ ch, (b ∈ X.ex ∨ X.s₀.heap.objs.size ≤ b) ∧ b ≠ X.env.locals ∧ (∀ x c, X.env.cells.lookup x = some c → c ≠ b) ∧ ∀ p ∈ X.pn ++ pins, p.1 ≠ b)
    (keep : ∀ b o, b ≠ X.env.locals → b ∉ X.fs → b ∉ ch → s.heap.get? b = some o → H b = none → h'.get? b = some o)
    (slot : ∀ b o, b ≠ X.env.locals → b ∈ X.fs → b ∉ ch → s.heap.get? b = some o → H b = none → ∃ sl, h'.get? b = some { o with slots := sl }) (free : ∀ b o, b ∉ ch → s.heap.get? b = some o → H b = none → H' b = none)
    (there : ∀ b o, b ∉ ch → s.heap.get? b = some o → ∃ o', h'.get? b = some o')
    (tups : ∀ b xs, H b = some (.tup xs) → H' b = some (.tup xs)) (frzs : ∀ b o u, H b = some (.frz o u) → H' b = some (.frz o u)) (tbls : ∀ b ps, H b = some (.tbl ps) → ∃ more, H' b = some (.tbl (ps ++ more)))
    (ns : ∀ m, s.heap.Ns X.env.locals m → h'.Ns X.env.locals m) (hok : HOk X.prog X.w H' h') (hg : AllBare g') :
    Inv X pins σ H' { s with heap := h', gens := g', drawn := d', toks := t' } := by
  have neL : ∀ b o, X.s₀.heap.get? b = some o → b ≠ X.env.locals := fun b o e => Nat.ne_of_lt (Nat.lt_of_lt_of_le (Heap.lt_size e) I.ok.above)
  have neC : ∀ b o, X.s₀.heap.get? b = some o → b ∉ X.ex → b ∉ ch := fun b o e hx hb => by
    rcases (hch b hb).1 with z | z
    · exact hx z
    · exact absurd (Nat.lt_of_lt_of_le (Heap.lt_size e) z) (Nat.lt_irrefl _)
  have cellK : ∀ x c, X.env.cells.lookup x = some c → ∀ v, s.heap.IsCell c v → h'.IsCell c v := fun x c e v ⟨o, ho, hd⟩ => by
    have nch : c ∉ ch := fun z => (hch c z).2.2.1 x c e rfl
    by_cases hc : c ∈ X.fs
    · obtain ⟨sl, q⟩ := slot c o (I.cne x c e) hc nch ho (I.freeC x c e)
      exact ⟨_, q, hd⟩
    · exact ⟨o, keep c o (I.cne x c e) hc nch ho (I.freeC x c e), hd⟩
  refine ⟨I.ok, I.os, hg, ⟨fun b o e n hb hx => ?_, fun b o e n hb hx => ?_, fun b o e n hx => ?_, fun b o e hx => ?_, fun b xs e => tups b xs (I.base.tups b xs e), fun b o xs e => frzs b o xs (I.base.frzs b o xs e), fun b ps e => ?_⟩, ?_, fun x c e => ?_, ?_, fun x c e => ?_, fun p hp => ?_, hok, I.len⟩
  · exact keep b o (neL b o e) hb (neC b o e hx) (I.base.keep b o e n hb hx) (I.base.free b o e n hx)
  · obtain ⟨sl, e1⟩ := I.base.slot b o e n hb hx
    obtain ⟨sl', e2⟩ := slot b _ (neL b o e) hb (neC b o e hx) e1 (I.base.free b o e n hx)
    exact ⟨sl', e2⟩
  · obtain ⟨o', e1⟩ := I.base.there b o e hx
    exact free b o' (neC b o e hx) e1 (I.base.free b o e n hx)
  · obtain ⟨o', e1⟩ := I.base.there b o e hx
    exact there b o' (neC b o e hx) e1
  · obtain ⟨m1, e1⟩ := I.base.tbls b ps e
    obtain ⟨m2, e2⟩ := tbls b _ e1
    exact ⟨m1 ++ m2, by rw [e2, Array.append_assoc]⟩
  · obtain ⟨m, hn, hl⟩ := I.loc
    refine ⟨m, ns m hn, fun i x v e1 e2 e3 => ?_⟩
    obtain ⟨u, r, l⟩ := hl i x v e1 e2 e3
    refine ⟨u, r, ?_⟩
    rcases l with l | ⟨k, c, e, z⟩
    · exact .inl l
    · exact .inr ⟨k, c, e, cellK x c e _ z⟩
  · obtain ⟨v, z⟩ := I.cell x c e
    exact ⟨v, cellK x c e v z⟩
  · obtain ⟨m, ⟨o, _, _, ho, _⟩, _⟩ := I.loc
    exact free _ o (fun z => (hch _ z).2.1 rfl) ho I.free
  · obtain ⟨v, o, ho, hd⟩ := I.cell x c e
    exact free c o (fun z => (hch c z).2.2.1 x c e rfl) ho (I.freeC x c e)
  · obtain ⟨e, n, ne, nf, d⟩ := I.pin p hp
    have nch : p.1 ∉ ch := fun z => (hch p.1 z).2.2.2 p hp rfl
    exact ⟨keep p.1 p.2 ne nf nch e n, free p.1 p.2 nch e n, ne, nf, d⟩
/-- .. where the frame's own object is kept too -/
theorem Inv.un {t' : Nat} (I : Inv X pins σ H s) (u : Un X.fs [] H H' s.heap h') (hok : HOk X.prog X.w H' h') : Inv X pins σ H' { s with heap := h', toks := t' } := by
  obtain ⟨m, ⟨o, es, ep, ho, r⟩, _⟩ := id I.loc
  obtain ⟨sl, hL⟩ := u.any ho I.free (by simp)
  exact I.step (g' := s.gens) (d' := s.drawn) (ch := []) (fun _ z => nomatch z) (fun b o _ hb _ e n => u.keep b o e n hb (by simp)) (fun b o _ hb _ e n => u.slot b o e n hb (by simp)) (fun b o _ e n => u.free b o e n (by simp)) (fun b o _ e => u.there b o e (by simp)) u.tups u.frzs u.tbls (fun m' hm => by
    obtain ⟨o', es', ep', ho', r'⟩ := hm
    rw [ho] at ho'; cases ho'
    exact ⟨_, es', ep', hL, r'⟩) hok I.bare
/-- behind a call (or a comprehension's block): the slots of this frame may have changed too, the records at ch may have turned -/
theorem Inv.call {g' : Array GenState} {t' : Nat} {d' : Drawn} {ch : List Addr} (I : Inv X pins σ H s) (u : Un (frs X.stack) ch H H' s.heap h') (hok : HOk X.prog X.w H' h') (hg : AllBare g')
    (hch : ∀ b ∈ ch, (b ∈ X.ex ∨ X.s₀.heap.objs.size ≤ b) ∧ b ≠ X.env.locals ∧ (∀ x c, X.env.cells.lookup x = some c → c ≠ b) ∧ ∀ p ∈ X.pn ++ pins, p.1 ≠ b) :
    Inv X pins σ H' { s with heap := h', gens := g', drawn := d', toks := t' } := by
  obtain ⟨m, ⟨o, es, ep, ho, r⟩, _⟩ := id I.loc
  obtain ⟨sl, hL⟩ := u.any ho I.free fun z => (hch _ z).2.1 rfl
  exact I.step (ch := ch) hch (fun b o hL hb hc e n => u.keep b o e n (fun z => (List.mem_cons.mp (I.stkSub b z)).elim hL hb) hc) (fun b o _ _ hc e n => u.any e n hc) (fun b o hc e n => u.free b o e n hc) (fun b o hc e => u.there b o e hc) u.tups u.frzs u.tbls (fun m' hm => by
    obtain ⟨o', es', ep', ho', r'⟩ := hm
    rw [ho] at ho'; cases ho'
    exact ⟨_, es', ep', hL, r'⟩) hok hg
/-- an untracked record of ours (an iterator) has turned -/
theorem Inv.turned {t' : Nat} {it : Addr} (I : Inv X pins σ H s) (k : ∀ b o, b ≠ it → s.heap.get? b = some o → h'.get? b = some o) (hn : H it = none) (hL : it ≠ X.env.locals)
    (h1 : it ∈ X.ex ∨ X.s₀.heap.objs.size ≤ it) (h2 : ∀ x c, X.env.cells.lookup x = some c → c ≠ it) (h3 : ∀ p ∈ X.pn ++ pins, p.1 ≠ it) : Inv X pins σ H { s with heap := h', toks := t' } := by
  have nit : ∀ b u, H b = some u → b ≠ it := fun b u e z => by rw [z, hn] at e; cases e
  refine I.step (g' := s.gens) (d' := s.drawn) (ch := [it]) (fun b hb => ?_) (fun b o _ _ hc e _ => k b o (fun z => hc (by simp [z])) e) (fun b o _ _ hc e _ => ⟨o.slots, k b o (fun z => hc (by simp [z])) e⟩) (fun _ _ _ _ n => n)
    (fun b o hc e => ⟨o, k b o (fun z => hc (by simp [z])) e⟩) (fun _ _ e => e) (fun _ _ _ e => e) (fun b ps e => ⟨#[], by rw [e]; simp⟩) (fun m hm => ?_) (fun b u e => ?_) I.bare
  · have e : b = it := by simpa using hb
    subst e
    exact ⟨h1, hL, h2, h3⟩
  · obtain ⟨o, es, ep, ho, r⟩ := hm
    exact ⟨o, es, ep, k _ o (Ne.symm hL) ho, r⟩
  · refine (I.hok b u e).stay (fun c v hc q => k c v ?_ q) (fun _ q => q) fun _ _ q => q
    rcases hc with z | z
    · rw [z]; exact nit b u e
    · exact nit c _ z
theorem Inv.tok (I : Inv X pins σ H s) (t : Nat) : Inv X pins σ H { s with toks := t } := I.un (h' := s.heap) (t' := t) Un.refl I.hok
/-- all objects kept -/
theorem Inv.kept {t' : Nat} (I : Inv X pins σ H s) (k : ∀ b u, s.heap.get? b = some u → h'.get? b = some u) : Inv X pins σ H { s with heap := h', toks := t' } := I.un (Un.kept k) (I.hok.kept k)
/-- a new object laid and tracked -/
theorem Inv.laid {a : Addr} {o : HO} {t' : Nat} (I : Inv X pins σ H s) (k : ∀ b u, s.heap.get? b = some u → h'.get? b = some u) (hp : s.heap.objs.size ≤ a) (new : ObjOk X.prog X.w (upd H a o) h' a o) :
    Inv X pins σ (upd H a o) { s with heap := h', toks := t' } := I.un (Un.laid k hp (I.hok.fresh hp)) (I.hok.laid k hp new)
/-- an object written -/
theorem Inv.write {x e : Addr} {o : HO} {t' : Nat} (I : Inv X pins σ H s) (mu : Mut (H x)) (he : e = x ∨ H e = some (.own x)) (k : ∀ b u, b ≠ e → s.heap.get? b = some u → h'.get? b = some u) (heo : ∃ u, h'.get? e = some u)
    (new : ObjOk X.prog X.w (upd H x o) h' x o) : Inv X pins σ (upd H x o) { s with heap := h', toks := t' } := I.un (Un.write mu he k heo) (I.hok.write mu he k heo new)
theorem Inv.pins_of {pins' : List (Addr × Obj)} (I : Inv X pins σ H s) (h : ∀ p ∈ pins', s.heap.get? p.1 = some p.2 ∧ H p.1 = none ∧ p.1 ≠ X.env.locals ∧ p.1 ∉ X.fs ∧ ∀ v, p.2.data ≠ .cell v) : Inv X pins' σ H s :=
  ⟨I.ok, I.os, I.bare, I.base, I.loc, I.cell, I.free, I.freeC, fun p hp => (List.mem_append.mp hp).elim (fun z => I.pin p (List.mem_append_left _ z)) (h p), I.hok, I.len⟩

theorem nodup_ix {N : List Str} (hN : N.Nodup) {i j : Nat} {x : Str} (a : N[i]? = some x) (b : N[j]? = some x) : i = j := by
  obtain ⟨h1, e1⟩ := List.getElem?_eq_some_iff.mp a
  obtain ⟨h2, e2⟩ := List.getElem?_eq_some_iff.mp b
  exact (List.getElem_inj hN).mp (e1.trans e2.symm)

/-- a name is stored; what changed -/
theorem store_ok2 {M : Model} {A : Around} {E : Value → Shared → Prop} {i : Nat} {x : Str} {v : V} {u : Value} {Q : Unit → Shared → Prop} (I : Inv X pins σ H s) (hN : X.N.Nodup) (hi : X.N[i]? = some x) (hx : Loc X.env.scope x) (r : RelV v u)
    (h : ∀ s', Inv X pins (σ.set i (some v)) H s' → (∃ a, Heap.SameBut a s.heap s'.heap ∧ (a = X.env.locals ∨ X.env.cells.lookup x = some a)) → Q () s') (hf : X.fn x = true ∨ X.env.scope.names.lookup x = some .local := by first | exact .inl rfl | exact .inr rfl | assumption) : wpAny M A (storeName X.env x u) Q E s := by
  obtain ⟨m, hn, hl⟩ := id I.loc
  have hcls : (X.env.scope.kind == .class || (X.env.scope.kind == .module && X.env.locals != X.env.globals)) = false := by rw [I.ok.kind]; rfl
  have hiσ : i < σ.length := by rw [I.len]; exact (List.getElem?_eq_some_iff.mp hi).1
  have cne := I.cne
  have tracked : ∀ {a : Addr} {h' : Heap}, (∃ o, s.heap.get? a = some o ∧ H a = none) → Heap.SameBut a s.heap h' → HOk X.prog X.w H h' := fun {a h'} ha hs b ob e => by
    obtain ⟨_, _, hfree⟩ := ha
    refine (I.hok b ob e).stay (fun c w' hc q => (hs.2 c ?_).trans q) (fun _ q => q) fun _ _ q => q
    rintro rfl
    rcases hc with rfl | hc
    · rw [hfree] at e; cases e
    · rw [hfree] at hc; cases hc
  rcases hx with hk | hk
  · refine wpAny_storeName_local hk hn (fun h' hn' hs => ?_) hcls
    obtain ⟨oL, _, _, hoL, _⟩ := id hn
    refine h _ ⟨I.ok, I.os, I.bare, ⟨fun b o e n hb hx => ?_, fun b o e n hb hx => ?_, I.base.free, fun b o e hx => ?_, I.base.tups, I.base.frzs, I.base.tbls⟩, ⟨_, hn', fun j y v' e1 e2 e3 => ?_⟩, fun y c e => ?_, I.free, I.freeC, fun p hp => ?_, tracked ⟨oL, hoL, I.free⟩ hs, by simpa using I.len⟩ ⟨_, hs, .inl rfl⟩
    · exact (hs.2 b (Nat.ne_of_lt (Nat.lt_of_lt_of_le (Heap.lt_size e) I.ok.above))).trans (I.base.keep b o e n hb hx)
    · obtain ⟨sl, e1⟩ := I.base.slot b o e n hb hx
      exact ⟨sl, (hs.2 b (Nat.ne_of_lt (Nat.lt_of_lt_of_le (Heap.lt_size e) I.ok.above))).trans e1⟩
    · obtain ⟨o', e1⟩ := I.base.there b o e hx
      exact ⟨o', (hs.2 b (Nat.ne_of_lt (Nat.lt_of_lt_of_le (Heap.lt_size e) I.ok.above))).trans e1⟩
    · by_cases hj : j = i
      · subst hj
        rw [hi] at e1; cases e1
        rw [List.getElem?_set_self hiσ] at e2
        cases e2
        exact ⟨u, r, .inl ⟨hk, by simp⟩⟩
      · rw [List.getElem?_set_ne (Ne.symm hj)] at e2
        obtain ⟨u', r', q⟩ := hl j y v' e1 e2 e3
        refine ⟨u', r', ?_⟩
        rcases q with ⟨k, e⟩ | ⟨k, c, e, z⟩
        · refine .inl ⟨k, ?_⟩
          have : y ≠ x := fun e => hj (nodup_ix hN e1 (e ▸ hi))
          simp [this, e]
        · exact .inr ⟨k, c, e, z.sameBut hs (cne y c e)⟩
    · obtain ⟨w', z⟩ := I.cell y c e
      exact ⟨w', z.sameBut hs (cne y c e)⟩
    · obtain ⟨e, n, ne, nf, d⟩ := I.pin p hp
      exact ⟨(hs.2 p.1 ne).trans e, n, ne, nf, d⟩
  · have hfn : X.fn x = true := by
      rcases hf with z | z
      · exact z
      · rw [z] at hk; cases hk
    obtain ⟨c, hc⟩ := I.ok.has x (.inl hk)
    obtain ⟨w', z⟩ := I.cell x c hc
    refine wpAny_storeName_cell I.ok.kind hk hc z (fun h' hc' hs => ?_)
    obtain ⟨oc, hoc, hocd⟩ := id z
    refine h { s with heap := h' } ⟨I.ok, I.os, I.bare, ⟨fun b o e n hb hx => ?_, fun b o e n hb hx => ?_, I.base.free, fun b o e hx => ?_, I.base.tups, I.base.frzs, I.base.tbls⟩, ⟨m, hn.sameBut hs (Ne.symm (cne x c hc)), fun j y v' e1 e2 e3 => ?_⟩, fun y c' e => ?_, I.free, I.freeC, fun p hp => ?_, tracked ⟨oc, hoc, I.freeC x c hc⟩ hs, by simpa using I.len⟩ ⟨c, hs, .inr hc⟩
    · exact (hs.2 b (Nat.ne_of_lt (Nat.lt_of_lt_of_le (Heap.lt_size e) (I.ok.cab x c hfn hc)))).trans (I.base.keep b o e n hb hx)
    · obtain ⟨sl, e1⟩ := I.base.slot b o e n hb hx
      exact ⟨sl, (hs.2 b (Nat.ne_of_lt (Nat.lt_of_lt_of_le (Heap.lt_size e) (I.ok.cab x c hfn hc)))).trans e1⟩
    · obtain ⟨o', e1⟩ := I.base.there b o e hx
      exact ⟨o', (hs.2 b (Nat.ne_of_lt (Nat.lt_of_lt_of_le (Heap.lt_size e) (I.ok.cab x c hfn hc)))).trans e1⟩
    · by_cases hj : j = i
      · subst hj
        rw [hi] at e1; cases e1
        rw [List.getElem?_set_self hiσ] at e2
        cases e2
        exact ⟨u, r, .inr ⟨.inl hk, c, hc, hc'⟩⟩
      · rw [List.getElem?_set_ne (Ne.symm hj)] at e2
        obtain ⟨u', r', q⟩ := hl j y v' e1 e2 e3
        refine ⟨u', r', ?_⟩
        rcases q with q | ⟨k, c', e, z'⟩
        · exact .inl q
        · refine .inr ⟨k, c', e, z'.sameBut hs ?_⟩
          rintro rfl
          exact hj (nodup_ix hN e1 (I.ok.inj _ _ _ e hc ▸ hi))
    · by_cases hcc : c' = c
      · subst hcc; exact ⟨_, hc'⟩
      · obtain ⟨w2, z2⟩ := I.cell y c' e
        exact ⟨w2, z2.sameBut hs hcc⟩
    · obtain ⟨e, n, ne, nf, d⟩ := I.pin p hp
      refine ⟨(hs.2 p.1 ?_).trans e, n, ne, nf, d⟩
      intro q
      rw [q, hoc] at e
      have q' : oc = p.2 := Option.some.inj e
      exact d w' (by rw [← q']; exact hocd)
theorem store_ok {M : Model} {A : Around} {E : Value → Shared → Prop} {i : Nat} {x : Str} {v : V} {u : Value} {Q : Unit → Shared → Prop} (I : Inv X pins σ H s) (hN : X.N.Nodup) (hi : X.N[i]? = some x) (hx : Loc X.env.scope x) (r : RelV v u)
    (h : ∀ s', Inv X pins (σ.set i (some v)) H s' → Q () s') (hf : X.fn x = true ∨ X.env.scope.names.lookup x = some .local := by first | exact .inl rfl | exact .inr rfl | assumption) : wpAny M A (storeName X.env x u) Q E s :=
  store_ok2 I hN hi hx r (fun s' I' _ => h s' I') hf
/-- behind a call or a block, the state as it is -/
theorem Inv.call' {s' : Shared} {ch : List Addr} (I : Inv X pins σ H s) (ho : s'.os = s.os) (u : Un (frs X.stack) ch H H' s.heap s'.heap) (hok : HOk X.prog X.w H' s'.heap) (hg : AllBare s'.gens)
    (hch : ∀ b ∈ ch, (b ∈ X.ex ∨ X.s₀.heap.objs.size ≤ b) ∧ b ≠ X.env.locals ∧ (∀ x c, X.env.cells.lookup x = some c → c ≠ b) ∧ ∀ p ∈ X.pn ++ pins, p.1 ≠ b) : Inv X pins σ H' s' := by
  obtain ⟨h', g', d', t', o'⟩ := s'
  have e : o' = s.os := ho
  subst e
  exact I.call (g' := g') (t' := t') (d' := d') u hok hg hch
end

/-! ### the judgements -/
/-- an exception: its class, its own dict's address (where it has one), the abstract heap behind it -/
abbrev XK := Value → Option Addr → Hp → Prop
abbrev St := List (Option V)
abbrev VK := V → Hp → Prop
/-- an expression's reading; a test's; an argument list's -/
abbrev TE := St → Hp → VK → Prop
abbrev TT := St → Hp → (Bool → Hp → Prop) → Prop
abbrev TA := St → Hp → (List V → Hp → Prop) → Prop
/-- what is wanted behind a statement -/
structure Ends where
  nx : St → Hp → Prop
  rt : VK
  bk : St → Hp → Prop := fun _ _ => False
  ct : St → Hp → Prop := fun _ _ => False
abbrev TS := Ends → St → Hp → Prop

def EP (X : Cx) (pins : List (Addr × Obj)) (σ : St) (Q : VK) (u : Value) (s' : Shared) : Prop := ∃ v H', Inv X pins σ H' s' ∧ RelV v u ∧ Q v H'
def TP (X : Cx) (pins : List (Addr × Obj)) (σ : St) (Q : Bool → Hp → Prop) (b : Bool) (s' : Shared) : Prop := ∃ H', Inv X pins σ H' s' ∧ Q b H'
def AP (X : Cx) (pins : List (Addr × Obj)) (σ : St) (Q : List V → Hp → Prop) (us : List Value) (s' : Shared) : Prop := ∃ vs H', Inv X pins σ H' s' ∧ Vals vs us ∧ Q vs H'
def SP (X : Cx) (pins : List (Addr × Obj)) (D : Ends) (f : Flow) (s' : Shared) : Prop :=
  match f with
  | .next => ∃ σ' H', Inv X pins σ' H' s' ∧ D.nx σ' H'
  | .brk => ∃ σ' H', Inv X pins σ' H' s' ∧ D.bk σ' H'
  | .cont => ∃ σ' H', Inv X pins σ' H' s' ∧ D.ct σ' H'
  | .ret u => ∃ v σ' H', Inv X pins σ' H' s' ∧ RelV v u ∧ D.rt v H'

def PE (X : Cx) (e : Expr) (t : TE) : Prop :=
  ∀ (pins : List (Addr × Obj)) (s : Shared) (σ : St) (H : Hp) (Q : VK), Inv X pins σ H s → t σ H Q → wpAny (model X.prog X.w) X.A (eval e X.env) (EP X pins σ Q) X.xe s
def PT (X : Cx) (e : Expr) (t : TT) : Prop :=
  ∀ (pins : List (Addr × Obj)) (s : Shared) (σ : St) (H : Hp) (Q : Bool → Hp → Prop), Inv X pins σ H s → t σ H Q → wpAny (model X.prog X.w) X.A (isTrue e X.env (eval e X.env)) (TP X pins σ Q) X.xe s
/-- a test whatever its 'whole' is (and, or) -/
def PW (X : Cx) (e : Expr) (t : TT) : Prop :=
  ∀ (whole : Sem Value) (pins : List (Addr × Obj)) (s : Shared) (σ : St) (H : Hp) (Q : Bool → Hp → Prop), Inv X pins σ H s → t σ H Q → wpAny (model X.prog X.w) X.A (isTrue e X.env whole) (TP X pins σ Q) X.xe s
theorem PW.pt {X : Cx} {e : Expr} {t : TT} (h : PW X e t) : PT X e t := h _
/-- an argument list (no star), from the left -/
def PA (X : Cx) (es : List Expr) (t : TA) : Prop :=
  ∀ (pos : Pos) (pins : List (Addr × Obj)) (s : Shared) (σ : St) (H : Hp) (Q : List V → Hp → Prop), Inv X pins σ H s → t σ H Q → wpAny (model X.prog X.w) X.A (spliced (backTo pos (starEach es X.env))) (AP X pins σ Q) X.xe s
def PS (X : Cx) (st : Stmt) (t : TS) : Prop :=
  ∀ (pins : List (Addr × Obj)) (s : Shared) (σ : St) (H : Hp) (D : Ends), Inv X pins σ H s → t D σ H → wpAny (model X.prog X.w) X.A (exec st X.env) (SP X pins D) X.xe s
def PSs (X : Cx) (st : List Stmt) (t : TS) : Prop :=
  ∀ (pins : List (Addr × Obj)) (s : Shared) (σ : St) (H : Hp) (D : Ends), Inv X pins σ H s → t D σ H → wpAny (model X.prog X.w) X.A (execs st X.env) (SP X pins D) X.xe s
/-- weaken the end -/
theorem thn {α : Type} {t : Sem α} {Q Q' : α → Shared → Prop} {M : Model} {A : Around} {E : Value → Shared → Prop} {s : Shared} (h : wpAny M A t Q E s) (hQ : ∀ a s, Q a s → Q' a s) : wpAny M A t Q' E s := wpAny_mono h hQ fun _ _ x => x
end L2

namespace L2
open PySem PySem.Spec PyProof.Rows
section
variable {X : Cx}


/-! ### names and constants -/
def tVar (i : Nat) : TE := fun σ H Q => ∃ v, σ[i]? = some (some v) ∧ Q v H
def tC (v : V) : TE := fun _ H Q => Q v H
theorem pe_var {i : Nat} {x : Str} {pos : Pos} (hN : X.N[i]? = some x) (hv : Vis X.env.scope x) (hd : (x == ("__debug__" : Str)) = false := by decide) (hcd : (x == ("__classdict__" : Str)) = false := by decide) : PE X (.Name x pos) (tVar i) := by
  intro pins s σ H Q I h
  obtain ⟨v, e, h⟩ := h
  obtain ⟨m, hn, hl⟩ := I.loc
  obtain ⟨u, r, l⟩ := hl i x v hN e hv
  have fin : EP X pins σ Q u s := ⟨v, H, I, r, h⟩
  rcases l with ⟨hk, hm⟩ | ⟨hk, c, hc, hcell⟩
  · exact wpAny_Name (wpAny_loadName_local I.ok.kind hk hn hm fin) hd
  · rcases hk with hk | hk
    · exact wpAny_Name (wpAny_loadName_cell I.ok.kind hk hc hcell fin) hd
    · exact wpAny_Name (wpAny_loadName_free I.ok.kind hk hc hcell fin hcd) hd
theorem pe_int {i j pos} : PE X (.Constant (.int i) j pos) (tC (.int i)) := fun _ _ _ H _ I h => wpAny_Constant_int ⟨.int i, H, I.tok _, ⟨_, rfl⟩, h⟩
theorem pe_bl {b j pos} : PE X (.Constant (.bool b) j pos) (tC (.bl b)) := fun _ _ _ H _ I h => Constant_bool ⟨.bl b, H, I, rfl, h⟩
theorem pe_str {x j pos} : PE X (.Constant (.str x) j pos) (tC (.str x)) := fun _ _ _ H _ I h => Calls.Constant_str ⟨.str x, H, I.tok _, ⟨_, rfl⟩, h⟩

/-- a global name of the def -/
def Gl (X : Cx) (x : Str) : Prop := X.env.kindOf x = some .globalImplicit
theorem ld_glob {E : Value → Shared → Prop} {pins : List (Addr × Obj)} {s : Shared} {σ : St} {H : Hp} {x : Str} {u : Value} {pos : Pos} {Q : Value → Shared → Prop} (I : Inv X pins σ H s) (hg : Gl X x) (hm : X.mg x = some u) (h : Q u s)
    (hd : (x == ("__debug__" : Str)) = false := by decide) : wpAny (model X.prog X.w) X.A (eval (.Name x pos) X.env) Q E s :=
  Calls.Name_function_global I.ok.kind hg (Calls.loadGlobal_global (by rw [I.ok.glob]; exact I.mod.glob.keeps I.bk) hm h) hd
theorem ld_blt {E : Value → Shared → Prop} {pins : List (Addr × Obj)} {s : Shared} {σ : St} {H : Hp} {x : Str} {u : Value} {pos : Pos} {Q : Value → Shared → Prop} (I : Inv X pins σ H s) (hg : Gl X x) (hm : X.mg x = none) (hv : bootBuiltins x = some u) (h : Q u s)
    (hn : x ≠ "__name__" := by decide) (hd : (x == ("__debug__" : Str)) = false := by decide) : wpAny (model X.prog X.w) X.A (eval (.Name x pos) X.env) Q E s := by
  obtain ⟨mb, h1, h2⟩ := I.mod.blt
  exact Calls.Name_function_global I.ok.kind hg (Calls.loadGlobal_builtin (by rw [I.ok.glob]; exact I.mod.glob.keeps I.bk) hm (by rw [I.ok.blt]; exact h1.keeps I.bk) ((h2 x hn).trans hv) h) hd
theorem pe_bltn {x : Str} {v : V} {u : Value} {pos : Pos} (hg : Gl X x) (hm : X.mg x = none) (hv : bootBuiltins x = some u) (r : RelV v u) (hn : x ≠ "__name__" := by decide) (hd : (x == ("__debug__" : Str)) = false := by decide) : PE X (.Name x pos) (tC v) :=
  fun _ _ _ H _ I h => ld_blt I hg hm hv ⟨v, H, I, r, h⟩ hn hd

/-! ### arithmetic -/
/-- two ints -/
def t2I (ta tb : TE) (k : Int → Int → Hp → Prop) : St → Hp → Prop := fun σ H => ta σ H fun x H1 => tb σ H1 fun y H2 => ∃ i j, x = .int i ∧ y = .int j ∧ k i j H2
def tAdd (ta tb : TE) : TE := fun σ H Q => t2I ta tb (fun i j H2 => Q (.int (i + j)) H2) σ H
def tSub (ta tb : TE) : TE := fun σ H Q => t2I ta tb (fun i j H2 => Q (.int (i - j)) H2) σ H
/-- the left factor below 2^64 -/
def tMul (ta tb : TE) : TE := fun σ H Q => t2I ta tb (fun i j H2 => (-(2 ^ 64) < i ∧ i < 2 ^ 64) ∧ Q (.int (i * j)) H2) σ H
variable {a b : Expr} {ta tb : TE} {pos : Pos}

/-! ### comparisons -/
def PC (X : Cx) (op : CmpOp) (a b : Expr) (t : TE) : Prop :=
  ∀ (pins : List (Addr × Obj)) (s : Shared) (σ : St) (H : Hp) (Q : VK), Inv X pins σ H s → t σ H Q →
    wpAny (model X.prog X.w) X.A (eval a X.env) (fun v s₁ => wpAny (model X.prog X.w) X.A (eval b X.env) (fun u s₂ => wpAny (model X.prog X.w) X.A (compareOp op v u) (EP X pins σ Q) X.xe s₂) X.xe s₁) X.xe s
def tCmp (p : Int → Int → Bool) (ta tb : TE) : TE := fun σ H Q => t2I ta tb (fun i j H2 => Q (.bl (p i j)) H2) σ H
abbrev tLt : TE → TE → TE := tCmp fun i j => decide (i < j)
abbrev tLe : TE → TE → TE := tCmp fun i j => decide (i ≤ j)
abbrev tGt : TE → TE → TE := tCmp fun i j => decide (j < i)
abbrev tGe : TE → TE → TE := tCmp fun i j => decide (j ≤ i)
abbrev tEqI : TE → TE → TE := tCmp fun i j => decide (i = j)
abbrev tNeI : TE → TE → TE := tCmp fun i j => !decide (i = j)
/-- is None -/
def tIsN (ta : TE) : TE := fun σ H Q => ta σ H fun x H1 => Q (.bl (decide (x = .non))) H1
def tNotN (ta : TE) : TE := fun σ H Q => ta σ H fun x H1 => Q (.bl (!decide (x = .non))) H1
/-- a comparison as a value, as a test -/
def tB (t : TE) : TT := fun σ H Q => t σ H fun x H1 => ∃ c, x = .bl c ∧ Q c H1
theorem pe_cmp {op : CmpOp} {t : TE} (h : PC X op a b t) (h1 : behindInMarks op b = false := by first | exact nobehind _ (by decide) (by decide) | rfl) : PE X (.Compare a [op] [b] pos) t := fun pins s σ H Q I hw => wpAny_Compare1 (h pins s σ H Q I hw) h1
theorem pt_cmp {op : CmpOp} {t : TE} (h : PC X op a b t) (h1 : behindInMarks op b = false := by first | exact nobehind _ (by decide) (by decide) | rfl) : PT X (.Compare a [op] [b] pos) (tB t) := by
  intro pins s σ H Q I hw
  refine wpAny_isTrue_Compare1 (thn (h pins s σ H _ I hw) fun v s1 h1 => thn h1 fun u s2 h2 => thn h2 fun c s3 ⟨x, H1, I1, r1, q1⟩ => ?_) h1
  obtain ⟨d, rfl, q⟩ := q1
  cases r1
  exact wpAny_truthy_bool ⟨H1, I1, q⟩
/-- an expression whose value is a bool, as a test -/
theorem pt_val {e : Expr} {t : TE} (h : PE X e t) (he : ∀ whole, isTrue e X.env whole = (do let v ← whole; standAt e.pos; holding [v] (truthy v)) := by intro _; rfl) : PT X e (tB t) := by
  intro pins s σ H Q I hw
  refine isTrue_plain (thn (h pins s σ H _ I hw) fun v s1 ⟨x, H1, I1, r1, q1⟩ => ?_) (he _)
  obtain ⟨d, rfl, q⟩ := q1
  cases r1
  exact wpAny_truthy_bool ⟨H1, I1, q⟩

/-! ### and, or, not -/
variable {tA tB' : TT} {rest : List Expr}
def tAnd (t u : TT) : TT := fun σ H Q => t σ H fun c H1 => if c = true then u σ H1 Q else Q false H1
def tOr (t u : TT) : TT := fun σ H Q => t σ H fun c H1 => if c = true then Q true H1 else u σ H1 Q
def tNot (t : TT) : TT := fun σ H Q => t σ H fun c H1 => Q (!c) H1
theorem pw_and1 (ha : PT X a tA) : PW X (.BoolOp .And [a] pos) tA := by
  intro wh pins s σ H Q I h
  refine isTrue_and (thn (ha pins s σ H Q I h) fun c s1 e => ?_)
  cases c with
  | true => exact isTrue_and_nil e
  | false => exact e
theorem pw_or1 (ha : PT X a tA) : PW X (.BoolOp .Or [a] pos) tA := by
  intro wh pins s σ H Q I h
  refine isTrue_or (thn (ha pins s σ H Q I h) fun c s1 e => ?_)
  cases c with
  | false => exact isTrue_or_nil e
  | true => exact e
theorem pw_and (ha : PT X a tA) (hb : PW X (.BoolOp .And (b :: rest) pos) tB') : PW X (.BoolOp .And (a :: b :: rest) pos) (tAnd tA tB') := by
  intro wh pins s σ H Q I h
  refine isTrue_and (thn (ha pins s σ H _ I h) fun c s1 ⟨H1, I1, q1⟩ => ?_)
  cases c with
  | true => exact hb wh pins s1 σ H1 Q I1 q1
  | false => exact ⟨H1, I1, q1⟩
theorem pw_or (ha : PT X a tA) (hb : PW X (.BoolOp .Or (b :: rest) pos) tB') : PW X (.BoolOp .Or (a :: b :: rest) pos) (tOr tA tB') := by
  intro wh pins s σ H Q I h
  refine isTrue_or (thn (ha pins s σ H _ I h) fun c s1 ⟨H1, I1, q1⟩ => ?_)
  cases c with
  | true => exact ⟨H1, I1, q1⟩
  | false => exact hb wh pins s1 σ H1 Q I1 q1
theorem pt_not (ha : PT X a tA) : PT X (.UnaryOp .Not a pos) (tNot tA) := by
  intro pins s σ H Q I h
  exact isTrue_not (ha pins s σ H (fun c H1 => Q (!c) H1) I h)
/-- .. as values (bools) -/
def tAndV (ta tb : TE) : TE := fun σ H Q => ta σ H fun x H1 => ∃ c, x = .bl c ∧ if c = true then tb σ H1 Q else Q (.bl false) H1
def tOrV (ta tb : TE) : TE := fun σ H Q => ta σ H fun x H1 => ∃ c, x = .bl c ∧ if c = true then Q (.bl true) H1 else tb σ H1 Q
def tNotV (ta : TE) : TE := fun σ H Q => ta σ H fun x H1 => ∃ c, x = .bl c ∧ Q (.bl (!c)) H1
theorem pe_one {op} {t : TE} (h : PE X a t) : PE X (.BoolOp op [a] pos) t := fun pins s σ H Q I hw => BoolOp_one (h pins s σ H Q I hw)
theorem pe_and (ha : PE X a ta) (hb : PE X (.BoolOp .And (b :: rest) pos) tb) : PE X (.BoolOp .And (a :: b :: rest) pos) (tAndV ta tb) := by
  intro pins s σ H Q I h
  refine BoolOp_and (thn (ha pins s σ H _ I h) fun v s1 ⟨x, H1, I1, r1, q1⟩ => ?_)
  obtain ⟨c, rfl, q1⟩ := q1
  cases r1
  refine wpAny_truthy_bool ?_
  cases c with
  | true => exact hb pins s1 σ H1 Q I1 q1
  | false => exact ⟨.bl false, H1, I1, rfl, q1⟩
theorem pe_or (ha : PE X a ta) (hb : PE X (.BoolOp .Or (b :: rest) pos) tb) : PE X (.BoolOp .Or (a :: b :: rest) pos) (tOrV ta tb) := by
  intro pins s σ H Q I h
  refine BoolOp_or (thn (ha pins s σ H _ I h) fun v s1 ⟨x, H1, I1, r1, q1⟩ => ?_)
  obtain ⟨c, rfl, q1⟩ := q1
  cases r1
  refine wpAny_truthy_bool ?_
  cases c with
  | false => exact hb pins s1 σ H1 Q I1 q1
  | true => exact ⟨.bl true, H1, I1, rfl, q1⟩
theorem pe_not (ha : PE X a ta) : PE X (.UnaryOp .Not a pos) (tNotV ta) := by
  intro pins s σ H Q I h
  refine UnaryOp_ (thn (ha pins s σ H _ I h) fun v s1 ⟨x, H1, I1, r1, q1⟩ => ?_)
  obtain ⟨c, rfl, q1⟩ := q1
  cases r1
  exact not_of (wpAny_truthy_bool ⟨.bl (!c), H1, I1, rfl, q1⟩)
/-- a if t else b -/
def tIf (t : TT) (ta tb : TE) : TE := fun σ H Q => t σ H fun c H1 => if c = true then ta σ H1 Q else tb σ H1 Q
end
end L2

namespace L2
open PySem PySem.Spec PyProof.Rows

/-! ### a list, a tuple that is read: tracked, frozen, or an object of the module -/
def SqL (K : PySem.W.Frag) (H : Hp) (a : Addr) (xs : List V) : Prop :=
  Rd H a (.lst xs) ∨
    ∃ (o : Obj) (its : Array Value) (n : Nat), K.lookup a = some o ∧ o.cls = .type "list" ∧ o.dict = none ∧ o.data = .seq its n ∧ its.size ≤ sizeLine ∧ Vals xs its.toList
def SqT (K : PySem.W.Frag) (H : Hp) (a : Addr) (xs : List V) : Prop :=
  Rd H a (.tup xs) ∨
    ∃ (o : Obj) (its : Array Value) (n : Nat), K.lookup a = some o ∧ o.cls = .type "tuple" ∧ o.data = .seq its n ∧ its.size ≤ sizeLine ∧ Vals xs its.toList
def absV : Value → Option V
  | .none => some .non
  | .bool b => some (.bl b)
  | .int i _ => some (.int i)
  | .str x _ => some (.str x)
  | .bytes b _ => some (.byt b)
  | .float b _ => some (.flt b)
  | .ref a => some (.ref a)
  | .type n => some (.ty n)
  | _ => none
theorem RelV.abs {x : V} {u : Value} (r : RelV x u) : absV u = some x := by
  cases x with
  | non => cases r; rfl
  | bl _ => cases r; rfl
  | int _ => obtain ⟨t, rfl⟩ := r; rfl
  | str _ => obtain ⟨t, rfl⟩ := r; rfl
  | byt _ => obtain ⟨t, rfl⟩ := r; rfl
  | flt _ => obtain ⟨t, rfl⟩ := r; rfl
  | ref _ => cases r; rfl
  | ty _ => cases r; rfl
theorem RelV.inj {x y : V} {u : Value} (r : RelV x u) (q : RelV y u) : x = y := Option.some.inj (r.abs.symm.trans q.abs)
theorem Vals.inj : ∀ {xs ys : List V} {us : List Value}, Vals xs us → Vals ys us → xs = ys
  | _, _, _, .nil, .nil => rfl
  | _, _, _, .cons r t, .cons r' t' => by rw [r.inj r', Vals.inj t t']
section
variable {X : Cx} {pins : List (Addr × Obj)} {σ : St} {H : Hp} {s : Shared} {a : Addr} {xs ys : List V}
theorem SqL.of {K : PySem.W.Frag} (h : H a = some (.lst xs)) : SqL K H a xs := .inl (.inl h)
theorem SqT.of {K : PySem.W.Frag} (h : H a = some (.tup xs)) : SqT K H a xs := .inl (.inl h)
theorem Inv.list (I : Inv X pins σ H s) (h : SqL X.K H a xs) : ∃ its : List Value, Vals xs its ∧ PlainL s.heap a its.toArray ∧ xs.length ≤ sizeLine := by
  rcases h with h | ⟨o, its, n, hk, hc, hd, hs, hz, r⟩
  · obtain ⟨z, its, n, r, e⟩ := h.ok I.hok
    exact ⟨its, r, ⟨_, n, e, rfl, rfl, rfl⟩, z⟩
  · refine ⟨its.toList, r, ⟨o, n, I.kIn a o hk, hc, hd, by simpa using hs⟩, ?_⟩
    have e := r.length
    simp only [Array.length_toList] at e
    omega
theorem Inv.tuple (I : Inv X pins σ H s) (h : SqT X.K H a xs) : ∃ its : List Value, Vals xs its ∧ IsTup s.heap a its.toArray ∧ xs.length ≤ sizeLine := by
  rcases h with h | ⟨o, its, n, hk, hc, hs, hz, r⟩
  · obtain ⟨z, its, r, p⟩ := h.ok I.hok
    exact ⟨its, r, p, z⟩
  · refine ⟨its.toList, r, ⟨o, I.kIn a o hk, hc, n, by simpa using hs⟩, ?_⟩
    have e := r.length
    simp only [Array.length_toList] at e
    omega
theorem Inv.list_inj (I : Inv X pins σ H s) (h : SqL X.K H a xs) (h' : SqL X.K H a ys) : xs = ys := by
  obtain ⟨its, r, ⟨o, n, e, _, _, d⟩, _⟩ := I.list h
  obtain ⟨its', r', ⟨o', n', e', _, _, d'⟩, _⟩ := I.list h'
  rw [e] at e'; cases e'
  rw [d] at d'
  injection d' with d1 _
  have : its = its' := by simpa using congrArg Array.toList d1
  subst this
  exact r.inj r'
theorem Inv.tuple_inj (I : Inv X pins σ H s) (h : SqT X.K H a xs) (h' : SqT X.K H a ys) : xs = ys := by
  obtain ⟨its, r, ⟨o, e, _, n, d⟩, _⟩ := I.tuple h
  obtain ⟨its', r', ⟨o', e', _, n', d'⟩, _⟩ := I.tuple h'
  rw [e] at e'; cases e'
  rw [d] at d'
  injection d' with d1 _
  have : its = its' := by simpa using congrArg Array.toList d1
  subst this
  exact r.inj r'
end

/-! ### another wish about exceptions -/
abbrev Cx.wish (X : Cx) (E : Value → Shared → Prop) : Cx := { X with xe := E }
/-- no exception leaves -/
abbrev Cx.nox (X : Cx) : Cx := X.wish fun _ _ => False
theorem Cx.Ok.wish {X : Cx} (ok : X.Ok) (E : Value → Shared → Prop) : (X.wish E).Ok :=
  ⟨ok.mod, ok.kind, ok.glob, ok.blt, ok.above, ok.inj, ok.has, ok.cab, ok.hd, ok.frames, ok.stk, ok.exf, ok.bs, ok.bsz, ok.noex, ok.exfs, ok.funs, ok.frf⟩
theorem Cx.Ok.unwish {X : Cx} {E : Value → Shared → Prop} (ok : (X.wish E).Ok) : X.Ok :=
  ⟨ok.mod, ok.kind, ok.glob, ok.blt, ok.above, ok.inj, ok.has, ok.cab, ok.hd, ok.frames, ok.stk, ok.exf, ok.bs, ok.bsz, ok.noex, ok.exfs, ok.funs, ok.frf⟩
section
variable {X : Cx} {pins : List (Addr × Obj)} {σ : St} {H : Hp} {s : Shared} {E : Value → Shared → Prop}
theorem Inv.wish (I : Inv X pins σ H s) (E : Value → Shared → Prop) : Inv (X.wish E) pins σ H s := ⟨I.ok.wish E, I.os, I.bare, I.base, I.loc, I.cell, I.free, I.freeC, I.pin, I.hok, I.len⟩
theorem Inv.unwish (I : Inv (X.wish E) pins σ H s) : Inv X pins σ H s := ⟨I.ok.unwish, I.os, I.bare, I.base, I.loc, I.cell, I.free, I.freeC, I.pin, I.hok, I.len⟩
theorem SP.unwish {D : Ends} {f : Flow} {s' : Shared} (h : SP (X.wish E) pins D f s') : SP X pins D f s' := by
  cases f with
  | next => obtain ⟨σ', H', I, q⟩ := h; exact ⟨σ', H', I.unwish, q⟩
  | brk => obtain ⟨σ', H', I, q⟩ := h; exact ⟨σ', H', I.unwish, q⟩
  | cont => obtain ⟨σ', H', I, q⟩ := h; exact ⟨σ', H', I.unwish, q⟩
  | ret u => obtain ⟨v, σ', H', I, r, q⟩ := h; exact ⟨v, σ', H', I.unwish, r, q⟩
theorem PSs.nox {st : List Stmt} {t : TS} (h : PSs X.nox st t) : PSs X st t := fun pins s σ H D I hw =>
  wpAny_mono (h pins s σ H D (I.wish _) hw) (fun _ _ q => q.unwish) fun _ _ z => False.elim z
end

/-! ### blocks and small statements -/
section
variable {X : Cx} {st : Stmt} {rest : List Stmt} {t u : TS} {e : Expr} {te : TE} {pos : Pos}
def tNext : TS := fun D σ H => D.nx σ H
def tSeq (t u : TS) : TS := fun D σ H => t { D with nx := u D } σ H
theorem pss_nil : PSs X [] tNext := fun _ _ σ H _ I h => wpAny_execs_nil ⟨σ, H, I, h⟩
theorem pss_cons (h1 : PS X st t) (h2 : PSs X rest u) : PSs X (st :: rest) (tSeq t u) := by
  intro pins s σ H D I h
  refine wpAny_execs_cons (thn (h1 pins s σ H { D with nx := u D } I h) fun f s1 q => ?_)
  cases f with
  | next =>
    obtain ⟨σ', H', I', q⟩ := q
    exact h2 pins s1 σ' H' D I' q
  | ret v => exact q
  | brk => exact q
  | cont => exact q
theorem pss_one (h1 : PS X st t) : PSs X [st] t := by
  intro pins s σ H D I h
  refine wpAny_execs_cons (thn (h1 pins s σ H D I h) fun f s1 q => ?_)
  cases f with
  | next => exact wpAny_execs_nil q
  | ret v => exact q
  | brk => exact q
  | cont => exact q
def tBreak : TS := fun D σ H => D.bk σ H
def tCont : TS := fun D σ H => D.ct σ H
/-- in a def's body nothing is shown -/
theorem Inv.quiet {pins : List (Addr × Obj)} {σ : St} {H : Hp} {s : Shared} (I : Inv X pins σ H s) : interactive X.env = false := by simp [interactive, I.ok.kind]
/-- an expression whose value is dropped -/
def tDrop (te : TE) : TS := fun D σ H => te σ H fun _ H1 => D.nx σ H1
theorem ps_expr (he : PE X e te) (hs : swapsWith e none pos.line X.env = pure false := by rfl) : PS X (.Expr e pos) (tDrop te) := by
  intro pins s σ H D I h
  exact wpAny_Expr_any (thn (he pins s σ H _ I h) fun v s1 ⟨x, H1, I1, r1, q1⟩ => ⟨σ, H1, I1, q1⟩) I.quiet hs
def tRet (te : TE) : TS := fun D σ H => te σ H D.rt
theorem ps_ret (he : PE X e te) : PS X (.Return (some e) pos) (tRet te) := by
  intro pins s σ H D I h
  exact wpAny_Return_some (thn (he pins s σ H _ I h) fun v s1 ⟨x, H1, I1, r1, q1⟩ => ⟨x, σ, H1, I1, r1, q1⟩)
def tRetN : TS := fun D _ H => D.rt .non H
def tIfS (c : TT) (t u : TS) : TS := fun D σ H => c σ H fun b H1 => if b = true then t D σ H1 else u D σ H1
theorem ps_if {c : Expr} {a b : List Stmt} {tc : TT} (hc : PT X c tc) (ha : PSs X a t) (hb : PSs X b u) : PS X (.If c a b pos) (tIfS tc t u) := by
  intro pins s σ H D I h
  refine wpAny_If (thn (hc pins s σ H _ I h) fun d s1 ⟨H1, I1, q1⟩ => ?_)
  cases d with
  | true => exact ha pins s1 σ H1 D I1 q1
  | false => exact hb pins s1 σ H1 D I1 q1
/-- code that the proof never comes to -/
def tNever : TS := fun _ _ _ => False
end

/-! ### targets -/
abbrev TG := V → St → Hp → (St → Hp → Prop) → Prop
abbrev TGs := List V → St → Hp → (St → Hp → Prop) → Prop
def PG (X : Cx) (target : Expr) (t : TG) : Prop :=
  ∀ (pins : List (Addr × Obj)) (s : Shared) (σ : St) (H : Hp) (v : V) (u : Value) (Q : St → Hp → Prop), Inv X pins σ H s → RelV v u → t v σ H Q →
    wpAny (model X.prog X.w) X.A (assign target X.env u) (fun _ s' => ∃ σ' H', Inv X pins σ' H' s' ∧ Q σ' H') X.xe s
/-- several targets, one after another -/
def PGs (X : Cx) (ts : List Expr) (t : TGs) : Prop :=
  ∀ (pins : List (Addr × Obj)) (s : Shared) (σ : St) (H : Hp) (vs : List V) (us : List Value) (Q : St → Hp → Prop), Inv X pins σ H s → Vals vs us → t vs σ H Q →
    wpAny (model X.prog X.w) X.A (assignInOrder ((assignEach ts X.env).map (·.2)) us) (fun _ s' => ∃ σ' H', Inv X pins σ' H' s' ∧ Q σ' H') X.xe s
/-- o[i] = v, by values -/
abbrev TSet := V → V → V → Hp → (Hp → Prop) → Prop
def PSet (X : Cx) (t : TSet) : Prop :=
  ∀ (pins : List (Addr × Obj)) (s : Shared) (σ : St) (H : Hp) (o i v : V) (ov iv u : Value) (Q : Hp → Prop), Inv X pins σ H s → RelV o ov → RelV i iv → RelV v u → t o i v H Q →
    wpAny (model X.prog X.w) X.A (setItem ov iv u) (fun _ s' => ∃ H', Inv X pins σ H' s' ∧ Q H') X.xe s
/-- a op= b, by values -/
abbrev TIp := V → V → Hp → VK → Prop
def PIp (X : Cx) (op : Operator) (t : TIp) : Prop :=
  ∀ (pins : List (Addr × Obj)) (s : Shared) (σ : St) (H : Hp) (x y : V) (v u : Value) (Q : VK), Inv X pins σ H s → RelV x v → RelV y u → t x y H Q →
    wpAny (model X.prog X.w) X.A (inplaceOp op v u) (EP X pins σ Q) X.xe s
section
variable {X : Cx} {pos : Pos}
def gName (i : Nat) : TG := fun v σ H Q => Q (σ.set i (some v)) H
theorem pg_name {i : Nat} {x : Str} (hN : X.N.Nodup) (hi : X.N[i]? = some x) (hx : Loc X.env.scope x) (hf : X.fn x = true ∨ X.env.scope.names.lookup x = some .local := by first | exact .inl rfl | exact .inr rfl | assumption) : PG X (.Name x pos) (gName i) := by
  intro pins s σ H v u Q I r h
  exact wpAny_assign_Name (store_ok I hN hi hx r (fun s' I' => ⟨_, H, I', h⟩) hf)
def gNil : TGs := fun vs σ H Q => vs = [] ∧ Q σ H
def gCons (t : TG) (u : TGs) : TGs := fun vs σ H Q => ∃ v r, vs = v :: r ∧ t v σ H fun σ' H' => u r σ' H' Q
/-- (a, b, ..) = a tuple of that length -/
def gTup (K : PySem.W.Frag) (n : Nat) (t : TGs) : TG := fun v σ H Q => ∃ a xs, v = .ref a ∧ SqT K H a xs ∧ xs.length = n ∧ t xs σ H Q
/-- o[i] = .. -/
def gSub (to ti : TE) (t : TSet) : TG := fun v σ H Q => to σ H fun o H1 => ti σ H1 fun i H2 => t o i v H2 fun H3 => Q σ H3
/-- target = value -/
def tAsg (te : TE) (g : TG) : TS := fun D σ H => te σ H fun x H1 => g x σ H1 D.nx
/-- name = value -/
theorem ps_set {i : Nat} {x : Str} {e : Expr} {te : TE} {pos' : Pos} (hN : X.N.Nodup) (hi : X.N[i]? = some x) (hx : Loc X.env.scope x) (he : PE X e te) (hs : swapsWith e (some (.Name x pos')) pos.line X.env = pure false := by rfl) (hf : X.fn x = true ∨ X.env.scope.names.lookup x = some .local := by first | exact .inl rfl | exact .inr rfl | assumption) :
    PS X (.Assign [.Name x pos'] e pos) (tAsg te (gName i)) := by
  intro pins s σ H D I h
  refine wpAny_Assign_Name (thn (he pins s σ H _ I h) fun v s1 ⟨y, H1, I1, r1, q1⟩ => ?_) hs
  exact store_ok I1 hN hi hx r1 (fun s2 I2 => ⟨_, H1, I2, q1⟩) hf
/-- a, b = x, y with plain local names: stored from the right; the pair itself is not tracked (the opening rows as in PyProof/Rows/TupAssign.lean:23) -/
def tPar (i j : Nat) (ta : TA) : TS := fun D σ H => ta σ H fun vs H1 => ∃ v w, vs = [v, w] ∧ D.nx ((σ.set i (some v)).set j (some w)) H1
/-- name op= e -/
def tAug (i : Nat) (te : TE) (ti : TIp) : TS := fun D σ H => ∃ x, σ[i]? = some (some x) ∧ te σ H fun y H1 => ti x y H1 fun z H2 => D.nx (σ.set i (some z)) H2
theorem ps_aug {i : Nat} {x : Str} {e : Expr} {te : TE} {op : Operator} {ti : TIp} {pos' : Pos} (hN : X.N.Nodup) (hi : X.N[i]? = some x) (hx : Loc X.env.scope x) (he : PE X e te) (ho : PIp X op ti) (hf : X.fn x = true ∨ X.env.scope.names.lookup x = some .local := by first | exact .inl rfl | exact .inr rfl | assumption) :
    PS X (.AugAssign (.Name x pos') op e pos) (tAug i te ti) := by
  intro pins s σ H D I h
  obtain ⟨v, e1, h⟩ := h
  obtain ⟨m, hn, hl⟩ := I.loc
  have vis : Vis X.env.scope x := by rcases hx with k | k; exact .inl k; exact .inr (.inl k)
  obtain ⟨u, r, l⟩ := hl i x v hi e1 vis
  refine wpAny_AugAssign_Name ?_
  have go : wpAny (model X.prog X.w) X.A (eval e X.env) (fun w s₂ => wpAny (model X.prog X.w) X.A (inplaceOp op u w) (fun r s₃ => wpAny (model X.prog X.w) X.A (storeName X.env x r) (fun _ => SP X pins D .next) X.xe s₃) X.xe s₂) X.xe s := by
    refine thn (he pins s σ H _ I h) fun w s1 ⟨y, H1, I1, r1, q1⟩ => ?_
    refine thn (ho pins s1 σ H1 v y u w _ I1 r r1 q1) fun z s2 ⟨zv, H2, I2, r2, q2⟩ => ?_
    exact store_ok I2 hN hi hx r2 (fun s3 I3 => ⟨_, H2, I3, q2⟩) hf
  rcases l with ⟨hk, hm⟩ | ⟨hk, c, hc, hcell⟩
  · exact wpAny_loadName_local I.ok.kind hk hn hm go
  · rcases hk with hk | hk
    · exact wpAny_loadName_cell I.ok.kind hk hc hcell go
    · rcases hx with k | k
      · have : X.env.scope.names.lookup x = some .free := hk
        rw [k] at this; cases this
      · have : X.env.scope.names.lookup x = some .free := hk
        rw [k] at this; cases this
/-- o[i] op= e -/
def tAugS (to ti te : TE) (tget : V → V → Hp → VK → Prop) (tip : TIp) (tset : TSet) : TS := fun D σ H => to σ H fun o H1 => ti σ H1 fun i H2 => tget o i H2 fun x H3 => te σ H3 fun y H4 => tip x y H4 fun z H5 => tset o i z H5 fun H6 => D.nx σ H6
/-- o[i], by values -/
def PGet (X : Cx) (t : V → V → Hp → VK → Prop) : Prop :=
  ∀ (pins : List (Addr × Obj)) (s : Shared) (σ : St) (H : Hp) (o i : V) (ov iv : Value) (Q : VK), Inv X pins σ H s → RelV o ov → RelV i iv → t o i H Q →
    wpAny (model X.prog X.w) X.A (getItem ov iv) (EP X pins σ Q) X.xe s
/-- ints -/
def ipI (f : Int → Int → Int) : TIp := fun x y H Q => ∃ i j, x = .int i ∧ y = .int j ∧ Q (.int (f i j)) H
theorem ip_add : PIp X .Add (ipI fun i j => i + j) := by
  intro pins s σ H x y v u Q I r1 r2 h
  obtain ⟨i, j, e1, e2, q⟩ := h
  subst e1; subst e2
  obtain ⟨t, rfl⟩ := r1
  obtain ⟨t', rfl⟩ := r2
  exact iadd_int ⟨.int _, H, I.tok _, ⟨_, rfl⟩, q⟩
end

/-! ### while -/
section
variable {X : Cx} {pos : Pos}
/-- the invariant W with its measure -/
def tWhile (c : TT) (tb : TS) : TS := fun D σ H => ∃ W : Nat → St → Hp → Prop, (∃ m, W m σ H) ∧ ∀ m σ H, W m σ H →
  c σ H fun b H1 => if b = true then ∃ N : St → Hp → Prop, (∀ σ' H', N σ' H' → ∃ m', m' < m ∧ W m' σ' H') ∧ tb { D with nx := N, ct := N, bk := D.nx } σ H1 else D.nx σ H1
theorem ps_while {c : Expr} {body : List Stmt} {tc : TT} {tb : TS} (hp : PassesOwn (model X.prog X.w) X.A X.env X.xe) (hc : PT X c tc) (hb : PSs X body tb) : PS X (.While c body [] pos) (tWhile tc tb) := by
  intro pins s σ H D I h
  obtain ⟨W, ⟨m0, w0⟩, turn⟩ := h
  refine wpAny_While (codeAny_whileLoop (fun n s' => ∃ σ' H', Inv X pins σ' H' s' ∧ W n σ' H') ?_ m0 ⟨σ, H, I, w0⟩)
  rintro n s1 ⟨σ1, H1, I1, w1⟩
  refine wpAny_passesOwn hp (thn (hc pins s1 σ1 H1 _ I1 (turn n σ1 H1 w1)) fun b s2 ⟨H2, I2, q2⟩ => ?_)
  cases b with
  | true =>
    obtain ⟨N, hN, q2⟩ := q2
    rw [if_pos rfl]
    refine wpAny_passesOwn hp (thn (hb pins s2 σ1 H2 _ I2 q2) fun f s3 q3 => ?_)
    cases f with
    | next =>
      obtain ⟨σ3, H3, I3, n3⟩ := q3
      obtain ⟨m', hm, w3⟩ := hN σ3 H3 n3
      exact ⟨m', hm, σ3, H3, I3, w3⟩
    | cont =>
      obtain ⟨σ3, H3, I3, n3⟩ := q3
      obtain ⟨m', hm, w3⟩ := hN σ3 H3 n3
      exact ⟨m', hm, σ3, H3, I3, w3⟩
    | brk => exact q3
    | ret v => exact q3
  | false =>
    rw [if_neg Bool.false_ne_true]
    exact wpAny_execs_nil ⟨σ1, H2, I2, q2⟩
end

/-! ### what a loop or a comprehension walks -/
/-- at turn i: it yields x (the heap may grow), or it stops -/
structure It where
  go : Nat → Hp → Prop
  yld : Nat → Hp → V → Hp → Prop
  stop : Nat → Hp → Prop
/-- the iterator's own objects may turn: they are not the frame's, not pinned, younger than the entry (or a comprehension's own) -/
def FpOk (X : Cx) (pins : List (Addr × Obj)) (H : Hp) (b : Addr) : Prop :=
  H b = none ∧ b ≠ X.env.locals ∧ b ∉ X.fs ∧ (b ∈ X.ex ∨ X.s₀.heap.objs.size ≤ b) ∧ (∀ x c, X.env.cells.lookup x = some c → c ≠ b) ∧ ∀ p ∈ X.pn ++ pins, p.1 ≠ b
theorem Inv.fpOk {X : Cx} {pins : List (Addr × Obj)} {σ : St} {H H' : Hp} {s : Shared} {b : Addr} (I : Inv X pins σ H s) (hb : s.heap.objs.size ≤ b) (hn : H' b = none) : FpOk X pins H' b := by
  refine ⟨hn, Nat.ne_of_gt (Nat.lt_of_lt_of_le I.lt hb), I.nofs hb, .inr (Nat.le_trans I.sz hb), fun x c e z => ?_, fun p hp z => ?_⟩
  · obtain ⟨v, q⟩ := I.cell x c e
    exact absurd (Nat.lt_of_lt_of_le q.lt (by rw [z]; exact hb)) (Nat.lt_irrefl _)
  · exact absurd (Nat.lt_of_lt_of_le (Heap.lt_size (I.pin p hp).1) (by rw [z]; exact hb)) (Nat.lt_irrefl _)
structure Turn (P : Program) (w : World) (K : PySem.W.Frag) (tg : Expr) (J : It) (fp : List Addr) (it : Addr) (tn : Nat → Heap → Prop) : Prop where
  mem : it ∈ fp
  obj : ∀ i h, tn i h → ∀ b ∈ fp, ∃ o, h.get? b = some o ∧ ∀ v, o.data ≠ .cell v
  keep : ∀ i h h', tn i h → (∀ b ∈ fp, ∀ o, h.get? b = some o → h'.get? b = some o) → tn i h'
  item : ∀ (X : Cx), X.prog = P → X.w = w → X.K = K → X.calm = true → ∀ (i : Nat) (pins : List (Addr × Obj)) (s : Shared) (σ : St) (H : Hp) (E : Value → Shared → Prop), Inv X pins σ H s → (∀ b ∈ fp, FpOk X pins H b) → tn i s.heap → J.go i H →
    wpAny (model P w) X.A (pyNext (.ref it)) (fun r s1 => ∃ u, r = some u ∧
      wpAny (model P w) X.A (letOwnedTupleGo tg (.ref it) u) (fun _ s2 => ∃ x H', Inv X pins σ H' s2 ∧ RelV x u ∧ J.yld i H x H' ∧ tn (i + 1) s2.heap ∧ ∀ b ∈ fp, H' b = none) E s1) E s
  done : ∀ (X : Cx), X.prog = P → X.w = w → X.K = K → X.calm = true → ∀ (i : Nat) (pins : List (Addr × Obj)) (s : Shared) (σ : St) (H : Hp) (E : Value → Shared → Prop), Inv X pins σ H s → (∀ b ∈ fp, FpOk X pins H b) → tn i s.heap → J.stop i H →
    wpAny (model P w) X.A (pyNext (.ref it)) (fun r s1 => r = none ∧ Inv X pins σ H s1) E s
  self : ∀ (A : Around) (i : Nat) (s : Shared) (Q : Value → Shared → Prop) (E : Value → Shared → Prop), tn i s.heap → Q (.ref it) s → wpAny (model P w) A (pyIter (.ref it)) Q E s
abbrev TI := St → Hp → (It → Hp → Prop) → Prop
/-- an iterator has come -/
def PIE (X : Cx) (pins : List (Addr × Obj)) (σ : St) (tg : Expr) (R : It → Hp → Prop) (itv : Value) (s2 : Shared) : Prop :=
  ∃ (it : Addr) (fp : List Addr) (tn : Nat → Heap → Prop) (J : It) (H' : Hp), itv = .ref it ∧ Inv X pins σ H' s2 ∧ Turn X.prog X.w X.K tg J fp it tn ∧ tn 0 s2.heap ∧ (∀ b ∈ fp, FpOk X pins H' b) ∧ R J H'
def PI (X : Cx) (tg iter : Expr) (wi : TI) : Prop :=
  ∀ (pins : List (Addr × Obj)) (s : Shared) (σ : St) (H : Hp) (R : It → Hp → Prop), Inv X pins σ H s → wi σ H R →
    wpAny (model X.prog X.w) X.A (eval iter X.env) (fun v s1 => wpAny (model X.prog X.w) X.A (pyIter v) (PIE X pins σ tg R) X.xe s1) X.xe s

/-- the step ahead of the store is nothing for an iterator that keeps no tuple -/
theorem go_of {M : Model} {A : Around} {E : Value → Shared → Prop} {s : Shared} {tg : Expr} {it : Addr} {u : Value} {o : Obj} {n : String} {vs : Array Value} {Q : Unit → Shared → Prop} (ho : s.heap.get? it = some o) (hc : o.cls = .type n) (hd : o.data = .fields vs)
    (hn : ["enumerate", "zip", "dict_itemiterator", "dict_reverseitemiterator", "odict_iterator", "itertools.zip_longest", "itertools.pairwise"].contains n = false) (hQ : Q () s) : wpAny M A (letOwnedTupleGo tg (.ref it) u) Q E s := by
  unfold letOwnedTupleGo
  cases tg <;> first
    | exact wpAny_pure hQ
    | (cases u <;> first
        | exact wpAny_pure hQ
        | (refine wpAny_bind (wpAny_load ho ?_)
           rw [hc, hd]
           show wpAny M A (if (["enumerate", "zip", "dict_itemiterator", "dict_reverseitemiterator", "odict_iterator", "itertools.zip_longest", "itertools.pairwise"].contains n && vs[0]? == some (rawInt _)) = true then _ else _) Q E s
           rw [if_neg (by intro h; rw [hn, Bool.false_and] at h; cases h)]
           exact wpAny_pure hQ))

/-- the list at a, as it stands at each turn (a loop may append to it) -/
def Itl (K : PySem.W.Frag) (a : Addr) : It :=
  ⟨fun i H => ∃ xs x, SqL K H a xs ∧ xs[i]? = some x, fun i H x H' => H' = H ∧ ∀ xs, SqL K H a xs → xs[i]? = some x, fun i H => ∃ xs, SqL K H a xs ∧ xs.length ≤ i⟩
def Itt (K : PySem.W.Frag) (a : Addr) : It :=
  ⟨fun i H => ∃ xs x, SqT K H a xs ∧ xs[i]? = some x, fun i H x H' => H' = H ∧ ∀ xs, SqT K H a xs → xs[i]? = some x, fun i H => ∃ xs, SqT K H a xs ∧ xs.length ≤ i⟩
/-- lo, lo + 1, .. (n of them) -/
def Itr (lo : Int) (n : Nat) : It := ⟨fun i _ => i < n, fun i H x H' => H' = H ∧ x = .int (lo + i), fun i _ => n ≤ i⟩
theorem turn_list {P : Program} {w : World} {K : PySem.W.Frag} {tg : Expr} (a it : Addr) : Turn P w K tg (Itl K a) [it] it (fun i h => h.IsListIter it a i) where
  mem := by simp
  obj := fun i h st b hb => by
    have e : b = it := by simpa using hb
    subst e
    obtain ⟨o, e, c, d⟩ := st
    exact ⟨o, e, fun v z => by rw [d] at z; cases z⟩
  keep := fun i h h' st k => st.at fun o e => k it (by simp) o e
  item := by
    intro X hP hw hK hc i pins s σ H E I hf st hg
    subst hP hw hK
    obtain ⟨xs, x, hq, hx⟩ := hg
    obtain ⟨its, rv, p, hz⟩ := I.list hq
    obtain ⟨u, hu, ru⟩ := rv.get hx
    obtain ⟨f0, f1, f2, f3, f4, f5⟩ := hf it (by simp)
    refine wpAny_pyNext_list_item st p.isList (x := u) (by simpa using hu) fun h' st' sb => ?_
    have I1 : Inv X pins σ H { s with heap := h' } := I.turned (t' := s.toks) (fun b o hb e => (sb.2 b hb).trans e) f0 f1 f3 f4 f5
    obtain ⟨o, e, c, d⟩ := id st'
    exact ⟨u, rfl, go_of (s := { s with heap := h' }) e c d (by decide) ⟨x, H, I1, ru, ⟨rfl, fun ys hy => by rw [I.list_inj hy hq]; exact hx⟩, st', fun b hb => (hf b hb).1⟩⟩
  done := by
    intro X hP hw hK hc i pins s σ H E I hf st hg
    subst hP hw hK
    obtain ⟨xs, hq, hx⟩ := hg
    obtain ⟨its, rv, p, hz⟩ := I.list hq
    obtain ⟨f0, f1, f2, f3, f4, f5⟩ := hf it (by simp)
    have hl := rv.length
    exact wpAny_pyNext_list_end (I.ok.hd hc) st p.isList (by simp; omega) fun h' eb => ⟨rfl, I.turned (t' := s.toks) (fun b o hb e => eb b o hb e) f0 f1 f3 f4 f5⟩
  self := fun _ _ _ _ _ st h => wpAny_pyIter_listiter st h
theorem turn_tuple {P : Program} {w : World} {K : PySem.W.Frag} {tg : Expr} (a it : Addr) : Turn P w K tg (Itt K a) [it] it (fun i h => h.IsTupleIter it a i) where
  mem := by simp
  obj := fun i h st b hb => by
    have e : b = it := by simpa using hb
    subst e
    obtain ⟨o, e, c, d⟩ := st
    exact ⟨o, e, fun v z => by rw [d] at z; cases z⟩
  keep := fun i h h' st k => st.at fun o e => k it (by simp) o e
  item := by
    intro X hP hw hK hc i pins s σ H E I hf st hg
    subst hP hw hK
    obtain ⟨xs, x, hq, hx⟩ := hg
    obtain ⟨its, rv, p, hz⟩ := I.tuple hq
    obtain ⟨u, hu, ru⟩ := rv.get hx
    obtain ⟨f0, f1, f2, f3, f4, f5⟩ := hf it (by simp)
    refine wpAny_pyNext_tuple_item st (show s.heap.IsTuple a its.toArray from p) (x := u) (by simpa using hu) fun h' st' sb => ?_
    have I1 : Inv X pins σ H { s with heap := h' } := I.turned (t' := s.toks) (fun b o hb e => (sb.2 b hb).trans e) f0 f1 f3 f4 f5
    obtain ⟨o, e, c, d⟩ := id st'
    exact ⟨u, rfl, go_of (s := { s with heap := h' }) e c d (by decide) ⟨x, H, I1, ru, ⟨rfl, fun ys hy => by rw [I.tuple_inj hy hq]; exact hx⟩, st', fun b hb => (hf b hb).1⟩⟩
  done := by
    intro X hP hw hK hc i pins s σ H E I hf st hg
    subst hP hw hK
    obtain ⟨xs, hq, hx⟩ := hg
    obtain ⟨its, rv, p, hz⟩ := I.tuple hq
    obtain ⟨f0, f1, f2, f3, f4, f5⟩ := hf it (by simp)
    have hl := rv.length
    exact wpAny_pyNext_tuple_end (I.ok.hd hc) st (show s.heap.IsTuple a its.toArray from p) (by simp; omega) fun h' eb => ⟨rfl, I.turned (t' := s.toks) (fun b o hb e => eb b o hb e) f0 f1 f3 f4 f5⟩
  self := fun _ _ _ _ _ st h => wpAny_pyIter_tupleiter st h
theorem turn_range {P : Program} {w : World} {K : PySem.W.Frag} {tg : Expr} (it : Addr) (lo : Int) (n : Nat) : Turn P w K tg (Itr lo n) [it] it (fun i h => IsRangeIter h it (lo + (i : Nat) * 1) ((n : Int) - (i : Nat)) 1) where
  mem := by simp
  obj := fun i h st b hb => by
    have e : b = it := by simpa using hb
    subst e
    exact ⟨_, st, fun v z => by
      have z' : Data.fields _ = Data.cell v := z
      cases z'⟩
  keep := fun i h h' st k => k it (by simp) _ st
  item := by
    intro X hP hw hK hc i pins s σ H E I hf st hg
    subst hP hw hK
    obtain ⟨f0, f1, f2, f3, f4, f5⟩ := hf it (by simp)
    have W := Walks.range (prog := X.prog) (w := X.w) (I.ok.hd hc) it lo 1 n
    refine W.item i s _ _ hg st fun v h' tk hv st' kk => ?_
    obtain ⟨t, rfl⟩ := hv
    have I1 : Inv X pins σ H { s with heap := h', toks := tk } := I.turned (fun b o hb e => kk b o (by simpa using hb) e) f0 f1 f3 f4 f5
    refine ⟨_, rfl, go_of (s := { s with heap := h', toks := tk }) (n := "range_iterator") st' rfl rfl (by decide) ⟨.int (lo + i), H, I1, ⟨t, ?_⟩, ⟨rfl, rfl⟩, st', fun b hb => (hf b hb).1⟩⟩
    rw [Int.mul_one]
  done := by
    intro X hP hw hK hc i pins s σ H E I hf st hg
    subst hP hw hK
    obtain ⟨f0, f1, f2, f3, f4, f5⟩ := hf it (by simp)
    exact wpAny_pyNext_range_end (I.ok.hd hc) st (by have : n ≤ i := hg; omega) fun h' eb => ⟨rfl, I.turned (t' := s.toks) (fun b o hb e => eb b o hb e) f0 f1 f3 f4 f5⟩
  self := fun _ _ _ _ _ st h => wpAny_pyIter_rangeiter st h
end L2

namespace L2
open PySem PySem.Spec PyProof.Rows
section
variable {X : Cx} {tg : Expr}
def iList (K : PySem.W.Frag) (tl : TE) : TI := fun σ H R => tl σ H fun x H1 => ∃ a, x = .ref a ∧ (∃ xs, SqL K H1 a xs) ∧ R (Itl K a) H1
def iTup (K : PySem.W.Frag) (tl : TE) : TI := fun σ H R => tl σ H fun x H1 => ∃ a, x = .ref a ∧ (∃ xs, SqT K H1 a xs) ∧ R (Itt K a) H1
theorem pi_list {l : Expr} {tl : TE} (hl : PE X l tl) : PI X tg l (iList X.K tl) := by
  intro pins s σ H R I h
  refine thn (hl pins s σ H _ I h) fun v s1 ⟨x, H1, I1, r1, q1⟩ => ?_
  obtain ⟨a, e, ⟨xs, hq⟩, q⟩ := q1
  subst e
  cases r1
  obtain ⟨its, rv, p, hz⟩ := I1.list hq
  refine wpAny_pyIter_list p.isList ?_
  refine ⟨s1.heap.objs.size, [s1.heap.objs.size], _, _, H1, rfl, I1.kept (t' := s1.toks) fun b o e => Heap.get?_push_of_some _ e, turn_list a _, ⟨_, Heap.get?_push_size _ rfl, rfl, rfl⟩, fun b hb => ?_, q⟩
  have e : b = s1.heap.objs.size := by simpa using hb
  subst e
  exact I1.fpOk (Nat.le_refl _) (I1.hok.fresh (Nat.le_refl _))
theorem pi_tup {l : Expr} {tl : TE} (hl : PE X l tl) : PI X tg l (iTup X.K tl) := by
  intro pins s σ H R I h
  refine thn (hl pins s σ H _ I h) fun v s1 ⟨x, H1, I1, r1, q1⟩ => ?_
  obtain ⟨a, e, ⟨xs, hq⟩, q⟩ := q1
  subst e
  cases r1
  obtain ⟨its, rv, p, hz⟩ := I1.tuple hq
  refine wpAny_pyIter_tuple (show s1.heap.IsTuple a its.toArray from p) ?_
  refine ⟨s1.heap.objs.size, [s1.heap.objs.size], _, _, H1, rfl, I1.kept (t' := s1.toks) fun b o e => Heap.get?_push_of_some _ e, turn_tuple a _, ⟨_, Heap.get?_push_size _ rfl, rfl, rfl⟩, fun b hb => ?_, q⟩
  have e : b = s1.heap.objs.size := by simpa using hb
  subst e
  exact I1.fpOk (Nat.le_refl _) (I1.hok.fresh (Nat.le_refl _))
/-- a range object just made, walked -/
theorem range_it {pins : List (Addr × Obj)} {σ : St} {H : Hp} {s : Shared} {R : It → Hp → Prop} {E : Value → Shared → Prop} {lo hi : Int} {t u v : Tok} {tk : Nat} (I : Inv X pins σ H s) (h1 : -(2 ^ 62) ≤ lo) (h2 : lo < 2 ^ 62) (h3 : -(2 ^ 62) ≤ hi) (h4 : hi < 2 ^ 62)
    (q : R (Itr lo (hi - lo).toNat) H) : wpAny (model X.prog X.w) X.A (pyIter (.ref s.heap.objs.size)) (PIE X pins σ tg R) E { s with heap := s.heap.push { cls := .type "range", data := .fields #[.int lo t, .int hi u, .int 1 v] }, toks := tk } := by
  refine wpAny_pyIter_range (IsRange.new ..) (small_one h1 h2 h3 h4) ?_
  have I1 : Inv X pins σ H { s with heap := s.heap.push { cls := .type "range", data := .fields #[.int lo t, .int hi u, .int 1 v] }, toks := tk } := I.kept fun b o e => Heap.get?_push_of_some _ e
  refine ⟨(s.heap.push { cls := .type "range", data := .fields #[.int lo t, .int hi u, .int 1 v] }).objs.size, [(s.heap.push { cls := .type "range", data := .fields #[.int lo t, .int hi u, .int 1 v] }).objs.size], _, _, H, rfl,
    I1.kept (t' := tk) fun b o e => Heap.get?_push_of_some _ e, turn_range _ lo (hi - lo).toNat, ?_, fun b hb => ?_, q⟩
  · have e1 : lo + ((0 : Nat) : Int) * 1 = lo := by simp
    have e2 : (((hi - lo).toNat : Nat) : Int) - ((0 : Nat) : Int) = Builtin.Range.rangeSize lo hi 1 := by rw [rangeSize_one]; split <;> omega
    show IsRangeIter _ _ (lo + ((0 : Nat) : Int) * 1) ((((hi - lo).toNat : Nat) : Int) - ((0 : Nat) : Int)) 1
    rw [e1, e2]
    exact Heap.get?_push_size _ rfl
  · have e : b = (s.heap.push { cls := .type "range", data := .fields #[.int lo t, .int hi u, .int 1 v] }).objs.size := by simpa using hb
    subst e
    exact I1.fpOk (Nat.le_refl _) (I1.hok.fresh (Nat.le_refl _))
def iRng1 (ta : TA) : TI := fun σ H R => ta σ H fun vs H1 => ∃ j : Int, vs = [.int j] ∧ -(2 ^ 62) ≤ j ∧ j < 2 ^ 62 ∧ R (Itr 0 j.toNat) H1
def iRng2 (ta : TA) : TI := fun σ H R => ta σ H fun vs H1 => ∃ i j : Int, vs = [.int i, .int j] ∧ (-(2 ^ 62) ≤ i ∧ i < 2 ^ 62 ∧ -(2 ^ 62) ≤ j ∧ j < 2 ^ 62) ∧ R (Itr i (j - i).toNat) H1
theorem pi_range1 {a : Expr} {ta : TA} {p pos : Pos} (hg : Gl X "range") (hm : X.mg "range" = none) (ha : PA X [a] ta) (hs : starEach [a] X.env = [(false, eval a X.env)] := by rfl) : PI X tg (.Call (.Name "range" p) [a] [] pos) (iRng1 ta) := by
  intro pins s σ H R I h
  refine Call_ (ld_blt I hg hm boot_range (PyProof.Rows.callWith_type1 (thn (ha pos pins s σ H _ I h) fun us s1 ⟨vs, H1, I1, r1, q1⟩ => ?_) hs rfl))
  obtain ⟨j, e, q1, q2, q⟩ := q1
  subst e
  cases r1 with
  | cons r rr =>
    cases rr
    obtain ⟨t, rfl⟩ := r
    exact call_range_1 (range_it I1 (by omega) (by omega) q1 q2 (by simpa using q))

/-! ### for -/
/-- W: the invariant by the turn and a measure; N: what the body is to reach -/
def tFor (wi : TI) (g : TG) (tb : TS) : TS := fun D σ H => wi σ H fun J H1 => ∃ W : Nat → Nat → St → Hp → Prop, (∃ m, W 0 m σ H1) ∧ ∀ i m σ H, W i m σ H →
  (J.stop i H ∧ D.nx σ H) ∨ (J.go i H ∧ ∃ N : St → Hp → Prop, (∀ σ' H', N σ' H' → ∃ m', m' < m ∧ W (i + 1) m' σ' H') ∧ ∀ x H', J.yld i H x H' → g x σ H' fun σ2 H2 => tb { D with nx := N, ct := N, bk := D.nx } σ2 H2)
/-- the records at fp as they stand -/
def pinsAt (fp : List Addr) (h : Heap) : List (Addr × Obj) := fp.filterMap fun b => (h.get? b).map fun o => (b, o)
theorem mem_pinsAt {fp : List Addr} {h : Heap} {b : Addr} {o : Obj} (hb : b ∈ fp) (e : h.get? b = some o) : (b, o) ∈ pinsAt fp h := List.mem_filterMap.mpr ⟨b, hb, by rw [e]; rfl⟩
theorem of_pinsAt {fp : List Addr} {h : Heap} {p : Addr × Obj} (hp : p ∈ pinsAt fp h) : p.1 ∈ fp ∧ h.get? p.1 = some p.2 := by
  obtain ⟨b, hb, e⟩ := List.mem_filterMap.mp hp
  cases q : h.get? b with
  | none => rw [q] at e; cases e
  | some o =>
    rw [q] at e
    have e' : (b, o) = p := Option.some.inj e
    subst e'
    exact ⟨hb, q⟩
theorem Inv.pinned {pins : List (Addr × Obj)} {σ : St} {H : Hp} {s : Shared} {fp : List Addr} (I : Inv X pins σ H s) (hf : ∀ b ∈ fp, FpOk X pins H b) (ho : ∀ b ∈ fp, ∃ o, s.heap.get? b = some o ∧ ∀ v, o.data ≠ .cell v) : Inv X (pins ++ pinsAt fp s.heap) σ H s :=
  I.pins_of fun p hp => (List.mem_append.mp hp).elim (fun z => I.pin p (List.mem_append_right _ z)) fun z => by
    obtain ⟨hb, e⟩ := of_pinsAt z
    obtain ⟨f0, f1, f2, _⟩ := hf p.1 hb
    obtain ⟨o, e', d⟩ := ho p.1 hb
    rw [e] at e'; cases e'
    exact ⟨e, f0, f1, f2, d⟩
theorem Inv.unpinned {pins pl : List (Addr × Obj)} {σ : St} {H : Hp} {s : Shared} (I : Inv X (pins ++ pl) σ H s) : Inv X pins σ H s := I.pins_of fun p hp => I.pin p (List.mem_append_right _ (List.mem_append_left _ hp))
theorem ps_for {iter : Expr} {body : List Stmt} {wi : TI} {g : TG} {tb : TS} {pos : Pos} (hp : PassesOwn (model X.prog X.w) X.A X.env X.xe) (hc : X.calm = true) (hi : PI X tg iter wi) (hg : PG X tg g) (hb : PSs X body tb)
    (hs : ∀ x, foldedSetIterable iter X.env x = pure x := by intro _; rfl) : PS X (.For tg iter body [] pos) (tFor wi g tb) := by
  intro pins s σ H D I h
  refine wpAny_For (thn (hi pins s σ H _ I h) fun v s1 h1 => thn h1 fun itv s2 h2 => ?_) hs
  obtain ⟨it, fp, tn, J, H2, e, I2, T, st2, f2, W, ⟨m0, w0⟩, turn⟩ := h2
  subst e
  -- what stays true of the iterator's objects through the loop
  have stat : ∀ {H' : Hp}, (∀ b ∈ fp, H' b = none) → ∀ b ∈ fp, FpOk X pins H' b := fun hn b hb => ⟨hn b hb, (f2 b hb).2⟩
  refine codeAny_forLoop_any (fun n s' => ∃ i σ' H', Inv X pins σ' H' s' ∧ tn i s'.heap ∧ (∀ b ∈ fp, H' b = none) ∧ W i n σ' H') ?_ m0 ⟨0, σ, H2, I2, st2, fun b hb => (f2 b hb).1, w0⟩
  rintro n s3 ⟨i, σ3, H3, I3, st3, fr3, w3⟩
  rcases turn i n σ3 H3 w3 with ⟨stop, qn⟩ | ⟨go, N, hN, step⟩
  · refine wpAny_passesOwn hp (thn (T.done X rfl rfl rfl hc i pins s3 σ3 H3 X.xe I3 (stat fr3) st3 stop) fun r s4 ⟨hr, I4⟩ => ?_)
    subst hr
    exact wpAny_execs_nil ⟨σ3, H3, I4, qn⟩
  · refine wpAny_passesOwn hp (thn (T.item X rfl rfl rfl hc i pins s3 σ3 H3 X.xe I3 (stat fr3) st3 go) fun r s4 ⟨u, hr, h4⟩ => ?_)
    subst hr
    refine wpAny_passesOwn hp (thn h4 fun _ s5 ⟨x, H5, I5, r5, y5, st5, fr5⟩ => ?_)
    have I5' := I5.pinned (stat fr5) (T.obj _ _ st5)
    refine wpAny_passesOwn hp (thn (hg _ s5 σ3 H5 x u _ I5' r5 (step x H5 y5)) fun _ s6 ⟨σ6, H6, I6, q6⟩ => ?_)
    refine wpAny_passesOwn hp (thn (hb _ s6 σ6 H6 _ I6 q6) fun f s7 q7 => ?_)
    have again : ∀ {σ7 : St} {H7 : Hp}, Inv X (pins ++ pinsAt fp s5.heap) σ7 H7 s7 → N σ7 H7 → ∃ m, m < n ∧ ∃ i σ' H', Inv X pins σ' H' s7 ∧ tn i s7.heap ∧ (∀ b ∈ fp, H' b = none) ∧ W i m σ' H' := fun {σ7 H7} I7 n7 => by
      obtain ⟨m', hm, w7⟩ := hN σ7 H7 n7
      refine ⟨m', hm, i + 1, σ7, H7, I7.unpinned, T.keep _ _ _ st5 fun b hb o e => (I7.pin (b, o) (List.mem_append_right _ (List.mem_append_right _ (mem_pinsAt hb e)))).1, fun b hb => ?_, w7⟩
      obtain ⟨o, e, d⟩ := T.obj _ _ st5 b hb
      exact (I7.pin (b, o) (List.mem_append_right _ (List.mem_append_right _ (mem_pinsAt hb e)))).2.1
    cases f with
    | next => obtain ⟨σ7, H7, I7, n7⟩ := q7; exact again I7 n7
    | cont => obtain ⟨σ7, H7, I7, n7⟩ := q7; exact again I7 n7
    | brk => obtain ⟨σ7, H7, I7, q7⟩ := q7; exact ⟨σ7, H7, I7.unpinned, q7⟩
    | ret v => obtain ⟨x7, σ7, H7, I7, r7, q7⟩ := q7; exact ⟨x7, σ7, H7, I7.unpinned, r7, q7⟩
end

/-! ### the forms one uses -/
/-- over a list that the body leaves as it is -/
theorem for_list {K : PySem.W.Frag} {a : Addr} {xs : List V} {g : TG} {tb : TS} {D : Ends} {σ : St} {H : Hp} (Pv : Nat → St → Hp → Prop) (h0 : Pv 0 σ H) (hl : ∀ i σ H, i ≤ xs.length → Pv i σ H → SqL K H a xs)
    (hs : ∀ i x σ H, xs[i]? = some x → Pv i σ H → g x σ H fun σ2 H2 => tb { D with nx := Pv (i + 1), ct := Pv (i + 1), bk := D.nx } σ2 H2) (hd : ∀ σ H, Pv xs.length σ H → D.nx σ H) :
    ∃ W : Nat → Nat → St → Hp → Prop, (∃ m, W 0 m σ H) ∧ ∀ i m σ H, W i m σ H →
      ((Itl K a).stop i H ∧ D.nx σ H) ∨ ((Itl K a).go i H ∧ ∃ N : St → Hp → Prop, (∀ σ' H', N σ' H' → ∃ m', m' < m ∧ W (i + 1) m' σ' H') ∧ ∀ x H', (Itl K a).yld i H x H' → g x σ H' fun σ2 H2 => tb { D with nx := N, ct := N, bk := D.nx } σ2 H2) := by
  refine ⟨fun i m σ H => m = xs.length - i ∧ i ≤ xs.length ∧ Pv i σ H, ⟨xs.length, by simp, Nat.zero_le _, h0⟩, ?_⟩
  rintro i m σ H ⟨rfl, hi, p⟩
  have q := hl i σ H hi p
  by_cases hlt : i < xs.length
  · refine .inr ⟨⟨xs, xs[i], q, by simp [hlt]⟩, Pv (i + 1), fun σ' H' p' => ⟨xs.length - (i + 1), by omega, rfl, hlt, p'⟩, fun x H' y => ?_⟩
    obtain ⟨e, y⟩ := y
    subst e
    exact hs i x σ _ (y xs q) p
  · have e : i = xs.length := by omega
    subst e
    exact .inl ⟨⟨xs, q, Nat.le_refl _⟩, hd σ H p⟩
theorem for_range {lo : Int} {n : Nat} {g : TG} {tb : TS} {D : Ends} {σ : St} {H : Hp} (Pv : Nat → St → Hp → Prop) (h0 : Pv 0 σ H)
    (hs : ∀ i σ H, i < n → Pv i σ H → g (.int (lo + i)) σ H fun σ2 H2 => tb { D with nx := Pv (i + 1), ct := Pv (i + 1), bk := D.nx } σ2 H2) (hd : ∀ σ H, Pv n σ H → D.nx σ H) :
    ∃ W : Nat → Nat → St → Hp → Prop, (∃ m, W 0 m σ H) ∧ ∀ i m σ H, W i m σ H →
      ((Itr lo n).stop i H ∧ D.nx σ H) ∨ ((Itr lo n).go i H ∧ ∃ N : St → Hp → Prop, (∀ σ' H', N σ' H' → ∃ m', m' < m ∧ W (i + 1) m' σ' H') ∧ ∀ x H', (Itr lo n).yld i H x H' → g x σ H' fun σ2 H2 => tb { D with nx := N, ct := N, bk := D.nx } σ2 H2) := by
  refine ⟨fun i m σ H => m = n - i ∧ i ≤ n ∧ Pv i σ H, ⟨n, by simp, Nat.zero_le _, h0⟩, ?_⟩
  rintro i m σ H ⟨rfl, hi, p⟩
  by_cases hlt : i < n
  · refine .inr ⟨hlt, Pv (i + 1), fun σ' H' p' => ⟨n - (i + 1), by omega, rfl, hlt, p'⟩, fun x H' y => ?_⟩
    obtain ⟨e, y⟩ := y
    subst e y
    exact hs i σ _ hlt p
  · have e : i = n := by omega
    subst e
    exact .inl ⟨Nat.le_refl _, hd σ H p⟩
end L2

namespace L2
open PySem PySem.Spec PyProof.Rows

abbrev R2 := V → V → Hp → VK → Prop
/-- a two-place operation on values: f is binaryOp op, inplaceOp op or compareOp op -/
def OpR (X : Cx) (f : Value → Value → Sem Value) (r : R2) : Prop :=
  ∀ (pins : List (Addr × Obj)) (s : Shared) (σ : St) (H : Hp) (x y : V) (v u : Value) (Q : VK), Inv X pins σ H s → RelV x v → RelV y u → r x y H Q →
    wpAny (model X.prog X.w) X.A (f v u) (EP X pins σ Q) X.xe s
/-- a one-place operation -/
def UnR (X : Cx) (f : Value → Sem Value) (r : V → Hp → VK → Prop) : Prop :=
  ∀ (pins : List (Addr × Obj)) (s : Shared) (σ : St) (H : Hp) (x : V) (v : Value) (Q : VK), Inv X pins σ H s → RelV x v → r x H Q →
    wpAny (model X.prog X.w) X.A (f v) (EP X pins σ Q) X.xe s
/-- a call of a value that is known (a builtin, a type) with values -/
def CallR (X : Cx) (f : Value) (r : List V → Hp → VK → Prop) : Prop :=
  ∀ (pins : List (Addr × Obj)) (s : Shared) (σ : St) (H : Hp) (xs : List V) (us : List Value) (Q : VK), Inv X pins σ H s → Vals xs us → r xs H Q →
    wpAny (model X.prog X.w) X.A (call f us) (EP X pins σ Q) X.xe s
/-- a value's truth -/
def TruR (X : Cx) (r : V → Hp → (Bool → Hp → Prop) → Prop) : Prop :=
  ∀ (pins : List (Addr × Obj)) (s : Shared) (σ : St) (H : Hp) (x : V) (v : Value) (Q : Bool → Hp → Prop), Inv X pins σ H s → RelV x v → r x H Q →
    wpAny (model X.prog X.w) X.A (truthy v) (TP X pins σ Q) X.xe s

def tOp (r : R2) (ta tb : TE) : TE := fun σ H Q => ta σ H fun x H1 => tb σ H1 fun y H2 => r x y H2 Q
def tUn (r : V → Hp → VK → Prop) (ta : TE) : TE := fun σ H Q => ta σ H fun x H1 => r x H1 Q
/-- ints in, under C, and a value out -/
def rI (C : Int → Int → Prop) (g : Int → Int → V) : R2 := fun x y H Q => ∃ i j, x = .int i ∧ y = .int j ∧ C i j ∧ Q (g i j) H
def rI0 (g : Int → Int → V) : R2 := fun x y H Q => ∃ i j, x = .int i ∧ y = .int j ∧ Q (g i j) H
def rU (g : Int → V) : V → Hp → VK → Prop := fun x H Q => ∃ i, x = .int i ∧ Q (g i) H

section
variable {X : Cx} {a b c : Expr} {ta tb tc : TE} {pos : Pos}

theorem binT (ha : PE X a ta) (hb : PE X b tb) {pins : List (Addr × Obj)} {s : Shared} {σ : St} {H : Hp} {R : V → V → Hp → Prop} (I : Inv X pins σ H s)
    (h : ta σ H fun x H1 => tb σ H1 fun y H2 => R x y H2) {Q : Value → Shared → Prop} {f : Value → Value → Sem Value}
    (hf : ∀ v u s2 x y H2, Inv X pins σ H2 s2 → RelV x v → RelV y u → R x y H2 → wpAny (model X.prog X.w) X.A (f v u) Q X.xe s2) :
    wpAny (model X.prog X.w) X.A (eval a X.env) (fun v s₁ => wpAny (model X.prog X.w) X.A (eval b X.env) (fun u s₂ => wpAny (model X.prog X.w) X.A (f v u) Q X.xe s₂) X.xe s₁) X.xe s := by
  refine thn (ha pins s σ H _ I h) fun v s1 ⟨x, H1, I1, r1, q1⟩ => ?_
  refine thn (hb pins s1 σ H1 _ I1 q1) fun u s2 ⟨y, H2, I2, r2, q2⟩ => ?_
  exact hf v u s2 x y H2 I2 r1 r2 q2

theorem pe_op {op : Operator} {r : R2} (ho : OpR X (binaryOp op) r) (ha : PE X a ta) (hb : PE X b tb) : PE X (.BinOp a op b pos) (tOp r ta tb) := by
  intro pins s σ H Q I h
  exact wpAny_BinOp (binT ha hb I h fun v u s2 x y H2 I2 rx ry q => ho pins s2 σ H2 x y v u Q I2 rx ry q)
theorem pe_un {op : UnaryOp} {r : V → Hp → VK → Prop} (ho : UnR X (unaryOp op) r) (ha : PE X a ta) : PE X (.UnaryOp op a pos) (tUn r ta) := by
  intro pins s σ H Q I h
  exact UnaryOp_ (thn (ha pins s σ H _ I h) fun v s1 ⟨x, H1, I1, r1, q1⟩ => ho pins s1 σ H1 x v Q I1 r1 q1)

/-! ### ints -/
theorem opI {f : Value → Value → Sem Value} {C : Int → Int → Prop} {g : Int → Int → Int}
    (rule : ∀ (i j : Int) (t u : Tok) (s : Shared) (Q : Value → Shared → Prop) (E : Value → Shared → Prop), C i j → Q (.int (g i j) s.toks) { s with toks := s.toks + 1 } → wpAny (model X.prog X.w) X.A (f (.int i t) (.int j u)) Q E s) :
    OpR X f (rI C fun i j => .int (g i j)) := by
  intro pins s σ H x y v u Q I rx ry h
  obtain ⟨i, j, rfl, rfl, hc, q⟩ := h
  obtain ⟨t, rfl⟩ := rx
  obtain ⟨t', rfl⟩ := ry
  exact rule i j t t' s _ _ hc ⟨.int (g i j), H, I.tok _, ⟨_, rfl⟩, q⟩
theorem opI0 {f : Value → Value → Sem Value} {g : Int → Int → Int}
    (rule : ∀ (i j : Int) (t u : Tok) (s : Shared) (Q : Value → Shared → Prop) (E : Value → Shared → Prop), Q (.int (g i j) s.toks) { s with toks := s.toks + 1 } → wpAny (model X.prog X.w) X.A (f (.int i t) (.int j u)) Q E s) :
    OpR X f (rI0 fun i j => .int (g i j)) := by
  intro pins s σ H x y v u Q I rx ry h
  obtain ⟨i, j, rfl, rfl, q⟩ := h
  obtain ⟨t, rfl⟩ := rx
  obtain ⟨t', rfl⟩ := ry
  exact rule i j t t' s _ _ ⟨.int (g i j), H, I.tok _, ⟨_, rfl⟩, q⟩
theorem opB0 {f : Value → Value → Sem Value} {g : Int → Int → Bool}
    (rule : ∀ (i j : Int) (t u : Tok) (s : Shared) (Q : Value → Shared → Prop) (E : Value → Shared → Prop), Q (.bool (g i j)) s → wpAny (model X.prog X.w) X.A (f (.int i t) (.int j u)) Q E s) :
    OpR X f (rI0 fun i j => .bl (g i j)) := by
  intro pins s σ H x y v u Q I rx ry h
  obtain ⟨i, j, rfl, rfl, q⟩ := h
  obtain ⟨t, rfl⟩ := rx
  obtain ⟨t', rfl⟩ := ry
  exact rule i j t t' s _ _ ⟨.bl (g i j), H, I, rfl, q⟩

def CDiv (i j : Int) : Prop := 0 < j ∧ j < 1073741824
def CDivN (i j : Int) : Prop := j ≠ 0 ∧ j.natAbs < 1073741824
def CPow (i j : Int) : Prop := 0 ≤ j ∧ j ≤ 1000000 ∧ i.natAbs < 2 ^ 64
def CMul (i j : Int) : Prop := (-(2 ^ 64) < i ∧ i < 2 ^ 64) ∨ (-(2 ^ 64) < j ∧ j < 2 ^ 64)
theorem CMul.ok {i j : Int} (h : CMul i j) : IntMulOk i j := by
  rcases h with ⟨h1, h2⟩ | ⟨h1, h2⟩
  · exact .of_left (intBits_le_64 h1 h2)
  · exact .of_right (intBits_le_64 h1 h2)
theorem two_pow_nn (k : Nat) : (0 : Int) ≤ 2 ^ k := by
  rw [two_pow_cast]
  exact Int.natCast_nonneg _

theorem op_add : OpR X (binaryOp .Add) (rI0 fun i j => .int (i + j)) := opI0 fun _ _ _ _ _ _ _ q => add_int q
theorem op_sub : OpR X (binaryOp .Sub) (rI0 fun i j => .int (i - j)) := opI0 fun _ _ _ _ _ _ _ q => sub_int q
theorem op_mul : OpR X (binaryOp .Mult) (rI CMul fun i j => .int (i * j)) := opI fun _ _ _ _ _ _ _ hc q => mul_int q hc.ok
/-- // by a positive divisor -/
theorem op_fdiv : OpR X (binaryOp .FloorDiv) (rI CDiv fun i j => .int (i / j)) := opI fun i j _ _ _ _ _ hc q => by
  have h1 : (0 : Int) < j := hc.1
  have h2 : j < 1073741824 := hc.2
  exact floordiv_int (by omega) (by rw [Int.fdiv_eq_ediv_of_nonneg i (by omega)]; exact q) (.inl (PyProof.noPylong_small (by omega)))
/-- % by a positive divisor of any size -/
theorem op_mod : OpR X (binaryOp .Mod) (rI (fun _ j => 0 < j) fun i j => .int (i % j)) := opI fun i j _ _ _ _ _ hc q => by
  have h1 : (0 : Int) < j := hc
  exact mod_int' (by omega) (by rw [Int.fmod_eq_emod_of_nonneg i (by omega)]; exact q)
theorem op_shr : OpR X (binaryOp .RShift) (rI (fun _ j => 0 ≤ j) fun i j => .int (i / 2 ^ j.toNat)) := opI fun i j _ _ _ _ _ hc q =>
  rshift_int hc (by rw [Int.fdiv_eq_ediv_of_nonneg i (two_pow_nn _)]; exact q)


theorem unI {f : Value → Sem Value} {g : Int → Int}
    (rule : ∀ (i : Int) (t : Tok) (s : Shared) (Q : Value → Shared → Prop) (E : Value → Shared → Prop), Q (.int (g i) s.toks) { s with toks := s.toks + 1 } → wpAny (model X.prog X.w) X.A (f (.int i t)) Q E s) :
    UnR X f (rU fun i => .int (g i)) := by
  intro pins s σ H x v Q I rx h
  obtain ⟨i, rfl, q⟩ := h
  obtain ⟨t, rfl⟩ := rx
  exact rule i t s _ _ ⟨.int (g i), H, I.tok _, ⟨_, rfl⟩, q⟩
theorem un_neg : UnR X (unaryOp .USub) (rU fun i => .int (-i)) := unI fun _ _ _ _ _ q => neg_int q

/-! ### bools among ints: n += (a < b) -/
end

/-! ### comparisons -/
/-- the scalars that == tells apart as data does -/
def scal : V → V → Bool
  | .non, .non => true | .non, .int _ => true | .int _, .non => true | .non, .bl _ => true | .bl _, .non => true | .non, .str _ => true | .str _, .non => true
  | .int _, .int _ => true | .bl _, .bl _ => true | .str _, .str _ => true | .byt _, .byt _ => true
  | .int _, .str _ => true | .str _, .int _ => true | .bl _, .str _ => true | .str _, .bl _ => true
  | _, _ => false
def rEq : R2 := fun x y H Q => scal x y = true ∧ Q (.bl (decide (x = y))) H
def rNe : R2 := fun x y H Q => scal x y = true ∧ Q (.bl (!decide (x = y))) H

theorem dec_int {i j : Int} : decide (V.int i = V.int j) = (i == j) := by
  rw [Bool.eq_iff_iff]
  simp
theorem dec_bl {i j : Bool} : decide (V.bl i = V.bl j) = (i == j) := by
  rw [Bool.eq_iff_iff]
  simp
theorem dec_str {i j : Str} : decide (V.str i = V.str j) = (i == j) := by
  rw [Bool.eq_iff_iff]
  simp
theorem dec_byt {i j : Array UInt8} : decide (V.byt i = V.byt j) = (i.toList == j.toList) := by
  rw [Bool.eq_iff_iff]
  cases i
  cases j
  simp

section
variable {X : Cx} {a b c : Expr} {ta tb tc : TE} {pos : Pos}
theorem fin_bl {pins : List (Addr × Obj)} {σ : St} {H : Hp} {s : Shared} {Q : VK} {k k' : Bool} (I : Inv X pins σ H s) (q : Q (.bl k) H) (e : k = k') : EP X pins σ Q (.bool k') s := by
  subst e
  exact ⟨.bl k, H, I, rfl, q⟩
theorem op_eq : OpR X (compareOp .Eq) rEq := by
  intro pins s σ H x y v u Q I rx ry h
  obtain ⟨hs, q⟩ := h
  cases x with
  | non =>
    cases rx
    cases y with
    | non => cases ry; exact PySem.EqNone.eq_none_none (fin_bl I q (by simp))
    | bl j => cases ry; exact PySem.EqNone.eq_none_bool (fin_bl I q (by simp))
    | int j => obtain ⟨t', rfl⟩ := ry; exact PySem.EqNone.eq_none_int (fin_bl I q (by simp))
    | str j => obtain ⟨t', rfl⟩ := ry; exact PySem.EqNone.eq_none_str (fin_bl I q (by simp))
    | _ => exact absurd (show false = true from hs) Bool.false_ne_true
  | bl i =>
    cases rx
    cases y with
    | non => cases ry; exact PySem.EqNone.eq_bool_none (fin_bl I q (by simp))
    | bl j => cases ry; exact eq_bool (fin_bl I q dec_bl)
    | str j => obtain ⟨t', rfl⟩ := ry; exact PySem.EqMixed.eq_bool_str (fin_bl I q (by simp))
    | _ => exact absurd (show false = true from hs) Bool.false_ne_true
  | int i =>
    obtain ⟨t, rfl⟩ := rx
    cases y with
    | non => cases ry; exact PySem.EqNone.eq_int_none (fin_bl I q (by simp))
    | int j => obtain ⟨t', rfl⟩ := ry; exact eq_int (fin_bl I q dec_int)
    | str j => obtain ⟨t', rfl⟩ := ry; exact PySem.EqMixed.eq_int_str (fin_bl I q (by simp))
    | _ => exact absurd (show false = true from hs) Bool.false_ne_true
  | str i =>
    obtain ⟨t, rfl⟩ := rx
    cases y with
    | non => cases ry; exact PySem.EqNone.eq_str_none (fin_bl I q (by simp))
    | bl j => cases ry; exact PySem.EqMixed.eq_str_bool (fin_bl I q (by simp))
    | int j => obtain ⟨t', rfl⟩ := ry; exact PySem.EqMixed.eq_str_int (fin_bl I q (by simp))
    | str j => obtain ⟨t', rfl⟩ := ry; exact eq_str (fin_bl I q dec_str)
    | _ => exact absurd (show false = true from hs) Bool.false_ne_true
  | byt i =>
    obtain ⟨t, rfl⟩ := rx
    cases y with
    | byt j => obtain ⟨t', rfl⟩ := ry; exact PySem.W.eq_bytes (fin_bl I q dec_byt)
    | _ => exact absurd (show false = true from hs) Bool.false_ne_true
  | _ => cases y <;> exact absurd (show false = true from hs) Bool.false_ne_true
theorem op_ne : OpR X (compareOp .NotEq) rNe := by
  intro pins s σ H x y v u Q I rx ry h
  obtain ⟨hs, q⟩ := h
  cases x with
  | non =>
    cases rx
    cases y with
    | non => cases ry; exact PySem.EqNone.ne_none_none (fin_bl I q (by simp))
    | bl j => cases ry; exact PySem.EqNone.ne_none_bool (fin_bl I q (by simp))
    | int j => obtain ⟨t', rfl⟩ := ry; exact PySem.EqNone.ne_none_int (fin_bl I q (by simp))
    | str j => obtain ⟨t', rfl⟩ := ry; exact PySem.EqNone.ne_none_str (fin_bl I q (by simp))
    | _ => exact absurd (show false = true from hs) Bool.false_ne_true
  | bl i =>
    cases rx
    cases y with
    | non => cases ry; exact PySem.EqNone.ne_bool_none (fin_bl I q (by simp))
    | bl j => cases ry; exact ne_bool (fin_bl I q (congrArg not dec_bl))
    | str j => obtain ⟨t', rfl⟩ := ry; exact PySem.EqMixed.ne_bool_str (fin_bl I q (by simp))
    | _ => exact absurd (show false = true from hs) Bool.false_ne_true
  | int i =>
    obtain ⟨t, rfl⟩ := rx
    cases y with
    | non => cases ry; exact PySem.EqNone.ne_int_none (fin_bl I q (by simp))
    | int j => obtain ⟨t', rfl⟩ := ry; exact ne_int (fin_bl I q (congrArg not dec_int))
    | str j => obtain ⟨t', rfl⟩ := ry; exact PySem.EqMixed.ne_int_str (fin_bl I q (by simp))
    | _ => exact absurd (show false = true from hs) Bool.false_ne_true
  | str i =>
    obtain ⟨t, rfl⟩ := rx
    cases y with
    | non => cases ry; exact PySem.EqNone.ne_str_none (fin_bl I q (by simp))
    | bl j => cases ry; exact PySem.EqMixed.ne_str_bool (fin_bl I q (by simp))
    | int j => obtain ⟨t', rfl⟩ := ry; exact PySem.EqMixed.ne_str_int (fin_bl I q (by simp))
    | str j => obtain ⟨t', rfl⟩ := ry; exact ne_str (fin_bl I q (congrArg not dec_str))
    | _ => exact absurd (show false = true from hs) Bool.false_ne_true
  | byt i =>
    obtain ⟨t, rfl⟩ := rx
    cases y with
    | byt j => obtain ⟨t', rfl⟩ := ry; exact PySem.W.ne_bytes (fin_bl I q (congrArg not dec_byt))
    | _ => exact absurd (show false = true from hs) Bool.false_ne_true
  | _ => cases y <;> exact absurd (show false = true from hs) Bool.false_ne_true

theorem op_lt : OpR X (compareOp .Lt) (rI0 fun i j => .bl (decide (i < j))) := opB0 fun _ _ _ _ _ _ _ q => lt_int q
theorem op_gt : OpR X (compareOp .Gt) (rI0 fun i j => .bl (decide (j < i))) := opB0 fun _ _ _ _ _ _ _ q => gt_int q
theorem op_ge : OpR X (compareOp .GtE) (rI0 fun i j => .bl (decide (j ≤ i))) := opB0 fun _ _ _ _ _ _ _ q => ge_int q


/-- is, is not of two objects that are tracked lists or instances -/
def isObj : HO → Bool
  | .lst _ => true
  | .ins _ _ _ => true
  | _ => false


theorem nomark (b : Expr) {op : CmpOp} (h : op ≠ .In := by decide) (h2 : op ≠ .NotIn := by decide) : behindInMarks op b = false := by
  have e1 : (op == CmpOp.In) = false := by cases op <;> first | rfl | exact absurd rfl h
  have e2 : (op == CmpOp.NotIn) = false := by cases op <;> first | rfl | exact absurd rfl h2
  cases b <;> simp [behindInMarks, e1, e2]
/-- a comparison as a value; hm: nomark b, or (for in, not in) by with_unfolding_all rfl -/
theorem pe_cmpR {op : CmpOp} {r : R2} (ho : OpR X (compareOp op) r) (ha : PE X a ta) (hb : PE X b tb) (hm : behindInMarks op b = false) : PE X (.Compare a [op] [b] pos) (tOp r ta tb) := by
  intro pins s σ H Q I h
  exact wpAny_Compare1 (binT ha hb I h fun v u s2 x y H2 I2 rx ry q => ho pins s2 σ H2 x y v u Q I2 rx ry q) hm
/-- a reading of a value as a test -/
def tTest (t : TE) : TT := fun σ H Q => t σ H fun x H' => ∃ k, x = .bl k ∧ Q k H'
theorem pt_cmpR {op : CmpOp} {r : R2} (ho : OpR X (compareOp op) r) (ha : PE X a ta) (hb : PE X b tb) (hm : behindInMarks op b = false) : PT X (.Compare a [op] [b] pos) (tTest (tOp r ta tb)) := by
  intro pins s σ H Q I h
  refine wpAny_isTrue_Compare1 (thn (ha pins s σ H _ I h) fun v s1 ⟨x, H1, I1, r1, q1⟩ => thn (hb pins s1 σ H1 _ I1 q1) fun u s2 ⟨y, H2, I2, r2, q2⟩ =>
    thn (ho pins s2 σ H2 x y v u _ I2 r1 r2 q2) fun c s3 ⟨z, H3, I3, r3, k, e, q3⟩ => ?_) hm
  subst e
  cases r3
  exact wpAny_truthy_bool ⟨H3, I3, q3⟩
/-- a op1 b op2 c -/
def tChain (r r' : R2) (ta tb tc : TE) : TE := fun σ H Q => ta σ H fun x H1 => tb σ H1 fun y H2 => r x y H2 fun z H3 => ∃ k, z = .bl k ∧
  (if k = true then tc σ H3 fun w' H4 => r' y w' H4 Q else Q (.bl false) H3)

/-! ### truth -/
/-- a value's truth by the abstract heap -/
def TruV (K : PySem.W.Frag) (x : V) (H : Hp) (k : Bool) : Prop :=
  match x with
  | .non => k = false
  | .bl b => k = b
  | .int i => k = (i != 0)
  | .str y => y.length ≤ sizeLine ∧ k = ((y.length : Int) != 0)
  | .byt y => y.size ≤ sizeLine ∧ k = ((y.size : Int) != 0)
  | .ref p => (∃ xs, SqL K H p xs ∧ k = !xs.isEmpty) ∨ (∃ xs, SqT K H p xs ∧ k = !xs.isEmpty) ∨ ∃ kvs, H p = some (.dK kvs) ∧ k = !kvs.isEmpty
  | _ => False
theorem isEmpty_kv {κ : Type} {kvs : List (κ × V)} {vs : List (κ × Value)} (r : KV kvs vs) : (!vs.isEmpty) = !kvs.isEmpty := by
  cases r <;> rfl
theorem isEmpty_of {xs : List V} {its : List Value} (r : Vals xs its) : (!its.toArray.isEmpty) = !xs.isEmpty := by
  cases r <;> simp
theorem line63 : (sizeLine : Nat) < 2 ^ 63 := by rw [sizeLine_eq]; decide
theorem tru_ok : TruR X (fun x H Q => ∃ k, TruV X.K x H k ∧ Q k H) := by
  intro pins s σ H x v Q I rx h
  obtain ⟨k, e, q⟩ := h
  have hl := line63
  have hs : sizeLine = 16777216 := sizeLine_eq
  cases x with
  | non =>
    cases rx
    have e' : k = false := e
    subst e'
    exact truthy_none ⟨H, I, q⟩
  | bl b =>
    cases rx
    have e' : k = b := e
    subst e'
    exact wpAny_truthy_bool ⟨H, I, q⟩
  | int i =>
    obtain ⟨t, rfl⟩ := rx
    have e' : k = (i != 0) := e
    subst e'
    exact PySem.P.truthy_int ⟨H, I, q⟩
  | str y =>
    obtain ⟨t, rfl⟩ := rx
    obtain ⟨hy, e'⟩ : y.length ≤ sizeLine ∧ k = ((y.length : Int) != 0) := e
    subst e'
    exact PySem.P.truthy_str (by omega) ⟨H, I.tok _, q⟩
  | byt y =>
    obtain ⟨t, rfl⟩ := rx
    obtain ⟨hy, e'⟩ : y.size ≤ sizeLine ∧ k = ((y.size : Int) != 0) := e
    subst e'
    exact PySem.W.truthy_bytes (by omega) ⟨H, I.tok _, q⟩
  | ref p =>
    cases rx
    have e' : (∃ xs, SqL X.K H p xs ∧ k = !xs.isEmpty) ∨ (∃ xs, SqT X.K H p xs ∧ k = !xs.isEmpty) ∨ ∃ kvs, H p = some (.dK kvs) ∧ k = !kvs.isEmpty := e
    rcases e' with ⟨xs, hx, e'⟩ | ⟨xs, hx, e'⟩ | ⟨kvs, hx, e'⟩
    · subst e'
      obtain ⟨its, r, pl, hz⟩ := I.list hx
      have hlen := r.length
      exact wpAny_truthy_list pl.isList (by simp only [List.size_toArray]; omega) ⟨H, I.tok _, by rw [isEmpty_of r]; exact q⟩
    · subst e'
      obtain ⟨its, r, pl, hz⟩ := I.tuple hx
      have hlen := r.length
      exact truthy_tuple pl (by simp only [List.size_toArray]; omega) ⟨H, I.tok _, by rw [isEmpty_of r]; exact q⟩
    · subst e'
      obtain ⟨hz, hS, vs, r, m⟩ : kvs.length ≤ sizeLine ∧ (p == sysModules) = false ∧ ∃ vs, KV kvs vs ∧ s.heap.DictOf (mixKind X.prog X.w) p vs := I.hok p _ hx
      have hlen : kvs.length = vs.length := Paired.length r
      exact wpAny_truthy_dict hS m (by omega) ⟨H, I.tok _, by rw [isEmpty_kv r]; exact q⟩
  | _ => exact (show False from e).elim
/-- any expression whose test is its value's truth (a name, a call, a subscript, a field ..: he by fun _ => rfl) -/
theorem pt_truth (ha : PE X a ta) (he : ∀ whole, isTrue a X.env whole = (do let v ← whole; standAt a.pos; holding [v] (truthy v))) :
    PT X a (fun σ H Q => ta σ H fun x H' => ∃ k, TruV X.K x H' k ∧ Q k H') := by
  intro pins s σ H Q I h
  exact isTrue_plain (thn (ha pins s σ H _ I h) fun v s1 ⟨x, H1, I1, r1, q1⟩ => tru_ok pins s1 σ H1 x v Q I1 r1 q1) (he _)

/-! ### strs and bytes -/

def PlainIxT (b : Expr) : Prop := ∀ o i, subscripted b false o i = operate [o, i] (getItem o i)

/-! ### scalar builtins, by CallR -/
theorem vals1 {x : V} {us : List Value} (r : Vals [x] us) : ∃ u, us = [u] ∧ RelV x u := by
  cases r with
  | cons r1 r2 => cases r2; exact ⟨_, rfl, r1⟩
theorem call_int1 : CallR X (.type "int") (fun xs H Q => (∃ i, xs = [.int i] ∧ Q (.int i) H) ∨ ∃ k, xs = [.bl k] ∧ Q (.int (if k then 1 else 0)) H) := by
  intro pins s σ H xs us Q I r h
  rcases h with ⟨i, rfl, q⟩ | ⟨k, rfl, q⟩
  · obtain ⟨u, rfl, t, rfl⟩ := vals1 r
    exact call_int_int ⟨.int i, H, I, ⟨_, rfl⟩, q⟩
  · obtain ⟨u, rfl, r1⟩ := vals1 r
    cases r1
    exact call_int_bool ⟨.int (if k then 1 else 0), H, I.tok _, ⟨_, rfl⟩, q⟩
/-- len of a str, a bytes, a list, a tuple -/
def LenV (K : PySem.W.Frag) (x : V) (H : Hp) (n : Nat) : Prop :=
  match x with
  | .str y => y.length ≤ sizeLine ∧ n = y.length
  | .byt y => y.size ≤ sizeLine ∧ n = y.size
  | .ref p => (∃ xs, SqL K H p xs ∧ n = xs.length) ∨ ∃ xs, SqT K H p xs ∧ n = xs.length
  | _ => False
end
end L2

namespace L2
open PySem PySem.Spec PyProof.Rows

/-! ### an instance, its attributes a map -/
structure ObjM (h : Heap) (x dx C : Addr) (mA : Str → Option Value) : Prop where
  obj : h.get? x = some (PySem.W.instObj C dx)
  ns : h.Ns1 dx mA
  ne : dx ≠ x

theorem lookIn_ns {h : Heap} {dx : Addr} {mA : Str → Option Value} (n : h.Ns1 dx mA) : ∃ od, h.get? dx = some od ∧ ∀ name, PySem.W.lookIn name od = some (mA name) := by
  obtain ⟨o, es, ep, ho, hd, hk, _, hm⟩ := n
  refine ⟨o, ho, fun name => ?_⟩
  have e := hm name
  unfold nsFind findBy at e
  rw [← Array.find?_toList] at e
  unfold PySem.W.lookIn
  rw [hd]
  dsimp only
  split
  · rename_i y q
    rw [q] at e
    exact congrArg some e
  · rename_i q
    rw [q] at e
    have a : es.toList.any (·.refKey) = false := by
      rw [List.any_eq_false]
      intro y hy
      obtain ⟨z, t, hkey⟩ := hk y (Array.mem_toList_iff.mp hy)
      simp [DictEntry.refKey, hkey]
    have a' : ¬ es.toList.any (·.refKey) = true := by rw [a]; exact Bool.false_ne_true
    rw [if_neg a']
    exact congrArg some e

theorem ObjM.look {h : Heap} {x dx C : Addr} {mA : Str → Option Value} (I : ObjM h x dx C mA) : ∃ od, PySem.W.InstAt h x (PySem.W.instObj C dx) C (some od) ∧ ∀ name, PySem.W.lookIn name od = some (mA name) :=
  let ⟨od, ho, hl⟩ := lookIn_ns I.ns
  ⟨od, ⟨I.obj, rfl, rfl, ho⟩, hl⟩

section
variable {prog : Program} {w : World} {A : Around} {E : Value → Shared → Prop} {s : Shared} {K : PySem.W.Frag} {x dx C f : Addr} {mA : Str → Option Value} {name : Str} {v : Value}





end

/-! ### the attributes as a list of pairs -/
def putF (f : Str) (v : V) : List (Str × V) → List (Str × V)
  | [] => [(f, v)]
  | (g, x) :: r => if g = f then (g, v) :: r else (g, x) :: putF f v r

theorem RelO.some_of {v : V} {o : Option Value} (r : RelO (some v) o) : ∃ u, o = some u ∧ RelV v u := by
  cases o with
  | none => exact (show False from r).elim
  | some u => exact ⟨u, rfl, r⟩

section
variable {P : Program} {w : World} {H H' : Hp} {h h' : Heap} {a C dx : Addr} {fs fs' : List (Str × V)}
theorem ins_get (hok : HOk P w H h) (e : H a = some (.ins C dx fs)) : ∃ mA, ObjM h a dx C mA ∧ (∀ f, RelO (fs.lookup f) (mA f)) ∧ PySem.Within mA (fs.map (·.1)) ∧ fs.length ≤ 1000 ∧ H dx = some (.own a) := by
  obtain ⟨d, z, ne, ob, mA, n, r, q⟩ := (show ObjOk P w H h a (.ins C dx fs) from hok a _ e)
  exact ⟨mA, ⟨ob, n, ne⟩, r, q, z, d⟩
end

/-! ### what of the text a class must have -/
structure Cls (K : PySem.W.Frag) (C : Addr) : Prop where
  pg : PySem.W.plainGet K C Str.empty = true
  hd : PySem.W.hasDictIn K C = true
  po : PySem.W.plainOver K C = true
  sa : PySem.W.findIn K (.ref C) "__setattr__" = some (some (.builtin "object.__setattr__"))
theorem Cls.get {K : PySem.W.Frag} {C : Addr} (c : Cls K C) (f : Str) : PySem.W.plainGet K C f = true := c.pg
/-- no class of it has the name -/
def NoAttr (K : PySem.W.Frag) (C : Addr) (f : Str) : Prop := PySem.W.findIn K (.ref C) f = some none
/-- a constant of the class -/
structure Con (K : PySem.W.Frag) (C : Addr) (f : Str) (v : V) (u : Value) : Prop where
  at_ : PySem.W.findIn K (.ref C) f = some (some u)
  rel : RelV v u
  get : PySem.W.specialIn K u "__get__" = some none
  cp : PySem.W.copiedNames.contains f = false
/-- a method: a plain def of the class or of one above it -/
structure Meth (K : PySem.W.Frag) (C : Addr) (m : Str) (f : Addr) : Prop where
  at_ : PySem.W.findIn K (.ref C) m = some (some (.ref f))
  fn : PySem.W.isFn K (.ref f) = true
  kp : PySem.W.keepIn K (.ref f) = true

section
variable {X : Cx} {pins : List (Addr × Obj)} {σ : St} {H : Hp} {s : Shared} {a C dx : Addr} {fs : List (Str × V)} {f : Str} {v : V} {A : Around} {E : Value → Shared → Prop}






end

/-! ### readings and rules -/
/-- e.f, an attribute of the instance -/
def tFld (K : PySem.W.Frag) (ta : TE) (f : Str) : TE := fun σ H Q => ta σ H fun x H1 => ∃ a C dx fs v, x = .ref a ∧ H1 a = some (.ins C dx fs) ∧ Cls K C ∧ NoAttr K C f ∧ fs.lookup f = some v ∧ Q v H1
/-- e.f, a constant of the class -/
def tCon (K : PySem.W.Frag) (ta : TE) (f : Str) : TE := fun σ H Q => ta σ H fun x H1 => ∃ a C dx fs v u, x = .ref a ∧ H1 a = some (.ins C dx fs) ∧ Cls K C ∧ Con K C f v u ∧ fs.lookup f = none ∧ Q v H1
/-- e.f = value -/
def sFld (K : PySem.W.Frag) (ta tv : TE) (f : Str) : TS := fun D σ H => tv σ H fun y H1 => ta σ H1 fun x H2 => ∃ a C dx fs, x = .ref a ∧ H2 a = some (.ins C dx fs) ∧ Cls K C ∧ NoAttr K C f ∧ fs.length < 1000 ∧
  D.nx σ (upd H2 a (.ins C dx (putF f y fs)))
/-- an augmented operator on two values -/
def InOp (X : Cx) (op : Operator) (rd : V → V → Hp → VK → Prop) : Prop :=
  ∀ (pins : List (Addr × Obj)) (s : Shared) (σ : St) (H : Hp) (x y : V) (u v : Value) (Q : VK), Inv X pins σ H s → RelV x u → RelV y v → rd x y H Q → wpAny (model X.prog X.w) X.A (inplaceOp op u v) (EP X pins σ Q) X.xe s
/-- e.f op= value -/
def sFldAug (K : PySem.W.Frag) (ta tv : TE) (rd : V → V → Hp → VK → Prop) (f : Str) : TS := fun D σ H => ta σ H fun x H1 => ∃ a C dx fs v, x = .ref a ∧ H1 a = some (.ins C dx fs) ∧ Cls K C ∧ NoAttr K C f ∧ fs.lookup f = some v ∧
  tv σ H1 fun y H2 => rd v y H2 fun z H3 => ∃ dx' fs', H3 a = some (.ins C dx' fs') ∧ fs'.length < 1000 ∧ D.nx σ (upd H3 a (.ins C dx' (putF f z fs')))

section
variable {X : Cx} {o e value : Expr} {f : Str} {pos pos' tpos : Pos} {ta tv : TE}
def rAdd : V → V → Hp → VK → Prop := fun x y H Q => ∃ i j, x = .int i ∧ y = .int j ∧ Q (.int (i + j)) H
def rSub : V → V → Hp → VK → Prop := fun x y H Q => ∃ i j, x = .int i ∧ y = .int j ∧ Q (.int (i - j)) H

end

/-! ### isinstance -/
section
variable {X : Cx} {pins : List (Addr × Obj)} {σ : St} {H : Hp} {s : Shared} {A : Around} {E : Value → Shared → Prop} {Q : Value → Shared → Prop} {c : Value} {b : Bool}
/-- the type of a value, as the fragment's deciders take it; for an instance its class -/
inductive TyOf (K : PySem.W.Frag) (H : Hp) : V → Value → Prop where
  | non : TyOf K H .non (.type "NoneType")
  | bl (x : Bool) : TyOf K H (.bl x) (.type "bool")
  | int (i : Int) : TyOf K H (.int i) (.type "int")
  | str (x : Str) : TyOf K H (.str x) (.type "str")
  | flt (x : UInt64) : TyOf K H (.flt x) (.type "float")
  | lst {a : Addr} {xs : List V} (e : H a = some (.lst xs)) : TyOf K H (.ref a) (.type "list")
  | frz {a : Addr} {o : Obj} {xs : List V} (e : H a = some (.frz o (.lst xs))) : TyOf K H (.ref a) (.type "list")
  | tup {a : Addr} {xs : List V} (e : H a = some (.tup xs)) : TyOf K H (.ref a) (.type "tuple")
  | dK {a : Addr} {kvs : List (Key × V)} (e : H a = some (.dK kvs)) : TyOf K H (.ref a) (.type "dict")
  | dT {a : Addr} {kvs : List (List Key × V)} (e : H a = some (.dT kvs)) : TyOf K H (.ref a) (.type "dict")
  | ins {a C dx : Addr} {fs : List (Str × V)} (e : H a = some (.ins C dx fs)) (cl : Cls K C) (ha : PySem.W.findIn K (.ref C) "__class__" = some (some (.builtin "object.__class__")))
      (hn : PySem.W.specialIn K (.builtin "object.__class__") "__get__" = some (some (.builtin "getset_descriptor.__get__"))) (htk : PySem.W.takesIn K (.builtin "object.__class__") = some true)
      (hm : PySem.W.mroIn K C (.type "object") = some true) : TyOf K H (.ref a) (.ref C)
/-- isinstance(x, c) for one class c, a built-in or an own one: kitOne's answer -/
theorem isinst_ok {x : V} {u t : Value} (I : Inv X pins σ H s) (rx : RelV x u) (ty : TyOf X.K H x t) (e : PySem.W.kitOne X.K t c = some b) (h : ∀ tk, Q (.bool b) { s with toks := tk }) :
    wpAny (model X.prog X.w) A (call (.builtin "isinstance") [u, c]) Q E s := by
  cases ty with
  | non => cases (show u = Value.none from rx); exact PySem.W.kia_one PySem.W.kitx_none I.kIn True.intro e (fun z => nomatch z) h
  | bl y => cases (show u = Value.bool y from rx); exact PySem.W.kia_one PySem.W.kitx_bool I.kIn True.intro e (fun z => nomatch z) h
  | int i => obtain ⟨t, q⟩ := (show ∃ t, u = Value.int i t from rx); cases q; exact PySem.W.kia_one PySem.W.kitx_int I.kIn True.intro e (fun z => nomatch z) h
  | str y => obtain ⟨t, q⟩ := (show ∃ t, u = Value.str y t from rx); cases q; exact PySem.W.kia_one PySem.W.kitx_str I.kIn True.intro e (fun z => nomatch z) h
  | flt y => obtain ⟨t, q⟩ := (show ∃ t, u = Value.float y t from rx); cases q; exact PySem.W.kia_one PySem.W.kitx_float I.kIn True.intro e (fun z => nomatch z) h
  | @lst a xs ea =>
    cases (show u = Value.ref a from rx)
    obtain ⟨_, _, n, _, h1⟩ := (show ObjOk X.prog X.w H s.heap a (.lst xs) from I.hok a _ ea)
    exact PySem.W.kia_one PySem.W.kitx_list I.kIn ⟨_, h1, rfl⟩ e (fun z => nomatch z) h
  | @frz a ob xs ea =>
    cases (show u = Value.ref a from rx)
    obtain ⟨_, _, _, n, _, h1⟩ := (show ObjOk X.prog X.w H s.heap a (.frz ob (.lst xs)) from I.hok a _ ea)
    exact PySem.W.kia_one PySem.W.kitx_list I.kIn ⟨_, h1, rfl⟩ e (fun z => nomatch z) h
  | @tup a xs ea =>
    cases (show u = Value.ref a from rx)
    obtain ⟨_, _, _, p⟩ := (show ObjOk X.prog X.w H s.heap a (.tup xs) from I.hok a _ ea)
    obtain ⟨o, h1, h2, _⟩ := p
    exact PySem.W.kia_one PySem.W.kitx_tuple I.kIn ⟨o, h1, h2⟩ e (fun z => nomatch z) h
  | @dK a kvs ea =>
    cases (show u = Value.ref a from rx)
    obtain ⟨_, _, vs, _, p⟩ := (show ObjOk X.prog X.w H s.heap a (.dK kvs) from I.hok a _ ea)
    obtain ⟨o, es, ep, h1, h2, _⟩ := p
    exact PySem.W.kia_one PySem.W.kitx_dict I.kIn ⟨o, h1, h2.1⟩ e (fun z => nomatch z) h
  | @dT a kvs ea =>
    cases (show u = Value.ref a from rx)
    obtain ⟨_, _, xs, _, o, es, ep, h1, h2, _⟩ := (show ObjOk X.prog X.w H s.heap a (.dT kvs) from I.hok a _ ea)
    exact PySem.W.kia_one PySem.W.kitx_dict I.kIn ⟨o, h1, h2.1⟩ e (fun z => nomatch z) h
  | @ins a C dx fs ea cl ha hn htk hm =>
    cases (show u = Value.ref a from rx)
    obtain ⟨mA, O, _⟩ := ins_get I.hok ea
    obtain ⟨od, J, _⟩ := O.look
    exact PySem.W.kia_one (PySem.W.kitx_own (cl.get _) cl.hd ha hn htk hm) I.kIn J e (fun z => nomatch z) h
end
end L2

namespace L2
open PySem PySem.Spec PyProof.Rows

/-! ### room -/
structure Room (k : Nat) (A : Around) : Prop where
  hd : A.handled = none
  dp : A.depth + 3 * k + 5 < recursionLimit
  un : A.units + 16 * k + 200 < cLine
theorem Room.mono {j k : Nat} {A : Around} (r : Room k A) (h : j ≤ k) : Room j A := ⟨r.hd, by have := r.dp; omega, by have := r.un; omega⟩
theorem Room.deeper {k : Nat} {A : Around} (r : Room (k + 1) A) (env : Env) : Room k (A.deeper env) :=
  ⟨r.hd, by have := r.dp; show A.depth + 1 + 3 * k + 5 < _; omega, by have := r.un; show A.units + 3 + 16 * k + 200 < _; omega⟩
theorem Room.depth {k : Nat} {A : Around} (r : Room k A) : A.depth < recursionLimit := by have := r.dp; omega
theorem Room.units {k : Nat} {A : Around} (r : Room k A) : A.units + 64 < cLine := by have := r.un; omega

/-! ### argument lists and displays -/
def tNil : TA := fun _ H Q => Q [] H
def tCons (ta : TE) (tr : TA) : TA := fun σ H Q => ta σ H fun x H1 => tr σ H1 fun xs H2 => Q (x :: xs) H2
section
variable {X : Cx} {e : Expr} {es : List Expr} {te : TE} {t : TA} {pos : Pos}
theorem pa_nil : PA X [] tNil := fun _ _ _ _ H Q I h => Calls.spliced_nil ⟨[], H, I, .nil, h⟩
theorem pa_cons (ha : PE X e te) (hr : PA X es t) (hs : starEach (e :: es) X.env = (false, eval e X.env) :: starEach es X.env := by rfl) : PA X (e :: es) (tCons te t) := by
  intro pos pins s σ H Q I h
  rw [hs]
  show wpAny _ _ (spliced ((false, eval e X.env) :: backTo pos (starEach es X.env))) _ _ s
  refine Calls.spliced_cons (thn (ha pins s σ H _ I h) fun u s1 ⟨x, H1, I1, r1, q1⟩ => ?_)
  exact thn (hr pos pins s1 σ H1 _ I1 q1) fun us s2 ⟨xs, H2, I2, r2, q2⟩ => ⟨x :: xs, H2, I2, .cons r1 r2, q2⟩

/-- a tuple, a list of written items -/
def tTup (t : TA) : TE := fun σ H Q => t σ H fun xs H1 => xs.length ≤ sizeLine ∧ ∀ p, H1 p = none → Q (.ref p) (upd H1 p (.tup xs))
def tLst (t : TA) : TE := fun σ H Q => t σ H fun xs H1 => xs.length ≤ sizeLine ∧ ∀ p, H1 p = none → Q (.ref p) (upd H1 p (.lst xs))
theorem pe_tup {x1} (h : PA X es t) : PE X (.Tuple es x1 pos) (tTup t) := by
  intro pins s σ H Q I hq
  refine wpAny_Tuple_spliced (thn (h pos pins s σ H _ I hq) fun us s1 ⟨xs, H1, I1, r, z, q⟩ => ⟨by rw [← r.length]; exact z, ?_⟩)
  have hf : H1 s1.heap.objs.size = none := I1.hok.fresh (Nat.le_refl _)
  refine ⟨.ref s1.heap.objs.size, upd H1 s1.heap.objs.size (.tup xs), I1.laid (t' := s1.toks) (fun b u e => Heap.get?_push_of_some _ e) (Nat.le_refl _) ?_, rfl, q _ hf⟩
  exact ⟨z, us, r, ⟨_, Heap.get?_push_size _ rfl, rfl, _, rfl⟩⟩
theorem pe_lst (h : PA X es t) : PE X (.List es pos) (tLst t) := by
  intro pins s σ H Q I hq
  refine wpAny_List_spliced (thn (h pos pins s σ H _ I hq) fun us s1 ⟨xs, H1, I1, r, z, q⟩ => ⟨by rw [← r.length]; exact z, ?_⟩)
  have hf : H1 s1.heap.objs.size = none := I1.hok.fresh (Nat.le_refl _)
  refine ⟨.ref s1.heap.objs.size, upd H1 s1.heap.objs.size (.lst xs), I1.laid (t' := s1.toks) (fun b u e => Heap.get?_push_of_some _ e) (Nat.le_refl _) ?_, rfl, q _ hf⟩
  exact ⟨z, us, 0, r, Heap.get?_push_size _ rfl⟩
end

/-! ### what a def promises -/
/-- a def's promise: the bound arguments in the parameters' order, the heap, the wanted end, the wanted exception -/
abbrev Sp := List V → Hp → VK → XK → Prop
/-- how an exception lies behind a call (file 08 gives it): the callers' frames, abstract heap and state ahead of the call, the wish, the exception, the state -/
abbrev CXT := List Env → Hp → Shared → XK → Value → Shared → Prop

/-- the state at a call -/
structure Env0 (P : Program) (w : World) (K : PySem.W.Frag) (mg : Str → Option Value) (base : Heap) (A : Around) (outer : List Env) (s : Shared) (H : Hp) : Prop where
  frames : A.frames = some outer
  mod : Mod K mg base
  bs : ∀ b o, base.get? b = some o → s.heap.get? b = some o ∧ H b = none
  bsz : base.objs.size ≤ s.heap.objs.size
  funs : s.heap.FunFrames base outer
  frf : ∀ b ∈ frs outer, H b = none
  hok : HOk P w H s.heap
  bare : AllBare s.gens
/-- a call's end -/
def CE (outer : List Env) (P : Program) (w : World) (H : Hp) (s : Shared) (Q : VK) (u : Value) (s' : Shared) : Prop :=
  ∃ v H', s'.os = s.os ∧ AllBare s'.gens ∧ Un (frs outer) [] H H' s.heap s'.heap ∧ HOk P w H' s'.heap ∧ RelV v u ∧ Q v H'
def CR (CX : CXT) (outer : List Env) (P : Program) (w : World) (H : Hp) (s : Shared) (Q : VK) (E : XK) (r : Result) (s' : Shared) : Prop :=
  match r with
  | .ok (.ret u) => CE outer P w H s Q u s'
  | .ok _ => False
  | .error e => CX outer H s E e s'
structure FnOk (P : Program) (w : World) (K : PySem.W.Frag) (mg : Str → Option Value) (base : Heap) (CX : CXT) (k : Nat) (f : Addr) (fd : FuncData) (ps : List Str) (sp : Sp) : Prop where
  len : ∀ vs H Q E, sp vs H Q E → vs.length = ps.length
  run : ∀ (A : Around) (outer : List Env) (s : Shared) (H : Hp) (args : Args) (us : List Value) (vs : List V) (Q : VK) (E : XK), Room k A → Env0 P w K mg base A outer s H → BindsTo s fd args (ps.zip us) → Vals vs us → sp vs H Q E →
    codeAny (model P w) A (.call (.ref f) args) (CR CX outer P w H s Q E) s


section
variable {X : Cx} {pins : List (Addr × Obj)} {σ : St} {H : Hp} {s s' : Shared}
/-- from a body: what a callee wants -/
theorem Inv.env0 (I : Inv X pins σ H s) : Env0 X.prog X.w X.K X.mg X.base X.A X.stack s H :=
  ⟨I.ok.frames, I.ok.mod, I.bs, Nat.le_trans I.ok.bsz I.sz, I.stack, I.stkFree, I.hok, I.bare⟩
/-- behind a call -/
theorem Inv.after {Q : VK} {u : Value} (I : Inv X pins σ H s) (h : CE X.stack X.prog X.w H s Q u s') : EP X pins σ Q u s' := by
  obtain ⟨v, H', os, bare, un, hok, r, q⟩ := h
  obtain ⟨hh, g, d, t, os'⟩ := s'
  obtain rfl : os' = s.os := os
  exact ⟨v, H', I.call (h' := hh) (g' := g) (d' := d) (t' := t) (ch := []) un hok bare (fun b z => absurd z (by simp)), r, q⟩
end

/-! ### calls -/
/-- f(..): the written arguments, then the defaults dvs; E: what is wanted of an exception -/
def tCall (sp : Sp) (dvs : List V) (E : XK) (t : TA) : TE := fun σ H Q => t σ H fun vs H1 => sp (vs ++ dvs) H1 Q E
/-- o.m(..) of an instance of the class at C -/
def tMeth (C : Addr) (m : Str) (sp : Sp) (dvs : List V) (E : XK) (ta : TE) (t : TA) : TE := fun σ H Q => ta σ H fun x H1 => ∃ a dx fs, x = .ref a ∧ H1 a = some (.ins C dx fs) ∧ fs.lookup m = none ∧
  t σ H1 fun vs H2 => sp (x :: (vs ++ dvs)) H2 Q E
/-- C(..): a new instance and its dict, then __init__ -/
def tMake (C : Addr) (sp : Sp) (dvs : List V) (E : XK) (t : TA) : TE := fun σ H Q => t σ H fun vs H1 => ∀ x dx, H1 x = none → H1 dx = none → dx ≠ x →
  sp (.ref x :: (vs ++ dvs)) (upd (upd H1 dx (.own x)) x (.ins C dx [])) (fun v H2 => v = .non ∧ Q (.ref x) H2) E

/-- how the parameters are bound: us the positional arguments, kw the keywords' values by name, ds the defaults that fill up -/
def Binds (K : PySem.W.Frag) (fd : FuncData) (ps : List Str) (ds : List Value) : Prop :=
  ∀ (s : Shared) (us : List Value), K.In s.heap → (us ++ ds).length = ps.length → BindsTo s fd ⟨us, []⟩ (ps.zip (us ++ ds))
/-- every parameter is given -/
theorem Binds.all {K : PySem.W.Frag} {fd : FuncData} {ps : List Str} (h : ∀ us : List Value, us.length = ps.length → bindArgs fd ⟨us, []⟩ = pure (ps.zip us)) : Binds K fd ps [] := fun s us _ hl => by
  rw [List.append_nil] at hl ⊢
  exact .of_eq (h us hl)

/-- an exception of a callee reaches what this body wants of exceptions -/
def Passes (CX : CXT) (X : Cx) (E : XK) : Prop := ∀ (pins : List (Addr × Obj)) (σ : St) (H : Hp) (s : Shared) (e : Value) (s' : Shared), Inv X pins σ H s → CX X.stack H s E e s' → X.xe e s'

section
variable {X : Cx} {CX : CXT} {k : Nat} {f C : Addr} {fd : FuncData} {ps : List Str} {sp : Sp} {dvs : List V} {ds : List Value} {E : XK} {x m : Str} {p pos apos : Pos} {e o : Expr} {es : List Expr} {ta : TE} {t : TA}

/-- the callee runs -/
theorem run_fn {pins : List (Addr × Obj)} {σ : St} {H : Hp} {s : Shared} {Q : VK} {us : List Value} {vs : List V} (F : FnOk X.prog X.w X.K X.mg X.base CX k f fd ps sp) (hr : Room k X.A) (hb : Binds X.K fd ps ds) (hd : Vals dvs ds) (hx : Passes CX X E)
    (I : Inv X pins σ H s) (r : Vals vs us) (h : sp (vs ++ dvs) H Q E) : wpAny (model X.prog X.w) X.A (call (.ref f) us) (EP X pins σ Q) X.xe s := by
  have r2 : Vals (vs ++ dvs) (us ++ ds) := r.append hd
  have hl : (us ++ ds).length = ps.length := by rw [← r2.length]; exact F.len _ _ _ _ h
  refine wpAny_call (codeAny_mono (F.run X.A X.stack s H ⟨us, []⟩ (us ++ ds) (vs ++ dvs) Q E hr I.env0 (hb s us I.kIn hl) r2 h) fun r s' hq => ?_)
  cases r with
  | error e => exact hx pins σ H s e s' I hq
  | ok fl =>
    cases fl with
    | ret u => exact I.after hq
    | next => exact False.elim hq
    | brk => exact False.elim hq
    | cont => exact False.elim hq

theorem pe_call (F : FnOk X.prog X.w X.K X.mg X.base CX k f fd ps sp) (hr : Room k X.A) (hg : Gl X x) (hm : X.mg x = some (.ref f)) (hk : PySem.W.keepIn X.K (.ref f) = true) (hb : Binds X.K fd ps ds) (hd : Vals dvs ds) (hx : Passes CX X E)
    (ha : PA X (e :: es) t) (hdb : (x == ("__debug__" : Str)) = false := by decide) (he : starEach (e :: es) X.env = (false, eval e X.env) :: starEach es X.env := by rfl) (hpl : (backTo pos (starEach es X.env)).any (·.1) = false := by rfl) :
    PE X (.Call (.Name x p) (e :: es) [] pos) (tCall sp dvs E t) := by
  intro pins s σ H Q I h
  refine wpAny_Call_Name_kw (ld_glob I hg hm ?_ hdb)
  refine PySem.W.callWith_K (h₀ := X.base) I.ok.mod.kin hk (thn (ha pos pins s σ H _ I h) fun us s1 ⟨vs, H1, I1, r, q⟩ => ⟨I1.kIn, ?_⟩) he hpl
  exact run_fn F hr hb hd hx I1 r q


/-- what a class must have to be made -/
structure Mk (K : PySem.W.Frag) (C f : Addr) : Prop where
  makes : PySem.W.makesIn K C = true
  init : PySem.W.findIn K (.ref C) "__init__" = some (some (.ref f))
  fn : PySem.W.isFn K (.ref f) = true
  kp : PySem.W.keepIn K (.ref C) = true

end

/-! ### keywords -/
/-- the values of the keywords, from the left -/
def PK (X : Cx) (kws : List Keyword) (t : TA) : Prop :=
  ∀ (pos : Pos) (pins : List (Addr × Obj)) (s : Shared) (σ : St) (H : Hp) (Q : List V → Hp → Prop), Inv X pins σ H s → t σ H Q → wpAny (model X.prog X.w) X.A (evalAll ((backToKw pos (keywordEach kws X.env)).map (·.2))) (AP X pins σ Q) X.xe s
section
variable {X : Cx} {CX : CXT} {k : Nat} {f C : Addr} {fd : FuncData} {ps ks : List Str} {sp : Sp} {E : XK} {x m : Str} {p pos apos kpos : Pos} {e o : Expr} {es : List Expr} {kws : List Keyword} {te ta : TE} {t tk : TA} {nm : Option Str}

/-- how a call with keywords binds: g puts the positional values us and the keywords' values ws (names ks) in the parameters' order, defaults among them -/
structure KBinds (K : PySem.W.Frag) (fd : FuncData) (ps ks : List Str) (g : List Value → List Value → List Value) (gV : List V → List V → List V) : Prop where
  to : ∀ (s : Shared) (us ws : List Value), K.In s.heap → (g us ws).length = ps.length → BindsTo s fd ⟨us, ks.zip ws⟩ (ps.zip (g us ws))
  rel : ∀ {vs : List V} {us : List Value} {zs : List V} {ws : List Value}, Vals vs us → Vals zs ws → Vals (gV vs zs) (g us ws)
def tCallK (sp : Sp) (gV : List V → List V → List V) (E : XK) (t tk : TA) : TE := fun σ H Q => t σ H fun vs H1 => tk σ H1 fun zs H2 => sp (gV vs zs) H2 Q E
variable {g : List Value → List Value → List Value} {gV : List V → List V → List V}
end

/-! ### a def's body keeps its promise -/
/-- names: the parameters first -/
structure FnScope (N P : List Str) (sc : Scope) : Prop where
  kind : sc.kind = .function
  co : sc.isCoroutine = false
  gen : sc.isGenerator = false
  nd : N.Nodup
  pre : N.take P.length = P
  par : ∀ x ∈ P, sc.names.lookup x = some .local ∨ sc.names.lookup x = some .cell
  nofree : ∀ y ∈ sc.names, y.2 ≠ .free

theorem bindL_out {kindOf : Str → Option NameKind} {x : Str} : ∀ {binds : List (Str × Value)} {m : Str → Option Value}, (∀ v, (x, v) ∉ binds) → bindL kindOf binds m x = m x
  | [], _, _ => rfl
  | (n, v) :: r, m, h => by
    unfold bindL
    rw [bindL_out fun w hw => h w (List.mem_cons_of_mem _ hw)]
    split
    · have : x ≠ n := by rintro rfl; exact h v List.mem_cons_self
      simp [this]
    · rfl
theorem bindC_out {kindOf : Str → Option NameKind} {x : Str} : ∀ {binds : List (Str × Value)} {m : Str → Option Value}, (∀ v, (x, v) ∉ binds) → bindC kindOf binds m x = m x
  | [], _, _ => rfl
  | (n, v) :: r, m, h => by
    unfold bindC
    rw [bindC_out fun w hw => h w (List.mem_cons_of_mem _ hw)]
    split
    · rfl
    · have : x ≠ n := by rintro rfl; exact h v List.mem_cons_self
      simp [this]
theorem bindL_get {kindOf : Str → Option NameKind} {x : Str} {v : Value} : ∀ {P : List Str} {vs : List Value} {i : Nat} {m : Str → Option Value}, P.Nodup → P[i]? = some x → vs[i]? = some v → kindOf x = some .local →
    bindL kindOf (P.zip vs) m x = some v
  | [], _, _, _, _, h, _, _ => by simp at h
  | _ :: _, [], _, _, _, _, h, _ => by simp at h
  | p :: P, w :: vs, 0, m, nd, h1, h2, hk => by
    simp at h1 h2; subst h1; subst h2
    show bindL kindOf ((p, w) :: P.zip vs) m p = _
    unfold bindL
    rw [bindL_out fun v hv => (List.nodup_cons.mp nd).1 (List.of_mem_zip hv).1, if_pos hk]
    simp
  | p :: P, w :: vs, i + 1, m, nd, h1, h2, hk => by
    show bindL kindOf ((p, w) :: P.zip vs) m x = _
    unfold bindL
    exact bindL_get (i := i) (List.nodup_cons.mp nd).2 (by simpa using h1) (by simpa using h2) hk
theorem bindC_get {kindOf : Str → Option NameKind} {x : Str} {v : Value} : ∀ {P : List Str} {vs : List Value} {i : Nat} {m : Str → Option Value}, P.Nodup → P[i]? = some x → vs[i]? = some v → kindOf x ≠ some .local →
    bindC kindOf (P.zip vs) m x = some v
  | [], _, _, _, _, h, _, _ => by simp at h
  | _ :: _, [], _, _, _, _, h, _ => by simp at h
  | p :: P, w :: vs, 0, m, nd, h1, h2, hk => by
    simp at h1 h2; subst h1; subst h2
    show bindC kindOf ((p, w) :: P.zip vs) m p = _
    unfold bindC
    rw [bindC_out fun v hv => (List.nodup_cons.mp nd).1 (List.of_mem_zip hv).1, if_neg hk]
    simp
  | p :: P, w :: vs, i + 1, m, nd, h1, h2, hk => by
    show bindC kindOf ((p, w) :: P.zip vs) m x = _
    unfold bindC
    exact bindC_get (i := i) (List.nodup_cons.mp nd).2 (by simpa using h1) (by simpa using h2) hk

/-- the names' values at the entry -/
def start (N : List Str) (vs : List V) : St := vs.map some ++ List.replicate (N.length - vs.length) none

/-- the context of a def's body, at its entry; an exception leaves the frame, then lies as CX says -/
def cxOf (CX : CXT) (P : Program) (w : World) (K : PySem.W.Frag) (mg : Str → Option Value) (base : Heap) (N : List Str) (qual : Str) (scope : Scope) (f : Addr) (cd : Value) (A : Around) (outer : List Env) (s : Shared) (H : Hp) (E : XK) : Cx where
  prog := P
  w := w
  K := K
  mg := mg
  base := base
  A := A.deeper (envOfC qual scope s.heap.objs.size f cd)
  N := N
  s₀ := s
  H₀ := H
  env := envOfC qual scope s.heap.objs.size f cd
  outer := outer
  stack := envOfC qual scope s.heap.objs.size f cd :: outer
  ex := []
  calm := true
  fn := fun _ => true
  pn := []
  xe := fun e s' => wpAny (model P w) (A.deeper (envOfC qual scope s.heap.objs.size f cd)) (leaving (envOfC qual scope s.heap.objs.size f cd) e) (fun _ s'' => CX outer H s E e s'') (fun e' s'' => CX outer H s E e' s'') s'

theorem cell_has {sc : Scope} {n : Nat} {x : Str} (h : sc.names.lookup x = some .cell) : ∃ c, (cellsFrom n sc.names []).lookup x = some c := by
  have q := PySem.W.cellsFrom_some sc.names n [] (.inl h)
  exact Option.isSome_iff_exists.mp q

theorem inv_start {CX : CXT} {P : Program} {w : World} {K : PySem.W.Frag} {mg : Str → Option Value} {base : Heap} {N ps : List Str} {qual : Str} {scope : Scope} {f : Addr} {cd : Value} {A : Around} {outer : List Env} {s s1 : Shared} {H : Hp} {E : XK} {us : List Value} {vs : List V}
    (S : FnScope N ps scope) (hd : A.handled = none) (e0 : Env0 P w K mg base A outer s H) (hl : vs.length = ps.length) (r : Vals vs us)
    (x : InCallC s s.heap.objs.size (bindL (envOfC qual scope s.heap.objs.size f cd).kindOf (ps.zip us) fun _ => none) (cellsFrom (s.heap.objs.size + 1) scope.names []) (bindC (envOfC qual scope s.heap.objs.size f cd).kindOf (ps.zip us) fun _ => none) s1) :
    Inv (cxOf CX P w K mg base N qual scope f cd A outer s H E) [] (start N vs) H s1 := by
  have hpl : ps.length ≤ N.length := by have := congrArg List.length S.pre; rw [List.length_take] at this; omega
  obtain ⟨h1, tk, rfl, hk⟩ := x.done
  have noA : ∀ b : Addr, b ∉ (cxOf CX P w K mg base N qual scope f cd A outer s H E).ex := fun b z => absurd (show b ∈ ([] : List Addr) from z) (by simp)
  refine ⟨⟨e0.mod, S.kind, rfl, rfl, Nat.le_refl _, fun y z c h1 h2 => ?_, fun y hy => ?_, fun y c _ h => ?_, fun _ => hd, Around.frames_deeper e0.frames, .inr ⟨rfl, rfl⟩, fun b z => absurd z (noA b), e0.bs, e0.bsz, fun b _ _ => noA b, fun b z => absurd z (noA b), e0.funs, e0.frf⟩,
    rfl, e0.bare, Un.kept hk, ⟨_, x.toInCall.ns, fun i y v h1 h2 h3 => ?_⟩, fun y c h => ⟨_, x.cell y c h⟩, e0.hok.fresh (Nat.le_refl _), fun y c h => ?_, fun p hp => absurd (show p ∈ ([] : List (Addr × Obj)) from hp) (by simp), e0.hok.kept hk, ?_⟩
  · exact name_of_addr x.apart (PySem.mem_of_lookup h1) (PySem.mem_of_lookup h2)
  · have hy : scope.names.lookup y = some .cell ∨ scope.names.lookup y = some .free := hy
    rcases hy with hy | hy
    · exact cell_has hy
    · exact absurd rfl (S.nofree _ (PySem.mem_of_lookup hy))
  · exact Nat.le_of_lt (x.above y c (PySem.mem_of_lookup h))
  · have hi : i < vs.length := by
      unfold start at h2
      by_cases hi : i < vs.length
      · exact hi
      · rw [List.getElem?_append_right (by simpa using hi)] at h2
        rw [List.getElem?_replicate] at h2
        split at h2 <;> cases h2
    have ha : vs[i]? = some v := by
      unfold start at h2
      rw [List.getElem?_append_left (by simpa using hi), List.getElem?_map] at h2
      cases e : vs[i]? with
      | none => rw [e] at h2; cases h2
      | some a => rw [e] at h2; cases h2; rfl
    obtain ⟨u, hu, rv⟩ := r.get ha
    have hp : ps[i]? = some y := by
      rw [← S.pre, List.getElem?_take_of_lt (by omega)]; exact h1
    have ndP : ps.Nodup := by rw [← S.pre]; exact S.nd.sublist (List.take_sublist _ _)
    refine ⟨u, rv, ?_⟩
    rcases S.par y (List.mem_of_getElem? hp) with k | k
    · exact .inl ⟨k, bindL_get ndP hp hu k⟩
    · obtain ⟨c, e⟩ := cell_has (n := s.heap.objs.size + 1) k
      refine .inr ⟨.inl k, c, e, ?_⟩
      have q := x.cell y c e
      rw [bindC_get ndP hp hu (by show scope.names.lookup y ≠ _; rw [k]; decide)] at q
      exact q
  · exact e0.hok.fresh (Nat.le_of_lt (x.above y c (PySem.mem_of_lookup h)))
  · unfold start
    show _ = N.length
    rw [List.length_append, List.length_map, List.length_replicate]
    omega

/-- THE RULE: a def (or a method) of the text, by its body. The body's reading t is chosen for each entry; it is run at the parameters' values -/
theorem fn_of {CX : CXT} {P : Program} {w : World} {K : PySem.W.Frag} {mg : Str → Option Value} {base : Heap} {k : Nat} {f : Addr} {name qual : Str} {params : Arguments} {body : List Stmt} {scope : Scope} {dV kV doc pm cdv ct oc : Value} {an od : Option Addr}
    {osl : Array (Option Value)} {N ps : List Str} {sp : Sp} (lk : K.lookup f = some ⟨oc, od, .func (PySem.W.fnOf name qual params body scope dV kV doc pm an cdv ct), osl⟩) (hcd : PySem.W.codeIn K cdv qual = true) (S : FnScope N ps scope)
    (len : ∀ vs H Q E, sp vs H Q E → vs.length = ps.length)
    (hbody : ∀ (A : Around) (outer : List Env) (s : Shared) (H : Hp) (vs : List V) (Q : VK) (E : XK), Room k (A.deeper (envOfC qual scope s.heap.objs.size f cdv)) → sp vs H Q E →
      ∃ t, PSs (cxOf CX P w K mg base N qual scope f cdv A outer s H E) body t ∧ t { nx := fun _ H' => Q .non H', rt := Q } (start N vs) H) :
    FnOk P w K mg base CX (k + 1) f (PySem.W.fnOf name qual params body scope dV kV doc pm an cdv ct) ps sp := by
  refine ⟨len, fun A outer s H args us vs Q E hr e0 hb r hsp => ?_⟩
  have hl := len _ _ _ _ hsp
  have KX : K.In s.heap := e0.mod.kin.keeps fun b o e => (e0.bs b o e).1
  have lim : s.heap.NoLimit := e0.mod.nolimit.keeps fun b o e => (e0.bs b o e).1
  have hkind : ∀ y ∈ ps.zip us, scope.names.lookup y.1 = some .local ∨ (scope.names.lookup y.1 = some .cell ∧ ((cellsFrom (s.heap.objs.size + 1) scope.names []).lookup y.1).isSome = true) := fun ⟨n, v⟩ hy => by
    rcases S.par n (List.of_mem_zip hy).1 with q | q
    · exact .inl q
    · exact .inr ⟨q, PySem.W.cellsFrom_some _ _ _ (.inl q)⟩
  refine codeAny_call_function hr.depth (KX _ _ lk) rfl S.co S.gen rfl (PySem.W.codeRec_of KX hcd) (hb _ _ _ _ ?_)
  refine wpAny_newFunctionEnv_cells S.kind hkind fun env he s1 x => ?_
  subst he
  refine ⟨lim.keeps x.toInCall.keep, codeAny_func ?_⟩
  obtain ⟨t, ht, hq⟩ := hbody A outer s H vs Q E (hr.deeper _) hsp
  have I : Inv (cxOf CX P w K mg base N qual scope f cdv A outer s H E) [] (start N vs) H s1 := inv_start S hr.hd e0 hl r x
  refine wpAny_mono (ht [] s1 (start N vs) H _ I hq) (fun fl s' hs => ?_) fun e s' hs => hs
  have fin : ∀ {σ' : St} {H' : Hp} {v : V} {u : Value}, Inv (cxOf CX P w K mg base N qual scope f cdv A outer s H E) [] σ' H' s' → RelV v u → Q v H' → CE outer P w H s Q u s' :=
    fun {σ' H' v u} J rv q => ⟨v, H', J.os, J.bare, J.base, J.hok, rv, q⟩
  cases fl with
  | ret u =>
    obtain ⟨v, σ', H', J, rv, q⟩ := hs
    exact fin J rv q
  | next =>
    obtain ⟨σ', H', J, q⟩ := hs
    exact fin (v := V.non) (u := Value.none) J rfl q
  | brk =>
    obtain ⟨_, _, _, q⟩ := hs
    exact False.elim q
  | cont =>
    obtain ⟨_, _, _, q⟩ := hs
    exact False.elim q
end L2

namespace L2
open PySem PySem.Spec PyProof.Rows
section
variable {X : Cx} {x : Str} {p pos : Pos} {e : Expr} {es : List Expr} {t : TA} {id T : String} {r : List V → Hp → VK → Prop}

def tCB (r : List V → Hp → VK → Prop) (t : TA) : TE := fun σ H Q => t σ H fun vs H1 => r vs H1 Q
/-- f(e, ..), f a built-in function -/
theorem pe_callB (hc : CallR X (.builtin id) r) (hg : Gl X x) (hm : X.mg x = none) (hv : bootBuiltins x = some (.builtin id)) (ha : PA X (e :: es) t) (hn : x ≠ "__name__" := by decide) (hdb : (x == ("__debug__" : Str)) = false := by decide)
    (he : starEach (e :: es) X.env = (false, eval e X.env) :: starEach es X.env := by rfl) (hpl : (backTo pos (starEach es X.env)).any (·.1) = false := by rfl) : PE X (.Call (.Name x p) (e :: es) [] pos) (tCB r t) := by
  intro pins s σ H Q I h
  refine wpAny_Call_Name_kw (ld_blt I hg hm hv ?_ hn hdb)
  exact PyProof.Rows.callWith_builtin1 (thn (ha pos pins s σ H _ I h) fun us s1 ⟨vs, H1, I1, r1, q1⟩ => hc pins s1 σ H1 vs us Q I1 r1 q1) he hpl
/-- T(e, ..), T a built-in type -/
theorem pe_callTy (hc : CallR X (.type T) r) (hg : Gl X x) (hm : X.mg x = none) (hv : bootBuiltins x = some (.type T)) (ha : PA X (e :: es) t) (hn : x ≠ "__name__" := by decide) (hdb : (x == ("__debug__" : Str)) = false := by decide)
    (he : starEach (e :: es) X.env = (false, eval e X.env) :: starEach es X.env := by rfl) (hpl : (backTo pos (starEach es X.env)).any (·.1) = false := by rfl) : PE X (.Call (.Name x p) (e :: es) [] pos) (tCB r t) := by
  intro pins s σ H Q I h
  refine wpAny_Call_Name_kw (ld_blt I hg hm hv ?_ hn hdb)
  exact PyProof.Rows.callWith_type1 (thn (ha pos pins s σ H _ I h) fun us s1 ⟨vs, H1, I1, r1, q1⟩ => hc pins s1 σ H1 vs us Q I1 r1 q1) he hpl
end
end L2

namespace HT
open PySem PyProof.Rows

/-- t < u of tuples of ints -/
def lexLt : List Int → List Int → Bool
  | [], [] => false
  | [], _ :: _ => true
  | _ :: _, [] => false
  | x :: xs, y :: ys => if x = y then lexLt xs ys else decide (x < y)


section
open PySem.SeqAt
open PySem.AutoSeq1 (wpAny_loadPart')
open PySem.MeetsSeq PySem.MeetsSeq2 PySem.MeetsSeq3

end

section
variable {prog : Program} {w : World} {A : Around} {E : Value → Shared → Prop} {s : Shared}


/-- t + u, t not empty -/
theorem cat_tup {t b : Addr} {vs ws : List Value} {Q : Value → Shared → Prop} (ht : IsTup s.heap t vs.toArray) (hb : IsTup s.heap b ws.toArray) (hv : vs ≠ [])
    (h1 : ws = [] → Q (.ref t) s) (h2 : ws ≠ [] → Q (.ref s.heap.objs.size) { s with heap := s.heap.push { cls := .type "tuple", data := .seq (vs ++ ws).toArray } })
    (hsz : vs.length + ws.length ≤ sizeLine) : wpAny (model prog w) A (binaryOp .Add (.ref t) (.ref b)) Q E s := by
  obtain ⟨⟨cls, dd, data, sl⟩, ho, hc, n, hd⟩ := id ht
  obtain ⟨⟨cls2, dd2, data2, sl2⟩, ho2, hc2, n2, hd2⟩ := id hb
  simp only at hc hd hc2 hd2
  subst hc hd hc2 hd2
  have e : vs.toArray ++ ws.toArray = (vs ++ ws).toArray := by simp
  by_cases hw : ws = []
  · exact concat_meets ⟨_, ho, rfl⟩ ⟨_, ho2, rfl⟩ noFill_tuple_add seq_tuple_add PySem.F.slot_tuple_add PySem.F.entry_tuple_add (PySem.F.args_tuple_add_2 _ _)
      (tuple_addW1 t b vs.toArray ws.toArray n n2 dd dd2 sl sl2 (by simpa using hv) (by simp [hw])) ⟨ho, ho2, h1 hw⟩
  · refine concat_meets ⟨_, ho, rfl⟩ ⟨_, ho2, rfl⟩ noFill_tuple_add seq_tuple_add PySem.F.slot_tuple_add PySem.F.entry_tuple_add (PySem.F.args_tuple_add_2 _ _)
      (tuple_addW2 t b vs.toArray ws.toArray n n2 dd dd2 sl sl2 (by simpa using hv) (by simpa using hw) (by rw [List.size_toArray, List.size_toArray]; exact hsz)) ⟨ho, ho2, ?_⟩
    rw [e]
    exact h2 hw

/-! ### t[a:b], not the whole -/
/-- a slice's bound as a place among n (d where it is left out) -/
def sIx (n d : Nat) : Option Int → Nat
  | none => d
  | some v => if v < 0 then (v + (n : Int)).toNat else min v.toNat n
theorem sIx_nat (n d k : Nat) : sIx n d (some (k : Int)) = min k n := by
  show (if (k : Int) < 0 then ((k : Int) + (n : Int)).toNat else min (k : Int).toNat n) = min k n
  rw [if_neg (by omega), Int.toNat_natCast]
theorem sIx_le (n d : Nat) (hd : d ≤ n) (o : Option Int) : sIx n d o ≤ n := by
  cases o with
  | none => exact hd
  | some v =>
    show (if v < 0 then (v + (n : Int)).toNat else min v.toNat n) ≤ n
    by_cases hv : v < 0
    · rw [if_pos hv]; omega
    · rw [if_neg hv]; exact Nat.min_le_right _ _
theorem clip_eq (v : Int) (n d : Nat) : (if v < 0 then max (v + (n : Int)) 0 else min v (n : Int)) = ((sIx n d (some v) : Nat) : Int) := by
  show (if v < 0 then max (v + (n : Int)) 0 else min v (n : Int)) = (((if v < 0 then (v + (n : Int)).toNat else min v.toNat n) : Nat) : Int)
  by_cases hv : v < 0
  · simp only [if_pos hv]; omega
  · simp only [if_neg hv]; omega
theorem adjust_gen (lo hi : Option Int) (n : Nat) : Builtin.Slice.sliceAdjust lo hi 1 (n : Int) = (((sIx n 0 lo : Nat) : Int), ((sIx n n hi : Nat) : Int)) := by
  have h1 : ¬ ((1 : Int) < 0) := by omega
  unfold Builtin.Slice.sliceAdjust
  simp only [h1, if_false]
  refine Prod.ext ?_ ?_
  · cases lo with
    | none => rfl
    | some v => exact clip_eq v n 0
  · cases hi with
    | none => rfl
    | some v => exact clip_eq v n n
theorem places_gen (i j : Nat) : Builtin.Slice.slicePlaces (i : Int) (j : Int) 1 = j - i := by
  unfold Builtin.Slice.slicePlaces
  have h1 : (1 : Int) > 0 := by omega
  simp only [h1, if_true, Int.ediv_one]
  split <;> omega
theorem slicePart_ {v : Value} {o : Option Int} {Q : Option Int → Shared → Prop} (p : IsPart v o) (h : Q o s) : wpAny (model prog w) A (Builtin.Slice.slicePartIndex v) Q E s := by
  cases p with
  | none => exact slicePart_none h
  | int i t => exact slicePart_int h
theorem sliceApplied_gen {sl : Addr} {vl vu : Value} {lo hi : Option Int} {n : Nat} {Q : Int × Int × Nat → Shared → Prop} (hs : s.heap.IsSliceOf sl vl vu .none) (pl : IsPart vl lo) (pu : IsPart vu hi)
    (h : Q (((sIx n 0 lo : Nat) : Int), 1, sIx n n hi - sIx n 0 lo) s) : wpAny (model prog w) A (Builtin.Slice.sliceApplied (.ref sl) (pure (n : Int))) Q E s := by
  obtain ⟨os, hos, hcs, hds⟩ := id hs
  unfold Builtin.Slice.sliceApplied Builtin.Slice.sliceFields
  refine wpAny_bind (wpAny_bind (wpAny_field hos hds (x := vl) rfl (wpAny_bind (wpAny_field hos hds (x := vu) rfl (wpAny_bind (wpAny_field hos hds (x := .none) rfl (wpAny_pure ?_)))))))
  refine wpAny_bind (slicePart_none ?_)
  show wpAny _ _ (if ((1 : Int) == 0) = true then _ else _) _ _ s
  rw [if_neg (by decide)]
  refine wpAny_bind (slicePart_ pl (wpAny_bind (slicePart_ pu (wpAny_bind (wpAny_pure ?_)))))
  show wpAny _ _ (match Builtin.Slice.sliceAdjust lo hi 1 (n : Int) with | (lo, hi) => pure (lo, (1 : Int), Builtin.Slice.slicePlaces lo hi 1)) _ _ s
  rw [adjust_gen lo hi n]
  show wpAny _ _ (pure (((sIx n 0 lo : Nat) : Int), (1 : Int), Builtin.Slice.slicePlaces ((sIx n 0 lo : Nat) : Int) ((sIx n n hi : Nat) : Int) 1)) _ _ s
  rw [places_gen]
  exact wpAny_pure h
theorem pick_gen (xs : Array Value) (i k : Nat) : ((List.range k).filterMap fun (m : Nat) => xs[((i : Int) + (m : Int) * 1).toNat]?).toArray = ((xs.toList.drop i).take k).toArray := by
  have e : (fun (m : Nat) => xs[((i : Int) + (m : Int) * 1).toNat]?) = fun m => xs[i + m]? := by
    funext m
    have : ((i : Int) + (m : Int) * 1).toNat = i + m := by omega
    rw [this]
  rw [e]
  have := pick_run xs i k
  rw [List.filterMap_map] at this
  have e2 : ((fun x => xs[x]?) ∘ fun x => i + x) = fun m => xs[i + m]? := rfl
  rw [e2] at this
  rw [this]

theorem getItem_tuple_cut {t sl : Addr} {items : Array Value} {vl vu : Value} {lo hi : Option Int} {Q : Value → Shared → Prop} (ht : IsTup s.heap t items) (hs : s.heap.IsSliceOf sl vl vu .none) (pl : IsPart vl lo) (pu : IsPart vu hi)
    (hw : ¬ (sIx items.size 0 lo = 0 ∧ sIx items.size items.size hi = items.size))
    (h : Q (.ref s.heap.objs.size) { s with heap := s.heap.push { cls := .type "tuple", data := .seq ((items.toList.drop (sIx items.size 0 lo)).take (sIx items.size items.size hi - sIx items.size 0 lo)).toArray } })
    (hsz : items.size ≤ sizeLine) : wpAny (model prog w) A (getItem (.ref t) (.ref sl)) Q E s := by
  have htake : sizeOk (.seq ((items.toList.drop (sIx items.size 0 lo)).take (sIx items.size items.size hi - sIx items.size 0 lo)).toArray) := by
    show ((items.toList.drop (sIx items.size 0 lo)).take (sIx items.size items.size hi - sIx items.size 0 lo)).toArray.size ≤ sizeLine
    rw [List.size_toArray, List.length_take, List.length_drop, Array.length_toList]
    omega
  have hj : sIx items.size items.size hi ≤ items.size := sIx_le _ _ (Nat.le_refl _) hi
  obtain ⟨os, hos, hcs, hds⟩ := id hs
  have hTs : s.TypeIs (.ref sl) "slice" := ⟨os, hos, hcs⟩
  unfold getItem
  try with_reducible refine wpAny_holding ?_
  first | refine wpAny_bind (wpAny_pure ?_) | skip
  refine wpAny_bind (wpAny_sequenceKey ht.typeIs (by decide) ?_)
  refine wpAny_bind (wpAny_callSpecial?_slot (name := Str.ofString "__getitem__") ht.typeIs PyProof.Rows.slot_tuple_getitem
    (wpAny_call_entry PyProof.Rows.slot_tuple_getitem ht.typeIs entry_tuple_getitem ?_ (args_tuple_getitem _ _)))
  show wpAny _ _ (Builtin.Tuple.tupleItemsOf (.ref t) >>= _) _ _ s
  refine wpAny_bind (tupleItemsOf_ ht ?_)
  refine wpAny_bind (wpAny_typeOf hTs ?_)
  rw [if_pos (by decide)]
  refine wpAny_bind (sliceApplied_gen hs pl pu ?_)
  have hno : ¬ ((((sIx items.size 0 lo : Nat) : Int) == 0 && (1 : Int) == 1 && (sIx items.size items.size hi - sIx items.size 0 lo) == items.size) = true) := by
    intro q
    rw [Bool.and_eq_true, Bool.and_eq_true] at q
    have q1 : ((sIx items.size 0 lo : Nat) : Int) = 0 := eq_of_beq q.1.1
    have q2 : sIx items.size items.size hi - sIx items.size 0 lo = items.size := eq_of_beq q.2
    exact hw ⟨by omega, by omega⟩
  show wpAny _ _ (if (((sIx items.size 0 lo : Nat) : Int) == 0 && (1 : Int) == 1 && (sIx items.size items.size hi - sIx items.size 0 lo) == items.size) = true then _ else _) _ _ s
  rw [if_neg hno, pick_gen]
  first
    | exact wpAny_bind (m := Builtin.Tuple.tupleExact _) (wpAny_newObj_type (wpAny_pure ⟨_, rfl, wpAny_pure h⟩) htake)
    | exact wpAny_bind (m := Builtin.Tuple.tupleExact _) (wpAny_newObj_type (wpAny_bind (wpAny_pure (wpAny_pure ⟨_, rfl, wpAny_pure h⟩))) htake)
    | exact wpAny_bind (wpAny_bind (m := Builtin.Tuple.tupleExact _) (wpAny_newObj_type (wpAny_pure (wpAny_pure ⟨_, rfl, wpAny_pure h⟩)) htake))
    | exact wpAny_bind (wpAny_bind (m := Builtin.Tuple.tupleExact _) (wpAny_newObj_type (wpAny_pure ⟨_, rfl, wpAny_pure h⟩) htake))
end
end HT

namespace L2
open PySem PySem.Spec PyProof.Rows

/-! ### the parts of a slice -/
abbrev TO := St → Hp → (Option Int → Hp → Prop) → Prop
/-- a slice's part (left out, or an int) -/
def PO (X : Cx) (e : Option Expr) (t : TO) : Prop :=
  ∀ (pins : List (Addr × Obj)) (s : Shared) (σ : St) (H : Hp) (Q : Option Int → Hp → Prop), Inv X pins σ H s → t σ H Q →
    wpAny (model X.prog X.w) X.A (evalPart e X.env) (fun u s' => ∃ o H', Inv X pins σ H' s' ∧ IsPart u o ∧ Q o H') X.xe s
def tNoPart : TO := fun _ H Q => Q none H
def tPart (t : TE) : TO := fun σ H Q => t σ H fun x H1 => ∃ i, x = .int i ∧ Q (some i) H1


section
variable {X : Cx} {e : Expr} {te : TE} {lo hi : Option Expr} {tl th : TO} {pos p2 : Pos}

theorem po_none : PO X none tNoPart := by
  intro pins s σ H Q I h
  rw [evalPart_none]
  exact wpAny_pure ⟨none, H, I, .none, h⟩
theorem po_some (h : PE X e te) : PO X (some e) (tPart te) := by
  intro pins s σ H Q I hw
  rw [evalPart_some]
  refine thn (h pins s σ H _ I hw) fun u s1 ⟨x, H1, I1, r1, q1⟩ => ?_
  obtain ⟨i, rfl, q⟩ := q1
  obtain ⟨t, rfl⟩ := r1
  exact ⟨some i, H1, I1, .int i t, q⟩

/-- what a slice of a value is, by values: the slice object stands at sl -/
def SlR (X : Cx) (r : V → Option Int → Option Int → Hp → VK → Prop) : Prop :=
  ∀ (pins : List (Addr × Obj)) (s : Shared) (σ : St) (H : Hp) (x : V) (v vl vu : Value) (lo hi : Option Int) (sl : Addr) (Q : VK), Inv X pins σ H s → RelV x v → s.heap.IsSliceOf sl vl vu .none → IsPart vl lo → IsPart vu hi → r x lo hi H Q →
    ∃ T id, typeLookup (.type T) "__getitem__" = pure (some (.builtin id)) ∧ s.TypeIs v T ∧ wpAny (model X.prog X.w) X.A (getItem v (.ref sl)) (EP X pins σ Q) X.xe s
def tSl (r : V → Option Int → Option Int → Hp → VK → Prop) (te : TE) (tl th : TO) : TE := fun σ H Q => te σ H fun x H1 => tl σ H1 fun l H2 => th σ H2 fun u H3 => r x l u H3 Q
/-- a[lo:hi], any a -/
theorem pe_slice {r : V → Option Int → Option Int → Hp → VK → Prop} (hr : SlR X r) (he : PE X e te) (hl : PO X lo tl) (hu : PO X hi th) : PE X (.Subscript e (.Slice lo hi none p2) pos) (tSl r te tl th) := by
  intro pins s σ H Q I h
  refine Subscript_ (thn (he pins s σ H _ I h) fun v s1 ⟨x, H1, I1, r1, q1⟩ => ?_)
  refine wpAny_Slice (thn (hl pins s1 σ H1 _ I1 q1) fun vl s2 ⟨l, H2, I2, pl, q2⟩ => thn (hu pins s2 σ H2 _ I2 q2) fun vu s3 ⟨u, H3, I3, pu, q3⟩ => ?_)
  rw [evalPart_none]
  refine wpAny_pure ?_
  have I4 : Inv X pins σ H3 { s3 with heap := s3.heap.push { cls := .type "slice", data := .fields #[vl, vu, .none] } } := I3.kept (t' := s3.toks) fun b ob q => Heap.get?_push_of_some _ q
  obtain ⟨T, id, hT, ht, hg⟩ := hr pins { s3 with heap := s3.heap.push { cls := .type "slice", data := .fields #[vl, vu, .none] } } σ H3 x v vl vu l u s3.heap.objs.size Q I4 r1 (Heap.IsSliceOf.new ..) pl pu q3
  show wpAny (model X.prog X.w) X.A (subscriptTail e (.Slice lo hi none p2) v (.ref s3.heap.objs.size)) (EP X pins σ Q) X.xe { s3 with heap := s3.heap.push { cls := .type "slice", data := .fields #[vl, vu, .none] } }
  exact tail_any (ops := [.ref s3.heap.objs.size, v]) ht hT hg (by with_unfolding_all rfl)

/-- the items of xs[lo:hi] -/
def cutV (xs : List V) (lo hi : Option Int) : List V := (xs.drop (HT.sIx xs.length 0 lo)).take (HT.sIx xs.length xs.length hi - HT.sIx xs.length 0 lo)
theorem cutV_length (xs : List V) (lo hi : Option Int) : (cutV xs lo hi).length ≤ xs.length := by
  unfold cutV
  rw [List.length_take, List.length_drop]
  omega
/-- t[lo:hi], not the whole of it (the whole would be t itself) -/
def rSlT (K : PySem.W.Frag) : V → Option Int → Option Int → Hp → VK → Prop := fun x lo hi H Q => ∃ a xs, x = .ref a ∧ SqT K H a xs ∧
  ¬ (HT.sIx xs.length 0 lo = 0 ∧ HT.sIx xs.length xs.length hi = xs.length) ∧ ∀ p, H p = none → Q (.ref p) (upd H p (.tup (cutV xs lo hi)))
theorem sl_tup : SlR X (rSlT X.K) := by
  intro pins s σ H x v vl vu lo hi sl Q I rx hs pl pu h
  obtain ⟨a, xs, rfl, hx, hw, q⟩ := h
  cases rx
  obtain ⟨its, r, ht, hz⟩ := I.tuple hx
  have hlen : its.toArray.size = xs.length := by rw [List.size_toArray]; exact r.length.symm
  refine ⟨"tuple", _, PyProof.Rows.slot_tuple_getitem.lookup, ht.typeIs, ?_⟩
  refine HT.getItem_tuple_cut ht hs pl pu (by rw [hlen]; exact hw) ?_ (by rw [hlen]; exact hz)
  rw [hlen]
  refine ⟨.ref s.heap.objs.size, _, I.laid (t' := s.toks) (o := .tup (cutV xs lo hi)) (fun b ob q => Heap.get?_push_of_some _ q) (Nat.le_refl _) ?_, rfl, q _ (I.hok.fresh (Nat.le_refl _))⟩
  exact ⟨Nat.le_trans (cutV_length xs lo hi) hz, _, (r.drop (HT.sIx xs.length 0 lo)).take (HT.sIx xs.length xs.length hi - HT.sIx xs.length 0 lo), IsTup.new _ _⟩

/-! ### t < u, t + u -/
def rLtT (K : PySem.W.Frag) : R2 := fun x y H Q => ∃ a b ns ms, x = .ref a ∧ y = .ref b ∧ SqT K H a (ns.map V.int) ∧ SqT K H b (ms.map V.int) ∧ Q (.bl (HT.lexLt ns ms)) H
/-- t + u, t not empty: u empty gives t itself -/
def rCatT (K : PySem.W.Frag) : R2 := fun x y H Q => ∃ a b xs ys, x = .ref a ∧ y = .ref b ∧ SqT K H a xs ∧ SqT K H b ys ∧ xs ≠ [] ∧ xs.length + ys.length ≤ sizeLine ∧
  (ys = [] → Q (.ref a) H) ∧ (ys ≠ [] → ∀ p, H p = none → Q (.ref p) (upd H p (.tup (xs ++ ys))))
theorem Vals.nil_iff {xs : List V} {us : List Value} (r : Vals xs us) : us = [] ↔ xs = [] := by
  cases r with
  | nil => simp
  | cons _ _ => simp
theorem op_catT : OpR X (binaryOp .Add) (rCatT X.K) := by
  intro pins s σ H x y v u Q I rx ry h
  obtain ⟨a, b, xs, ys, rfl, rfl, ha, hb, hx, hz, q1, q2⟩ := h
  cases rx
  cases ry
  obtain ⟨its, r1, p1, _⟩ := I.tuple ha
  obtain ⟨its2, r2, p2, _⟩ := I.tuple hb
  refine HT.cat_tup p1 p2 (fun z => hx (r1.nil_iff.mp z)) (fun z => ⟨.ref a, H, I, rfl, q1 (r2.nil_iff.mp z)⟩) (fun z => ?_) (by rw [← r1.length, ← r2.length]; exact hz)
  refine ⟨.ref s.heap.objs.size, _, I.laid (t' := s.toks) (o := .tup (xs ++ ys)) (fun b ob q => Heap.get?_push_of_some _ q) (Nat.le_refl _) ?_, rfl, q2 (fun w => z (r2.nil_iff.mpr w)) _ (I.hok.fresh (Nat.le_refl _))⟩
  exact ⟨by rw [List.length_append]; exact hz, _, r1.append r2, IsTup.new _ _⟩
end
end L2

namespace L2
open PySem PySem.Spec PyProof.Rows

/-! ### places -/
/-- the place that an index of any sign means -/
def ixN (n : Nat) (i : Int) : Option Nat := if 0 ≤ i then (if i < n then some i.toNat else none) else if -(n : Int) ≤ i then some (i + n).toNat else none
def atI {α : Type} (xs : List α) (i : Int) : Option α := (ixN xs.length i).bind fun j => xs[j]?
theorem ixN_seq {n : Nat} {i : Int} {j : Nat} (h : ixN n i = some j) : seqIndex? i n = some j ∧ j < n ∧ -(n : Int) ≤ i ∧ i < n := by
  unfold ixN at h
  by_cases h0 : 0 ≤ i
  · rw [if_pos h0] at h
    by_cases h1 : i < n
    · rw [if_pos h1] at h
      have e : i.toNat = j := Option.some.inj h
      exact ⟨by rw [seqIndex_of h0 h1, e], by omega, by omega, h1⟩
    · rw [if_neg h1] at h; cases h
  · rw [if_neg h0] at h
    by_cases h1 : -(n : Int) ≤ i
    · rw [if_pos h1] at h
      have e : (i + n).toNat = j := Option.some.inj h
      exact ⟨by rw [seqIndex_neg (by omega) h1, e], by omega, h1, by omega⟩
    · rw [if_neg h1] at h; cases h
theorem atI_get {α : Type} {xs : List α} {i : Int} {v : α} (h : atI xs i = some v) : ∃ j, seqIndex? i xs.length = some j ∧ xs[j]? = some v ∧ j < xs.length ∧ -(xs.length : Int) ≤ i ∧ i < xs.length := by
  unfold atI at h
  cases e : ixN xs.length i with
  | none => rw [e] at h; cases h
  | some j =>
    rw [e] at h
    obtain ⟨h1, h2, h3, h4⟩ := ixN_seq e
    exact ⟨j, h1, h, h2, h3, h4⟩
theorem atI_nat {α : Type} {xs : List α} {j : Nat} {v : α} (h : xs[j]? = some v) : atI xs (j : Int) = some v := by
  have hj : j < xs.length := (List.getElem?_eq_some_iff.mp h).1
  have e : ixN xs.length (j : Int) = some j := by
    unfold ixN
    rw [if_pos (by omega), if_pos (by omega)]; simp
  unfold atI; rw [e]; exact h

/-! ### what may be subscripted -/
/-- what stands as an index of a plain subscript -/
def PlainIx (b : Expr) : Prop := ∀ o i, subscripted b false o i = operate [o, i] (getItem o i)
/-- a subscript by values -/
def IxR (X : Cx) (r : R2) : Prop :=
  ∀ (value slice : Expr) (pins : List (Addr × Obj)) (s : Shared) (σ : St) (H : Hp) (x y : V) (v u : Value) (Q : VK), Inv X pins σ H s → RelV x v → RelV y u → r x y H Q →
    subscripted slice false v u = operate [v, u] (getItem v u) → wpAny (model X.prog X.w) X.A (subscriptTail value slice v u) (EP X pins σ Q) X.xe s
/-- a call of a builtin's method by values: the receiver, the arguments -/
def MtR (X : Cx) (id : String) (r : V → List V → Hp → VK → Prop) : Prop :=
  ∀ (pins : List (Addr × Obj)) (s : Shared) (σ : St) (H : Hp) (x : V) (xs : List V) (v : Value) (us : List Value) (Q : VK), Inv X pins σ H s → RelV x v → Vals xs us → r x xs H Q →
    wpAny (model X.prog X.w) X.A (call (.builtin id) (v :: us)) (EP X pins σ Q) X.xe s
section
variable {X : Cx} {a b : Expr} {ta tb : TE} {pos : Pos}
/-- a[b] -/
theorem pe_ix {r : R2} (hr : IxR X r) (ha : PE X a ta) (hb : PE X b tb) (hs : PlainIx b) : PE X (.Subscript a b pos) (tOp r ta tb) := by
  intro pins s σ H Q I h
  exact Subscript_ (binT ha hb I h fun v u s2 x y H2 I2 rx ry q => hr a b pins s2 σ H2 x y v u Q I2 rx ry q (hs _ _))

def rIxL (K : PySem.W.Frag) : R2 := fun x y H Q => ∃ p xs i v, x = .ref p ∧ y = .int i ∧ SqL K H p xs ∧ atI xs i = some v ∧ Q v H
def rIxT (K : PySem.W.Frag) : R2 := fun x y H Q => ∃ p xs i v, x = .ref p ∧ y = .int i ∧ SqT K H p xs ∧ atI xs i = some v ∧ Q v H
def rIxS : R2 := fun x y H Q => ∃ z i c, x = .str z ∧ y = .int i ∧ z.length ≤ sizeLine ∧ atI z.cps.toList i = some c ∧ Q (.str ⟨#[c]⟩) H
theorem ix_list : IxR X (rIxL X.K) := by
  intro value slice pins s σ H x y v u Q I rx ry h hs
  obtain ⟨p, xs, i, z, rfl, rfl, hq, he, q⟩ := h
  cases rx
  obtain ⟨t, rfl⟩ := ry
  obtain ⟨its, r, pl, hz⟩ := I.list hq
  obtain ⟨j, h1, h2, h3, h4, h5⟩ := atI_get he
  obtain ⟨w, ew, rw'⟩ := r.get h2
  have hl := r.length
  have hn := line63
  have fin : EP X pins σ Q w s := ⟨z, H, I, rw', q⟩
  by_cases h0 : 0 ≤ i
  · have hj : i.toNat = j := by
      rw [seqIndex_of h0 h5] at h1
      exact Option.some.inj h1
    exact item_listR pl.isList h0 (by omega) (by rw [hj]; simpa using ew) fin hs
  · have hj : (i + (its.toArray.size : Int)).toNat = j := by
      rw [seqIndex_neg (by omega) h4] at h1
      rw [List.size_toArray, ← hl]
      exact Option.some.inj h1
    exact subscriptTail_builtinR (x := w) pl.isList.typeIs slot_list_getitem.lookup
      (wpAny_getItem_list_neg (Q := fun r s' => r = w ∧ EP X pins σ Q r s') pl.isList (by omega) (by rw [List.size_toArray] <;> omega) (by omega) (by rw [hj]; simpa using ew) ⟨rfl, fin⟩) hs
theorem ix_tup : IxR X (rIxT X.K) := by
  intro value slice pins s σ H x y v u Q I rx ry h hs
  obtain ⟨p, xs, i, z, rfl, rfl, hq, he, q⟩ := h
  cases rx
  obtain ⟨t, rfl⟩ := ry
  obtain ⟨its, r, pl, hz⟩ := I.tuple hq
  obtain ⟨j, h1, h2, h3, h4, h5⟩ := atI_get he
  obtain ⟨w, ew, rw'⟩ := r.get h2
  have hl := r.length
  have hn := line63
  have fin : EP X pins σ Q w s := ⟨z, H, I, rw', q⟩
  exact subscriptTail_builtinR (x := w) pl.typeIs slot_tuple_getitem.lookup
    (getItem_tuple (j := j) (Q := fun r s' => r = w ∧ EP X pins σ Q r s') pl (by omega) (by omega) (by rw [List.size_toArray, ← hl]; exact h1) (by simpa using ew) ⟨rfl, fin⟩) hs
/-- list, tuple or str -/
def rIx (K : PySem.W.Frag) : R2 := fun x y H Q => rIxL K x y H Q ∨ rIxT K x y H Q ∨ rIxS x y H Q

/-! ### xs[i] = v, any sign -/
def rSetL : V → V → V → Hp → (Hp → Prop) → Prop := fun o i v H Q => ∃ p xs k j, o = .ref p ∧ i = .int k ∧ H p = some (.lst xs) ∧ ixN xs.length k = some j ∧ Q (upd H p (.lst (xs.set j v)))

/-! ### slices -/
/-- xs[lo:hi] of a list: a new list -/
def rSlL (K : PySem.W.Frag) : V → Option Int → Option Int → Hp → VK → Prop := fun x lo hi H Q => ∃ a xs, x = .ref a ∧ SqL K H a xs ∧ ∀ p, H p = none → Q (.ref p) (upd H p (.lst (cutV xs lo hi)))

/-! ### in, not in: flat items -/
def flatV : V → Bool
  | .non => true
  | .bl _ => true
  | .int _ => true
  | .str _ => true
  | _ => false
/-- == of flat values -/
def eqV : V → V → Bool
  | .non, .non => true
  | .bl a, .bl b => a == b
  | .bl a, .int b => (if a then 1 else 0) == b
  | .int a, .bl b => a == (if b then 1 else 0)
  | .int a, .int b => a == b
  | .str a, .str b => a == b
  | _, _ => false
theorem eqAt_V {A : Around} {s : Shared} {y x : V} {u v : Value} (ry : RelV y u) (rx : RelV x v) (fy : flatV y = true) (fx : flatV x = true) : SeqAt.EqAt A s u v (eqV y x) := by
  cases y with
  | non =>
    cases ry
    cases x with
    | non => cases rx; exact SeqAt.EqAt.same _
    | bl b => cases rx; exact SeqAt.EqAt.none_bool b
    | int b => obtain ⟨t, rfl⟩ := rx; exact SeqAt.EqAt.none_int b t
    | str b => obtain ⟨t, rfl⟩ := rx; exact SeqAt.EqAt.none_str b t
    | _ => exact absurd (show false = true from fx) Bool.false_ne_true
  | bl a =>
    cases ry
    cases x with
    | non => cases rx; exact SeqAt.EqAt.bool_none a
    | bl b => cases rx; exact SeqAt.EqAt.bool_bool a b
    | int b => obtain ⟨t, rfl⟩ := rx; exact SeqAt.EqAt.bool_int a b t
    | str b => obtain ⟨t, rfl⟩ := rx; exact SeqAt.EqAt.bool_str a b t
    | _ => exact absurd (show false = true from fx) Bool.false_ne_true
  | int a =>
    obtain ⟨t', rfl⟩ := ry
    cases x with
    | non => cases rx; exact SeqAt.EqAt.int_none a t'
    | bl b => cases rx; exact SeqAt.EqAt.int_bool a t' b
    | int b => obtain ⟨t, rfl⟩ := rx; exact SeqAt.EqAt.int_int a t' b t
    | str b => obtain ⟨t, rfl⟩ := rx; exact SeqAt.EqAt.int_str a t' b t
    | _ => exact absurd (show false = true from fx) Bool.false_ne_true
  | str a =>
    obtain ⟨t', rfl⟩ := ry
    cases x with
    | non => cases rx; exact SeqAt.EqAt.str_none a t'
    | bl b => cases rx; exact SeqAt.EqAt.str_bool a t' b
    | int b => obtain ⟨t, rfl⟩ := rx; exact SeqAt.EqAt.str_int a t' b t
    | str b => obtain ⟨t, rfl⟩ := rx; exact SeqAt.EqAt.str_str a t' b t
    | _ => exact absurd (show false = true from fx) Bool.false_ne_true
  | _ => exact absurd (show false = true from fy) Bool.false_ne_true
/-- the items' answers, read off the values (a value's own answer does not lean on its token) -/
def eqU (x : V) (u : Value) : Bool := match u with
  | .none => eqV .non x
  | .bool b => eqV (.bl b) x
  | .int i _ => eqV (.int i) x
  | .str z _ => eqV (.str z) x
  | _ => false
theorem eqU_of {x y : V} {u : Value} (r : RelV y u) (f : flatV y = true) : eqU x u = eqV y x := by
  cases y with
  | non => cases r; rfl
  | bl b => cases r; rfl
  | int i => obtain ⟨t, rfl⟩ := r; rfl
  | str z => obtain ⟨t, rfl⟩ := r; rfl
  | _ => exact absurd (show false = true from f) Bool.false_ne_true
theorem any_eqU {x : V} : ∀ {xs : List V} {us : List Value}, Vals xs us → xs.all flatV = true → us.any (eqU x) = xs.any fun y => eqV y x
  | _, _, .nil, _ => rfl
  | y :: xs, u :: us, .cons r t, f => by
    rw [List.all_cons, Bool.and_eq_true] at f
    rw [List.any_cons, List.any_cons, eqU_of r f.1, any_eqU t f.2]
theorem mem_eqAt {A : Around} {s : Shared} {x : V} {v : Value} (rx : RelV x v) (fx : flatV x = true) : ∀ {xs : List V} {us : List Value}, Vals xs us → xs.all flatV = true → ∀ u ∈ us, SeqAt.EqAt A s u v (eqU x u)
  | _, _, .nil, _ => fun u hu => by cases hu
  | y :: xs, u :: us, .cons r t, f => fun u' hu => by
    rw [List.all_cons, Bool.and_eq_true] at f
    rcases List.mem_cons.mp hu with rfl | hu
    · rw [eqU_of r f.1]; exact eqAt_V r rx f.1 fx
    · exact mem_eqAt rx fx t f.2 u' hu
def inV (x : V) (xs : List V) : Bool := xs.any fun y => eqV y x
/-- x in a list or tuple of flat items -/
def rIn (K : PySem.W.Frag) (neg : Bool) : R2 := fun x y H Q => ∃ p xs, y = .ref p ∧ (SqL K H p xs ∨ SqT K H p xs) ∧ flatV x = true ∧ xs.all flatV = true ∧ Q (.bl (if neg then !inV x xs else inV x xs)) H
theorem op_in_seq : OpR X (compareOp .In) (rIn X.K false) := by
  intro pins s σ H x y v u Q I rx ry h
  obtain ⟨p, xs, rfl, hq, fx, fs, q⟩ := h
  cases ry
  rcases hq with hq | hq
  · obtain ⟨its, r, pl, hz⟩ := I.list hq
    refine SeqAt.in_listAt (eqU x) pl.isList (fun w hw => mem_eqAt rx fx r fs w (by simpa using hw)) ⟨.bl _, H, I, rfl, ?_⟩
    rw [show its.toArray.any (eqU x) = its.any (eqU x) by simp, any_eqU r fs]
    exact q
  · obtain ⟨its, r, pl, hz⟩ := I.tuple hq
    refine SeqAt.in_tupleAt (eqU x) pl (fun w hw => mem_eqAt rx fx r fs w (by simpa using hw)) ⟨.bl _, H, I, rfl, ?_⟩
    rw [show its.toArray.any (eqU x) = its.any (eqU x) by simp, any_eqU r fs]
    exact q
theorem op_notIn_seq : OpR X (compareOp .NotIn) (rIn X.K true) := by
  intro pins s σ H x y v u Q I rx ry h
  obtain ⟨p, xs, rfl, hq, fx, fs, q⟩ := h
  cases ry
  rcases hq with hq | hq
  · obtain ⟨its, r, pl, hz⟩ := I.list hq
    refine SeqAt.notIn_listAt (eqU x) pl.isList (fun w hw => mem_eqAt rx fx r fs w (by simpa using hw)) ⟨.bl _, H, I, rfl, ?_⟩
    rw [show its.toArray.any (eqU x) = its.any (eqU x) by simp, any_eqU r fs]
    exact q
  · obtain ⟨its, r, pl, hz⟩ := I.tuple hq
    refine SeqAt.notIn_tupleAt (eqU x) pl (fun w hw => mem_eqAt rx fx r fs w (by simpa using hw)) ⟨.bl _, H, I, rfl, ?_⟩
    rw [show its.toArray.any (eqU x) = its.any (eqU x) by simp, any_eqU r fs]
    exact q

/-! ### len, list(x), tuple(x) of any list or tuple that is read -/
theorem call_len_seq : CallR X (.builtin "len") (fun xs H Q => ∃ p ys, xs = [.ref p] ∧ (SqL X.K H p ys ∨ SqT X.K H p ys) ∧ Q (.int ys.length) H) := by
  intro pins s σ H xs us Q I r h
  obtain ⟨p, ys, rfl, hq, q⟩ := h
  obtain ⟨u, rfl, rx⟩ := vals1 r
  cases rx
  have hn := line63
  rcases hq with hq | hq
  · obtain ⟨its, r', pl, hz⟩ := I.list hq
    have hlen := r'.length
    exact Calls.call_len_list pl.isList (by simp only [List.size_toArray] <;> omega) ⟨.int ys.length, H, I.tok _, ⟨s.toks + 1, by rw [List.size_toArray, hlen]⟩, q⟩
  · obtain ⟨its, r', pl, hz⟩ := I.tuple hq
    have hlen := r'.length
    exact len_tuple pl (by simp only [List.size_toArray] <;> omega) ⟨.int ys.length, H, I.tok _, ⟨s.toks + 1, by rw [List.size_toArray, hlen]⟩, q⟩
theorem call_tuple_of : CallR X (.type "tuple") (fun xs H Q => ∃ p ys, xs = [.ref p] ∧ ((SqL X.K H p ys ∧ ∀ l, H l = none → Q (.ref l) (upd H l (.tup ys))) ∨ (SqT X.K H p ys ∧ Q (.ref p) H))) := by
  intro pins s σ H xs us Q I r h
  obtain ⟨p, ys, rfl, h⟩ := h
  obtain ⟨u, rfl, rx⟩ := vals1 r
  cases rx
  rcases h with ⟨hq, q⟩ | ⟨hq, q⟩
  · obtain ⟨its, r', pl, hz⟩ := I.list hq
    have hlen := r'.length
    refine call_tuple_list pl.isList (fun h' kp => ?_) (by simp only [List.size_toArray] <;> omega)
    have I1 : Inv X pins σ H { s with heap := h' } := I.kept (t' := s.toks) kp
    have I2 : Inv X pins σ (upd H h'.objs.size (.tup ys)) { s with heap := h'.push { cls := .type "tuple", data := .seq its.toArray } } :=
      I1.laid (t' := s.toks) (fun b o e => Heap.get?_push_of_some _ e) (Nat.le_refl _) (show ObjOk X.prog X.w _ _ _ (.tup ys) from ⟨hz, its, r', IsTup.new _ _⟩)
    exact ⟨.ref h'.objs.size, _, I2, rfl, q _ (I1.hok.fresh (Nat.le_refl _))⟩
  · obtain ⟨its, r', pl, hz⟩ := I.tuple hq
    exact call_tuple_same pl ⟨.ref p, H, I, rfl, q⟩

/-! ### the call of a builtin's method: o.m(..) -/
/-- the value is of that builtin type -/
def tyV (K : PySem.W.Frag) (T : String) (x : V) (H : Hp) : Prop := match x with
  | .str _ => T = "str"
  | .int _ => T = "int"
  | .ref p => (T = "list" ∧ ∃ xs, SqL K H p xs) ∨ (T = "tuple" ∧ ∃ o, K.lookup p = some o ∧ o.cls = .type "tuple" ∧ o.dict = none) ∨
      (T = "dict" ∧ ((∃ kvs, H p = some (.dK kvs)) ∨ ∃ kvs, H p = some (.dT kvs))) ∨ (T = "set" ∧ ∃ S n, H p = some (.set S n))
  | _ => False
theorem tyV_is {pins : List (Addr × Obj)} {σ : St} {H : Hp} {s : Shared} {T : String} {x : V} {v : Value} (I : Inv X pins σ H s) (r : RelV x v) (ty : tyV X.K T x H) :
    s.TypeIs v T ∧ ∀ a, v = .ref a → ∃ ob, s.heap.get? a = some ob ∧ ob.dict = none := by
  cases x with
  | str z =>
    obtain ⟨t, rfl⟩ := r
    cases (show T = "str" from ty)
    exact ⟨typeIs_str s z t, fun _ e => nomatch e⟩
  | int i =>
    obtain ⟨t, rfl⟩ := r
    cases (show T = "int" from ty)
    exact ⟨typeIs_int s i t, fun _ e => nomatch e⟩
  | ref p =>
    cases r
    rcases ty with ⟨rfl, xs, hq⟩ | ⟨rfl, o, hk, hc, hd⟩ | ⟨rfl, hk⟩ | ⟨rfl, S, n, hk⟩
    · obtain ⟨its, _, pl, _⟩ := I.list hq
      refine ⟨pl.isList.typeIs, fun a e => ?_⟩
      cases e
      obtain ⟨o, n, e, c, hd, _⟩ := pl
      exact ⟨o, e, hd⟩
    · refine ⟨⟨o, I.kIn p o hk, hc⟩, fun a e => ?_⟩
      cases e
      exact ⟨o, I.kIn _ o hk, hd⟩
    · have z : ∃ o, s.heap.get? p = some o ∧ o.ExactDict := by
        rcases hk with ⟨kvs, hk⟩ | ⟨kvs, hk⟩
        · obtain ⟨_, _, _, _, o, _, _, e, ex, _⟩ := I.hok p _ hk
          exact ⟨o, e, ex⟩
        · obtain ⟨_, _, _, _, o, _, _, e, ex, _⟩ := I.hok p _ hk
          exact ⟨o, e, ex⟩
      obtain ⟨o, e, ex⟩ := z
      refine ⟨⟨o, e, ex.1⟩, fun a e2 => ?_⟩
      cases e2
      exact ⟨o, e, ex.2.1⟩
    · obtain ⟨o, _, _, _, e, ex, _⟩ := I.hok p _ hk
      refine ⟨⟨o, e, ex.1⟩, fun a e2 => ?_⟩
      cases e2
      exact ⟨o, e, ex.2.1⟩
  | _ => exact False.elim ty
def tBM0 (K : PySem.W.Frag) (T : String) (r : V → List V → Hp → VK → Prop) (to : TE) : TE := fun σ H Q => to σ H fun x H1 => tyV K T x H1 ∧ r x [] H1 Q
def tBM (K : PySem.W.Frag) (T : String) (r : V → List V → Hp → VK → Prop) (to : TE) (t : TA) : TE := fun σ H Q => to σ H fun x H1 => tyV K T x H1 ∧ t σ H1 fun xs H2 => r x xs H2 Q
variable {o e : Expr} {es : List Expr} {to : TE} {t : TA} {name : Str} {apos cpos : Pos} {T id : String} {r : V → List V → Hp → VK → Prop}
theorem pe_bm0 (pa : PlainAttrs T) (slot : Slot T name id) (hty : typeOf (.builtin id) = pure (.type "method_descriptor")) (hm : MtR X id r) (ho : PE X o to)
    (hbase : attributeBase o name X.env (eval o X.env) = eval o X.env := by rfl) (hline : (apos.endLine == cpos.line) = true := by rfl) : PE X (.Call (.Attribute o name apos) [] [] cpos) (tBM0 X.K T r to) := by
  intro pins s σ H Q I h
  refine wpAny_Call_method0_late hbase hline (thn (ho pins s σ H _ I h) fun v s1 ⟨x, H1, I1, r1, ty, q1⟩ => ?_)
  obtain ⟨h1, h2⟩ := tyV_is I1 r1 ty
  exact ⟨T, id, pa, slot, hty, h1, h2, Calls.callWith_builtin rfl (PySem.evalArgs_none (hm pins s1 σ H1 x [] v [] Q I1 r1 .nil q1))⟩
theorem pe_bm (pa : PlainAttrs T) (slot : Slot T name id) (hty : typeOf (.builtin id) = pure (.type "method_descriptor")) (hm : MtR X id r) (ho : PE X o to) (ha : PA X (e :: es) t)
    (hbase : attributeBase o name X.env (eval o X.env) = eval o X.env := by rfl)
    (hfew : ((backTo cpos (starEach (e :: es) X.env)).all (fun x => !x.1) && (backToKw cpos (keywordEach [] X.env)).all (fun x => x.1.isSome)
      && decide ((e :: es).length + ([] : List Keyword).length + (if ([] : List Keyword).isEmpty then 0 else 1) < 30)) = true := by rfl)
    (hline : (apos.endLine == cpos.line) = true := by rfl) (hs : starEach (e :: es) X.env = (false, eval e X.env) :: starEach es X.env := by rfl) (hplain : (backTo cpos (starEach es X.env)).any (·.1) = false := by rfl) :
    PE X (.Call (.Attribute o name apos) (e :: es) [] cpos) (tBM X.K T r to t) := by
  intro pins s σ H Q I h
  refine wpAny_Call_method_late hbase hfew hline rfl (thn (ho pins s σ H _ I h) fun v s1 ⟨x, H1, I1, r1, ty, q1⟩ => ?_)
  obtain ⟨h1, h2⟩ := tyV_is I1 r1 ty
  refine ⟨T, id, pa, slot, hty, h1, h2, ?_⟩
  have hA := ha cpos pins s1 σ H1 _ I1 q1
  rw [hs] at hA ⊢
  refine Calls.callWith_builtin (by show (false || (backTo cpos (starEach es X.env)).any (·.1)) = false; rw [hplain] <;> rfl) (Calls.evalArgs_plain ?_)
  exact thn hA fun us s2 ⟨vs, H2, I2, r2, q2⟩ => hm pins s2 σ H2 x vs v us Q I2 r1 r2 q2
/- xs.append(e), list.index on a module's tuple .. are MtR facts of 06m -/
end
end L2

namespace L2
open PySem PySem.Spec PyProof.Rows

def MtM (X : Cx) (id : String) (r : V → List V → Hp → VK → Prop) : Prop :=
  ∀ (pins : List (Addr × Obj)) (s : Shared) (σ : St) (H : Hp) (x : V) (xs : List V) (v : Value) (us : List Value) (Q : VK), Inv X pins σ H s → RelV x v → Vals xs us → r x xs H Q →
    wpAny (model X.prog X.w) X.A (call (.builtin id) (v :: us)) (EP X pins σ Q) X.xe s

/-! ### lists of values -/
theorem Vals.one : ∀ {x : V} {us : List Value}, Vals [x] us → ∃ u, us = [u] ∧ RelV x u
  | _, _, .cons r .nil => ⟨_, rfl, r⟩
theorem Vals.two : ∀ {x y : V} {us : List Value}, Vals [x, y] us → ∃ u v, us = [u, v] ∧ RelV x u ∧ RelV y v
  | _, _, _, .cons r (.cons q .nil) => ⟨_, _, rfl, r, q⟩
theorem Vals.zero : ∀ {us : List Value}, Vals [] us → us = []
  | _, .nil => rfl
theorem Vals.dropLast {xs : List V} {us : List Value} (h : Vals xs us) : Vals xs.dropLast us.dropLast := by
  induction h with
  | nil => exact .nil
  | cons r t ih =>
    cases t with
    | nil => exact .nil
    | cons q t' => exact .cons r ih
theorem erase_last {α : Type} (l : List α) : l.eraseIdx (l.length - 1) = l.dropLast := by
  induction l with
  | nil => rfl
  | cons a r ih =>
    cases r with
    | nil => rfl
    | cons b r =>
      have e : (a :: b :: r).length - 1 = ((b :: r).length - 1) + 1 := by
        have h1 : (a :: b :: r).length = r.length + 2 := rfl
        have h2 : (b :: r).length = r.length + 1 := rfl
        omega
      rw [e, List.eraseIdx_cons_succ, ih]
      all_goals rfl

section
variable {X : Cx} {pins : List (Addr × Obj)} {σ : St} {H : Hp} {s : Shared} {l b : Addr} {xs ys zs : List V}

/-! ### the two steps: a tracked list is rewritten, a new list is laid -/
theorem Inv.lset {its its' : List Value} {n : Nat} {f : Array Value → Array Value} {t' : Nat} (I : Inv X pins σ H s) (hH : H l = some (.lst xs))
    (e : s.heap.get? l = some { cls := .type "list", data := .seq its.toArray n }) (hf : f its.toArray = its'.toArray) (hv : Vals ys its') (hz : ys.length ≤ sizeLine) :
    Inv X pins σ (upd H l (.lst ys)) { s with heap := s.heap.update l (Obj.mapSeq f), toks := t' } := by
  have q := PySem.IsL.update e f
  rw [hf] at q
  refine I.write (x := l) (e := l) (by rw [hH]; exact trivial) (.inl rfl) (fun b' u hb hu => (Heap.get?_update_other s.heap (Obj.mapSeq f) (Ne.symm hb)).trans hu) ⟨_, q⟩ ?_
  exact ⟨hz, its', _, hv, q⟩
theorem Inv.lnew {its : List Value} {t' : Nat} (I : Inv X pins σ H s) (hv : Vals ys its) (hz : ys.length ≤ sizeLine) :
    Inv X pins σ (upd H s.heap.objs.size (.lst ys)) { s with heap := s.heap.push { cls := .type "list", data := .seq its.toArray }, toks := t' } :=
  I.laid (fun _ _ q => Heap.get?_push_of_some _ q) (Nat.le_refl _) ⟨hz, its, 0, hv, Heap.get?_push_size _ rfl⟩
theorem Inv.fresh (I : Inv X pins σ H s) : H s.heap.objs.size = none := I.hok.fresh (Nat.le_refl _)
theorem Inv.lstM (I : Inv X pins σ H s) (hH : H l = some (.lst xs)) : xs.length ≤ sizeLine ∧ ∃ (its : List Value) (n : Nat), Vals xs its ∧ xs.length = its.length ∧ s.heap.get? l = some { cls := .type "list", data := .seq its.toArray n } := by
  obtain ⟨z, its, n, r, e⟩ := I.hok l _ hH
  exact ⟨z, its, n, r, r.length, e⟩

end

section
variable {X : Cx}

/-! ### methods -/
def rAppend : V → List V → Hp → VK → Prop := fun x vs H Q => ∃ l xs y, x = .ref l ∧ vs = [y] ∧ H l = some (.lst xs) ∧ xs.length < sizeLine ∧ Q .non (upd H l (.lst (xs ++ [y])))
theorem mt_append : MtM X "list.append" rAppend := by
  intro pins s σ H x vs v us Q I rx rv h
  obtain ⟨l, xs, y, rfl, rfl, hH, hz, q⟩ := h
  cases rx
  obtain ⟨u, rfl, ru⟩ := rv.one
  obtain ⟨z, its, n, r, hl, e⟩ := I.lstM hH
  refine call_meets F.slot_list_append ⟨_, e, rfl⟩ F.entry_list_append (F.args_list_append_2 _ _) (PySem.list_append l its.toArray n u (by rw [List.size_toArray]; omega)) ⟨e, ?_⟩
  refine ⟨.non, _, I.lset (its' := its ++ [u]) hH e (by simp) (r.append (.cons ru .nil)) ?_, rfl, q⟩
  rw [List.length_append, List.length_singleton]
  omega

def rExtend : V → List V → Hp → VK → Prop := fun x vs H Q => ∃ l b xs zs, x = .ref l ∧ vs = [.ref b] ∧ H l = some (.lst xs) ∧ H b = some (.lst zs) ∧ xs.length + zs.length ≤ sizeLine ∧ Q .non (upd H l (.lst (xs ++ zs)))

def rPop : V → List V → Hp → VK → Prop := fun x vs H Q => ∃ l xs y, x = .ref l ∧ vs = [] ∧ H l = some (.lst xs) ∧ xs[xs.length - 1]? = some y ∧ Q y (upd H l (.lst xs.dropLast))
theorem mt_pop : MtM X "list.pop" rPop := by
  intro pins s σ H x vs v us Q I rx rv h
  obtain ⟨l, xs, y, rfl, rfl, hH, hy, q⟩ := h
  cases rx
  have hus := rv.zero
  subst hus
  obtain ⟨z, its, n, r, hl, e⟩ := I.lstM hH
  obtain ⟨u, hu, ru⟩ := r.get hy
  have hy' : its.toArray[its.toArray.size - 1]? = some u := by
    show its.toArray[its.length - 1]? = some u
    rw [← Array.getElem?_toList, ← hl]
    exact hu
  refine call_meets F.slot_list_pop ⟨_, e, rfl⟩ F.entry_list_pop (F.args_list_pop_1 _) (MeetsSeq.list_pop_last l its.toArray n u hy' (by rw [List.size_toArray]; omega)) ⟨e, ?_⟩
  refine ⟨y, _, I.lset (its' := its.dropLast) hH e ?_ r.dropLast ?_, ru, q⟩
  · show its.toArray.eraseIdxIfInBounds (its.toArray.size - 1) = its.dropLast.toArray
    rw [List.size_toArray, List.eraseIdxIfInBounds_toArray, erase_last]
  · rw [List.length_dropLast]
    omega

def rPopAt : V → List V → Hp → VK → Prop := fun x vs H Q => ∃ l xs i k y, x = .ref l ∧ vs = [.int i] ∧ H l = some (.lst xs) ∧ -(2 ^ 63) ≤ i ∧ i < 2 ^ 63 ∧ seqIndex? i xs.length = some k ∧ xs[k]? = some y ∧ Q y (upd H l (.lst (xs.eraseIdx k)))

def rReverse : V → List V → Hp → VK → Prop := fun x vs H Q => ∃ l xs, x = .ref l ∧ vs = [] ∧ H l = some (.lst xs) ∧ Q .non (upd H l (.lst xs.reverse))

def rClear : V → List V → Hp → VK → Prop := fun x vs H Q => ∃ l xs, x = .ref l ∧ vs = [] ∧ H l = some (.lst xs) ∧ Q .non (upd H l (.lst []))

/-! ### list + list, list += list, list * int -/
def rCat : R2 := fun x y H Q => ∃ l b xs zs, x = .ref l ∧ y = .ref b ∧ H l = some (.lst xs) ∧ H b = some (.lst zs) ∧ xs.length + zs.length ≤ sizeLine ∧ ∀ p, H p = none → Q (.ref p) (upd H p (.lst (xs ++ zs)))
theorem op_cat : OpR X (binaryOp .Add) rCat := by
  intro pins s σ H x y v u Q I rx ry h
  obtain ⟨l, b, xs, zs, rfl, rfl, hH, hB, hz, q⟩ := h
  cases rx
  cases ry
  obtain ⟨z, its, n, r, hl, e⟩ := I.lstM hH
  obtain ⟨z2, its2, n2, r2, hl2, e2⟩ := I.lstM hB
  refine PySem.P.add_list e e2 ?_ (by rw [List.size_toArray, List.size_toArray]; omega)
  have ea : its.toArray ++ its2.toArray = (its ++ its2).toArray := by simp
  rw [ea]
  exact ⟨.ref _, _, I.lnew (t' := s.toks) (r.append r2) (by rw [List.length_append]; omega), rfl, q _ I.fresh⟩
/-- a list times an int (a negative one is nothing) -/
def rRep : R2 := fun x y H Q => ∃ l k xs, x = .ref l ∧ y = .int k ∧ H l = some (.lst xs) ∧ -(2 ^ 63) ≤ k ∧ k < 2 ^ 63 ∧ xs.length * k.toNat ≤ sizeLine ∧
  ∀ p, H p = none → Q (.ref p) (upd H p (.lst (List.replicate k.toNat xs).flatten))

/-! ### del xs[i] -/
end

/-! ### xs[a:b] = ys -/
section
variable {prog : Program} {w : World} {A : Around} {E : Value → Shared → Prop} {s : Shared}
set_option maxRecDepth 100000 in
end

section
variable {X : Cx}
end
end L2

namespace Att
open PySem PySem.W PySem.Calls PyProof.Rows

/-! ### the script -/
theorem ints_of_wellAll {P : Params} {h : Heap} : ∀ (ns : List Int) (vs : List Value), WellAll P h vs (ns.map WData.int) → IntsAre vs ns := by
  intro ns
  induction ns with
  | nil =>
    intro vs w
    rw [List.map_nil] at w
    cases w
    exact .nil
  | cons n ns ih =>
    intro vs w
    rw [List.map_cons] at w
    cases w with
    | cons a b =>
      cases a
      exact .cons _ _ (ih _ b)

theorem script_of {l : OpenLaw} {n : Nat} (hn : l.most = some n) {P : Params} {h : Heap} {args : List WData} {vals : List Value}
    (hpre : l.row.toRowW.claim.pre args = true) (hwl : WellAll P h vals args) :
    ∃ a vs ns, vals = [Value.ref a] ∧ args = [WData.list (ns.map WData.int)] ∧ h.get? a = some { cls := .type "list", data := .seq vs.toArray } ∧ IntsAre vs ns ∧ ns.length ≤ n := by
  have hsh : WShape.hasAll [] args [.list .int] = true := (pre_splitW hpre).1
  have hc : l.pre.holds [] { args := args } = true := (pre_splitW hpre).2
  obtain ⟨d, r, rfl, h1, h2⟩ := hasAllW_cons hsh
  obtain rfl := hasAllW_nil h2
  obtain ⟨xs, rfl, h3⟩ := hasW_list h1
  obtain ⟨ns, rfl⟩ := items_int h3
  have hlen : ns.length ≤ n := by
    unfold OpenLaw.pre at hc
    have h4 : (WTm.not (.lt (.lit (.int (n : Int))) (.len (.arg 0)))).holds [] { args := [.list (ns.map .int)] } = true := by
      have h4 := (holds_andW hc).1
      rw [hn] at h4
      exact h4
    have h5 := condW_of h4 (w_not (w_lt w_lit (w_len_list (w_arg rfl))))
    rw [List.length_map] at h5
    refine Nat.le_of_not_lt fun q => ?_
    have q' : (n : Int) < ((ns.length : Nat) : Int) := by omega
    first
      | (rw [decide_eq_true q'] at h5; exact absurd h5 (by decide))
      | (simp at h5; omega)
  cases hwl with
  | cons w1 w2 =>
    cases w2
    cases w1 with
    | list ho hall => exact ⟨_, _, ns, rfl, rfl, ho, ints_of_wellAll ns _ hall, hlen⟩

theorem post_true (l : OpenLaw) (args : List WData) : l.row.toRowW.claim.post args (.bool true) args = true :=
  postW_of (r := l.row.toRowW) (X := (true == true))
    (show WShape.has [] (.bool true) .bool = true by first | rfl | decide | simp [WShape.has, WShape.arms, WShape.armsAll])
    (show (WTm.eq .res (.lit (.bool true))).value [] { args := args, res := some (.bool true), after := args } = some (.bool (true == true)) from w_eq_bool (w_res rfl) w_lit) rfl

/-! ### the attachment: holds_open's last premise (the goal 'hc' behind k_head) from a wpAny of the law's body -/

/-- the same from a codeAny of the CALL (for a layer whose function contracts speak of calls) -/
theorem attach_call {l : OpenLaw} {n : Nat} {q : Program} {loose : List Str} {XP : (Str → Option Value) → Heap → Prop} {YP : World → Heap → Prop} {d : DefRec}
    (hn : l.most = some n) (hdf : d.params.defaults = [])
    (call : ∀ (w : World) (s₀ s₁ : Shared) (mg mb : Str → Option Value) (fa : Addr) (o : Obj) (pm cd doc : Value) (a : Addr) (vs : List Value) (ns : List Int),
      Ground q loose [] XP w s₀ mg mb s₁.heap → YP w s₁.heap →
      s₁.heap.get? fa = some o → o.data = .func (docDef d.name d.params d.body d.scope pm cd doc) → s₁.heap.CodeRec cd d.name → mg d.name = some (.ref fa) →
      s₁.heap.get? a = some { cls := .type "list", data := .seq vs.toArray } → IntsAre vs ns → ns.length ≤ n → s₁.gens = #[] →
      codeAny (model l.prog w) callerA (.call (.ref fa) ⟨[.ref a], []⟩) (fun r s' => r = .ok (.ret (.bool true)) ∧ OldK s₁.heap s'.heap ∧ s'.os = s₁.os ∧ AllBare s'.gens) s₁) :
    WalkO q loose XP YP l.row.toRowW d [] (fun f vs => PySem.call f vs) := by
  intro w s₀ s₁ mg mb G Y fa o pm cd doc dV kV ho hd hcd hD hmg hg args vals as hpre hlay hrd hwl hlo
  obtain rfl : dV = .none := Dflts.none hD hdf
  obtain rfl : kV = .none := Dflts.noKw hD
  obtain ⟨a, vs, ns, rfl, rfl, hobj, hints, hlen⟩ := script_of hn hpre hwl
  refine enter_call (codeAny_mono (call w s₀ s₁ mg mb fa o pm cd doc a vs ns G Y ho (fd_plain hd) hcd hmg hobj hints hlen hg) fun r s' hq => ?_)
  obtain ⟨rfl, h2, h3, h4⟩ := hq
  exact ⟨.inl ⟨.bool true, .bool true, [], rfl, fun _ => rfl, .bool true, post_true l _, fun _ => ⟨List.Pairwise.nil, fun _ hm => (nomatch hm)⟩⟩, h2, h3, h4⟩


/-! ### rules over ANY heap (no ledger) from facts about the written part K: the library's own take a ledger (News) for what they write -/
section
variable {prog : Program} {w : World} {A : Around} {E : Value → Shared → Prop} {s : Shared} {K : Frag}





/-! the whole heap as the ledger: makes every rule that writes through a ledger a rule over any heap -/
def noObjs (h : Heap) : Heap := { h with objs := #[] }
def ledger (h : Heap) (L d : Addr) : List (Addr × Obj) := (List.range h.objs.size).filterMap fun a => if a = L ∨ a = d then none else (h.get? a).map fun o => (a, o)

end
end Att

namespace L2
open PySem PySem.Spec PyProof.Rows

theorem vals_ints : ∀ {vs : List Value} {ns : List Int}, IntsAre vs ns → Vals (ns.map V.int) vs
  | _, _, .nil => .nil
  | _, _, .cons n t h => .cons ⟨t, rfl⟩ (vals_ints h)

/-- nothing is tracked but the script, known to the object (or it is an object of the module) -/
def Only (H : Hp) : Prop := ∀ b, H b = none ∨ ∃ o xs, H b = some (.frz o (.lst xs))

/-- THE HEAD: the law's promise, at the heap behind the top. F, the promise of the law's def, may use that base is part of the heap (so K.In base, base.Ns mainGlobals mg stand in Mod) -/
theorem law_call {P : Program} {w : World} {K : PySem.W.Frag} {mg mb : Str → Option Value} {CX : CXT} {k : Nat} {fa a : Addr} {fd : FuncData} {x : Str} {sp : Sp} {s₁ : Shared} {vs : List Value} {ns : List Int}
    (KX : K.In s₁.heap) (hns : s₁.heap.Ns mainGlobals mg) (hb : s₁.heap.Ns builtinsNs mb) (hbb : ∀ x : Str, x ≠ "__name__" → mb x = bootBuiltins x) (hlim : s₁.heap.NoLimit) (hg : s₁.gens = #[])
    (ha : s₁.heap.get? a = some { cls := .type "list", data := .seq vs.toArray }) (hi : IntsAre vs ns) (hl : ns.length ≤ sizeLine) (hr : Room k callerA)
    (F : ∀ base : Heap, K.In base → base.Ns mainGlobals mg → FnOk P w K mg base CX k fa fd [x] sp) (hbind : ∀ (s : Shared) (u : Value), BindsTo s fd ⟨[u], []⟩ [(x, u)])
    (hsp : ∀ H : Hp, Only H → SqL K H a (ns.map V.int) → sp [.ref a] H (fun v _ => v = .bl true) fun _ _ _ => False)
    (hCX : ∀ H e s', CX [] H s₁ (fun _ _ _ => False) e s' → False) :
    codeAny (model P w) callerA (.call (.ref fa) ⟨[.ref a], []⟩) (fun r s' => r = .ok (.ret (.bool true)) ∧ OldK s₁.heap s'.heap ∧ s'.os = s₁.os ∧ AllBare s'.gens) s₁ := by
  have rv := vals_ints hi
  have lenV := hi.length
  -- from an abstract heap in which nothing but the script may be tracked
  have core : ∀ H : Hp, Only H → SqL K H a (ns.map V.int) → HOk P w H s₁.heap → (∀ b, H b ≠ none → b = a) → (H a ≠ none → K.lookup a = none) →
      codeAny (model P w) callerA (.call (.ref fa) ⟨[.ref a], []⟩) (fun r s' => r = .ok (.ret (.bool true)) ∧ OldK s₁.heap s'.heap ∧ s'.os = s₁.os ∧ AllBare s'.gens) s₁ := by
    intro H hO hS hok hA hK
    have base_of : ∀ {b : Addr} {o : Obj}, s₁.heap.get? b = some o → H b = none → (hidT s₁.heap H).get? b = some o := fun e n => hidT_get e n
    have noA : ∀ {b : Addr} {o : Obj} {es : Array DictEntry} {ep : Nat}, s₁.heap.get? b = some o → o.data = .dict es ep → H b = none := fun {b o es ep} e d => by
      cases q : H b with
      | none => rfl
      | some u =>
        have e' : b = a := hA b (by rw [q]; simp)
        subst e'
        rw [ha] at e; cases e
        have d' : Data.seq vs.toArray _ = Data.dict es ep := d
        cases d'
    have nsK : ∀ {b : Addr} {m : Str → Option Value}, s₁.heap.Ns b m → (hidT s₁.heap H).Ns b m := fun {b m} ⟨o, es, ep, e, d, r⟩ => ⟨o, es, ep, base_of e (noA e d), d, r⟩
    have hKb : K.In (hidT s₁.heap H) := fun b o e => base_of (KX b o e) (by
      cases q : H b with
      | none => rfl
      | some u =>
        have e' : b = a := hA b (by rw [q]; simp)
        subst e'
        rw [hK (by rw [q]; simp)] at e; cases e)
    have hM : Mod K mg (hidT s₁.heap H) := ⟨hKb, nsK hns, ⟨mb, nsK hb, hbb⟩, let ⟨mc, h1, h2⟩ := hlim; ⟨mc, nsK h1, h2⟩⟩
    have e0 : Env0 P w K mg (hidT s₁.heap H) callerA [] s₁ H := ⟨rfl, hM, fun b o e => of_hidT e, Nat.le_of_eq (hidT_size _ _), trivial, fun b hb => absurd (show b ∈ ([] : List Addr) from hb) (by simp), hok, .of_eq hg⟩
    refine codeAny_mono ((F _ hKb (nsK hns)).run callerA [] s₁ H ⟨[.ref a], []⟩ [.ref a] [.ref a] _ _ hr e0 (hbind s₁ (.ref a)) (.cons rfl .nil) (hsp H hO hS)) fun r s' h => ?_
    cases r with
    | error e => exact (hCX H e s' h).elim
    | ok fl =>
      cases fl with
      | next => exact False.elim h
      | brk => exact False.elim h
      | cont => exact False.elim h
      | ret u =>
        obtain ⟨v, H', os, bare, un, hok', r', q⟩ := h
        have q' : v = .bl true := q
        subst q'
        obtain rfl : u = Value.bool true := r'
        refine ⟨rfl, OldK.of_keep fun b o e => ?_, os, bare⟩
        cases q : H b with
        | none => exact un.keep b o e q (by intro z; exact absurd (show b ∈ ([] : List Addr) from z) (by simp)) (by simp)
        | some u =>
          rcases hO b with z | ⟨ob, xs, z⟩
          · rw [q] at z; cases z
          · have z2 := un.frzs b ob _ z
            obtain ⟨e1, _⟩ := hok b _ z
            obtain ⟨e2, _⟩ := hok' b _ z2
            rw [e] at e1; cases e1
            exact e2
  cases hk : K.lookup a with
  | some o =>
    -- the script is one of the module's own objects
    have e := KX a o hk
    rw [ha] at e
    cases e
    refine core (fun _ => none) (fun _ => .inl rfl) (.inr ⟨_, vs.toArray, _, hk, rfl, rfl, rfl, by rw [List.size_toArray, lenV]; exact hl, by simpa using rv⟩) (fun b u z => by have z' : (none : Option HO) = some u := z; cases z') (fun b z => absurd rfl z) fun z => absurd rfl z
  | none =>
    refine core (fun b => if b = a then some (.frz { cls := .type "list", data := .seq vs.toArray } (.lst (ns.map V.int))) else none) (fun b => ?_) (.inl (.inr ⟨{ cls := .type "list", data := .seq vs.toArray }, if_pos rfl⟩)) (fun b u z => ?_) (fun b z => ?_) fun _ => hk
    · by_cases hb : b = a
      · exact .inr ⟨_, _, if_pos hb⟩
      · exact .inl (if_neg hb)
    · by_cases hb : b = a
      · have z' := (if_pos hb).symm.trans z
        cases z'
        subst hb
        exact ⟨ha, by rw [List.length_map]; exact hl, vs, _, rv, ha⟩
      · have z' := (if_neg hb).symm.trans z
        cases z'
    · by_cases hb : b = a
      · exact hb
      · exact absurd (if_neg hb) z
end L2

namespace L2
open PySem PySem.Spec PyProof.Rows

abbrev KOf {K : PySem.W.Frag} {h : Heap} (_ : K.In h) : PySem.W.Frag := K

/-- the goal that k_head leaves (case hc), from the law's promise. F gives the function object fd (K's own) once, then the promise over every base -/
theorem walk_of {l : PySem.W.OpenLaw} {n k : Nat} {q : Program} {loose : List Str} {XP : (Str → Option Value) → Heap → Prop} {YP : World → Heap → Prop} {d : DefRec} {K : Params → PySem.W.Frag} {CX : World → CXT} {sp : World → Sp} {x : Str}
    (hn : l.most = some n) (hn2 : n ≤ sizeLine) (hdf : d.params.defaults = []) (hr : Room k callerA)
    (hY : ∀ (w : World) (h : Heap), YP w h → (K w.params).In h)
    (F : ∀ (w : World) (mg : Str → Option Value) (fa : Addr) (h : Heap), (K w.params).In h → h.Ns mainGlobals mg → mg d.name = some (.ref fa) →
      ∃ fd : FuncData, (∀ (s : Shared) (u : Value), BindsTo s fd ⟨[u], []⟩ [(x, u)]) ∧
        ∀ base : Heap, (K w.params).In base → base.Ns mainGlobals mg → FnOk l.prog w (K w.params) mg base (CX w) k fa fd [x] (sp w))
    (hsp : ∀ (w : World) (H : Hp) (a : Addr) (ns : List Int), ns.length ≤ n → Only H → SqL (K w.params) H a (ns.map V.int) → sp w [.ref a] H (fun v _ => v = .bl true) fun _ _ _ => False)
    (hCX : ∀ (w : World) (H : Hp) (s : Shared) (e : Value) (s' : Shared), CX w [] H s (fun _ _ _ => False) e s' → False) :
    PySem.W.WalkO q loose XP YP l.row.toRowW d [] (fun f vs => PySem.call f vs) := by
  refine Att.attach_call hn hdf fun w s₀ s₁ mg mb fa o pm cd doc a vs ns G Y ho hd hcd hmg hobj hints hlen hg => ?_
  have KX := hY w _ Y
  obtain ⟨fd, hb, hF⟩ := F w mg fa _ KX G.T.g hmg
  exact law_call KX G.T.g G.T.b G.T.builtins G.T.nolimit hg hobj hints (Nat.le_trans hlen hn2) hr hF hb (fun H hO hS => hsp w H a ns hlen hO hS) fun H e s' => hCX w H s₁ e s'
end L2


/-! SHORT WORDS over the layer: a def of the text, its body, what a loop and a test want. -/
namespace L2
open PySem PySem.Spec PyProof.Rows

/-! ### the text by places -/
/-- the j-th statement of a class's body -/
def inClass (s : Stmt) (j : Nat) : Stmt := match s with
  | .ClassDef _ _ _ body _ _ _ _ _ _ _ => body.getD j (.Pass ⟨0, 0, 0, 0⟩)
  | _ => .Pass ⟨0, 0, 0, 0⟩
def defArgs (s : Stmt) : Arguments := match s with
  | .FunctionDef _ a _ _ _ _ _ _ _ _ => a
  | _ => { posonlyargs := [], args := [], vararg := none, kwonlyargs := [], kw_defaults := [], kwarg := none, defaults := [] }
def defBody (s : Stmt) : List Stmt := match s with
  | .FunctionDef _ _ b _ _ _ _ _ _ _ => b
  | _ => []
def defScope (s : Stmt) : Scope := match s with
  | .FunctionDef _ _ _ _ _ _ sc _ _ _ => sc
  | _ => { kind := .function, names := [], isGenerator := false, isCoroutine := false }

/-! ### no exception leaves a def -/
abbrev CX0 : CXT := fun _ _ _ _ _ _ => False
abbrev E0 : XK := fun _ _ _ => False
theorem pass0 {X : Cx} : Passes CX0 X E0 := fun _ _ _ _ _ _ _ h => h.elim

/-! ### a def (or method) of the text as it stands behind the top -/
structure Fun (K : PySem.W.Frag) (x qual : Str) (st : Stmt) (f : Addr) (fd : FuncData) : Prop where
  ex : ∃ (oc : Value) (od : Option Addr) (kV doc pm : Value) (an : Option Addr) (cdv ct : Value) (osl : Array (Option Value)),
    fd = PySem.W.fnOf x qual (defArgs st) (defBody st) (defScope st) .none kV doc pm an cdv ct ∧ K.lookup f = some ⟨oc, od, .func fd, osl⟩ ∧ PySem.W.codeIn K cdv qual = true
  kp : PySem.W.keepIn K (.ref f) = true
section
variable {P : Program} {w : World} {K : PySem.W.Frag} {mg : Str → Option Value} {base : Heap}
/-- THE RULE for a def: its body as a term of rules, and the reading of that term -/
theorem Fun.ok {x qual : Str} {st : Stmt} {f : Addr} {fd : FuncData} {N ps : List Str} {k : Nat} {sp : Sp} (F : Fun K x qual st f fd) (S : FnScope N ps (defScope st)) (len : ∀ vs H Q E, sp vs H Q E → vs.length = ps.length)
    (hbody : ∀ (cdv : Value) (A : Around) (outer : List Env) (s : Shared) (H : Hp) (vs : List V) (Q : VK) (E : XK), Room k (A.deeper (envOfC qual (defScope st) s.heap.objs.size f cdv)) → sp vs H Q E →
      ∃ t, PSs (cxOf CX0 P w K mg base N qual (defScope st) f cdv A outer s H E).nox (defBody st) t ∧ t { nx := fun _ H' => Q .non H', rt := Q } (start N vs) H) : FnOk P w K mg base CX0 (k + 1) f fd ps sp := by
  obtain ⟨oc, od, kV, doc, pm, an, cdv, ct, osl, rfl, lk, hcd⟩ := F.ex
  refine fn_of lk hcd S len fun A outer s H vs Q E hr hsp => ?_
  obtain ⟨t, h, q⟩ := hbody cdv A outer s H vs Q E hr hsp
  exact ⟨t, h.nox, q⟩
/-- how its arguments bind (no defaults): h is «fun _ _ _ _ _ _ us hl => match us, hl with | [_, _], _ => rfl», one _ a parameter -/
theorem Fun.binds {x qual : Str} {st : Stmt} {f : Addr} {fd : FuncData} {ps : List Str} (F : Fun K x qual st f fd)
    (h : ∀ (kV doc pm : Value) (an : Option Addr) (cdv ct : Value) (us : List Value), us.length = ps.length → bindArgs (PySem.W.fnOf x qual (defArgs st) (defBody st) (defScope st) .none kV doc pm an cdv ct) ⟨us, []⟩ = pure (ps.zip us)) : Binds K fd ps [] := by
  obtain ⟨oc, od, kV, doc, pm, an, cdv, ct, osl, rfl, lk, hcd⟩ := F.ex
  exact .all (h kV doc pm an cdv ct)
theorem fun_mk {x qual : Str} {st : Stmt} {f : Addr} {oc : Value} {od an : Option Addr} {osl : Array (Option Value)} {kV doc pm cdv ct : Value} (l : K.lookup f = some ⟨oc, od, .func (PySem.W.fnOf x qual (defArgs st) (defBody st) (defScope st) .none kV doc pm an cdv ct), osl⟩)
    (c : PySem.W.codeIn K cdv qual = true) (k : PySem.W.keepIn K (.ref f) = true) : Fun K x qual st f (PySem.W.fnOf x qual (defArgs st) (defBody st) (defScope st) .none kV doc pm an cdv ct) := ⟨⟨oc, od, kV, doc, pm, an, cdv, ct, osl, rfl, l, c⟩, k⟩
end
theorem hu_of {A : Around} {k : Nat} (hr : Room k A) : A.units + 1 < cLine := Nat.lt_of_le_of_lt (Nat.add_le_add_left (by decide : 1 ≤ 64) _) hr.units
theorem small1000 {n : Nat} (h : n ≤ 1000) : n < sizeLine := Nat.lt_of_le_of_lt h (by decide)

/-! ### expressions in short: the name that stands in the i-th slot -/
section
variable {X : Cx}
theorem pv (i : Nat) {x : Str} {pos : Pos} (hN : X.N[i]? = some x := by rfl) (hv : Vis X.env.scope x := by first | exact Or.inl rfl | exact Or.inr (Or.inl rfl) | exact Or.inr (Or.inr rfl)) (hd : (x == ("__debug__" : Str)) = false := by decide)
    (hcd : (x == ("__classdict__" : Str)) = false := by decide) : PE X (.Name x pos) (tVar i) := pe_var hN hv hd hcd
end

/-! ### tests -/
theorem iteF {A B : Prop} (h : B) : if false = true then A else B := by
  rw [if_neg Bool.false_ne_true]
  exact h
theorem iteT {A B : Prop} (h : A) : if true = true then A else B := by
  rw [if_pos rfl]
  exact h
theorem ite2 {c A B : Prop} [Decidable c] (h1 : c → A) (h2 : ¬ c → B) : if c then A else B := by
  by_cases h : c
  · rw [if_pos h]
    exact h1 h
  · rw [if_neg h]
    exact h2 h

/-! ### heaps -/
/-- all that was tracked is as it was -/
def Same (H H' : Hp) : Prop := ∀ b o, H b = some o → H' b = some o
theorem Same.refl (H : Hp) : Same H H := fun _ _ h => h
theorem Same.trans {H H1 H2 : Hp} (a : Same H H1) (b : Same H1 H2) : Same H H2 := fun c o h => b c o (a c o h)
theorem Same.free {H H' : Hp} (e : Same H H') {l : Addr} (h : H' l = Option.none) : H l = Option.none := by
  cases q : H l with
  | none => rfl
  | some o =>
    rw [e l o q] at h
    cases h
theorem Same.seq {K : PySem.W.Frag} {H H' : Hp} {a : Addr} {xs : List V} (e : Same H H') (h : SqL K H a xs) : SqL K H' a xs := by
  rcases h with (h | ⟨o, h⟩) | h
  · exact .inl (.inl (e _ _ h))
  · exact .inl (.inr ⟨o, e _ _ h⟩)
  · exact .inr h

end L2

end
section
set_option Elab.async false
set_option linter.all false
set_option maxRecDepth 100000
set_option maxHeartbeats 1000000
namespace L2
open PySem PySem.Spec PyProof.Rows
/-! ### lists of pairs as tables -/
section
variable {κ : Type} [DecidableEq κ]
def valV (kvs : List (κ × V)) (k : κ) : Option V := (kvs.find? fun kv => decide (kv.1 = k)).map (·.2)
/-- in its place, or at the end -/
def putK (kvs : List (κ × V)) (k : κ) (v : V) : List (κ × V) :=
  if (kvs.any fun kv => decide (kv.1 = k)) = true then kvs.map (fun kv => if kv.1 = k then (kv.1, v) else kv) else kvs ++ [(k, v)]
def dropK (kvs : List (κ × V)) (k : κ) : List (κ × V) := kvs.filter fun kv => decide (kv.1 ≠ k)

theorem valV_pos {p : κ × V} {r : List (κ × V)} {k : κ} (e : p.1 = k) : valV (p :: r) k = some p.2 := by simp [valV, List.find?_cons, e]
theorem valV_neg {p : κ × V} {r : List (κ × V)} {k : κ} (e : ¬ p.1 = k) : valV (p :: r) k = valV r k := by simp [valV, List.find?_cons, e]
theorem valV_any (k : κ) : ∀ kvs : List (κ × V), (kvs.any fun kv => decide (kv.1 = k)) = (valV kvs k).isSome
  | [] => rfl
  | p :: r => by
    rw [List.any_cons]
    by_cases e : p.1 = k
    · simp only [valV_pos e, decide_eq_true e, Bool.true_or, Option.isSome_some]
    · rw [valV_neg e, decide_eq_false e, Bool.false_or]; exact valV_any k r
theorem length_putK (kvs : List (κ × V)) (k : κ) (v : V) : (putK kvs k v).length ≤ kvs.length + 1 := by
  unfold putK
  split
  · rw [List.length_map]; omega
  · rw [List.length_append, List.length_cons, List.length_nil]; omega
theorem putK_new {kvs : List (κ × V)} {k : κ} (v : V) (h : valV kvs k = none) : putK kvs k v = kvs ++ [(k, v)] := by
  unfold putK
  rw [valV_any, h]
  exact if_neg (by decide)

theorem RelO.isSome_eq {o : Option V} {u : Option Value} (r : RelO o u) : o.isSome = u.isSome := by
  cases o with
  | none => cases u with
    | none => rfl
    | some _ => exact (show False from r).elim
  | some _ => cases u with
    | none => exact (show False from r).elim
    | some _ => rfl
theorem RelO.getD {o : Option V} {u : Option Value} {d : V} {d' : Value} (r : RelO o u) (rd : RelV d d') : RelV (o.getD d) (u.getD d') := by
  cases o with
  | none => cases u with
    | none => exact rd
    | some _ => exact (show False from r).elim
  | some _ => cases u with
    | none => exact (show False from r).elim
    | some _ => exact r

/-- raw tables of the same keys -/
theorem KV.val {kvs : List (κ × V)} {vs : List (κ × Value)} (r : KV kvs vs) (k : κ) : RelO (valV kvs k) (valueAt vs k) := by
  unfold KV at r
  induction r with
  | nil => exact True.intro
  | @cons p q ps qs h t ih =>
    obtain ⟨h1, h2⟩ := h
    by_cases e : p.1 = k
    · have e' : q.1 = k := h1.symm.trans e
      have b : valueAt (q :: qs) k = some q.2 := by simp [valueAt, List.find?_cons, e']
      rw [valV_pos e, b]; exact h2
    · have e' : ¬ q.1 = k := fun z => e (h1.trans z)
      have b : valueAt (q :: qs) k = valueAt qs k := by simp [valueAt, List.find?_cons, e']
      rw [valV_neg e, b]; exact ih
theorem KV.any {kvs : List (κ × V)} {vs : List (κ × Value)} (r : KV kvs vs) (k : κ) : (kvs.any fun kv => decide (kv.1 = k)) = vs.any fun kv => decide (kv.1 = k) := by
  unfold KV at r
  induction r with
  | nil => rfl
  | cons h t ih => rw [List.any_cons, List.any_cons, ih, h.1]
theorem KV.repl {kvs : List (κ × V)} {vs : List (κ × Value)} (r : KV kvs vs) (k : κ) {y : V} {u : Value} (ry : RelV y u) :
    KV (kvs.map fun kv => if kv.1 = k then (kv.1, y) else kv) (vs.map fun kv => if kv.1 = k then (kv.1, u) else kv) := by
  unfold KV at r ⊢
  induction r with
  | nil => exact .nil
  | @cons p q ps qs h t ih =>
    rw [List.map_cons, List.map_cons]
    refine .cons ?_ ih
    obtain ⟨h1, h2⟩ := h
    by_cases e : p.1 = k
    · rw [if_pos e, if_pos (h1.symm.trans e)]; exact ⟨h1, ry⟩
    · rw [if_neg e, if_neg (fun z => e (h1.trans z))]; exact ⟨h1, h2⟩
theorem KV.put {kvs : List (κ × V)} {vs : List (κ × Value)} (r : KV kvs vs) (k : κ) {y : V} {u : Value} (ry : RelV y u) : KV (putK kvs k y) (stored vs k u) := by
  unfold putK stored
  rw [r.any k]
  by_cases e : (vs.any fun kv => decide (kv.1 = k)) = true
  · rw [if_pos e, if_pos e]; exact r.repl k ry
  · rw [if_neg e, if_neg e]; exact Paired.snoc r ⟨rfl, ry⟩
theorem KV.length {kvs : List (κ × V)} {vs : List (κ × Value)} (r : KV kvs vs) : kvs.length = vs.length := Paired.length r
end


/-! ### a tracked dict, its keys ints and texts or tuples of these -/
theorem kV_is {P : Program} {w : World} {k : Key} {u : Value} (r : RelV (kV k) u) : (mixKind P w).is k u = true := by
  cases k with
  | inl i => cases (show u = Value.bool i from r); exact mixKind_int P w i
  | inr x => obtain ⟨t, e⟩ := (show ∃ t, u = Value.str x t from r); subst e; exact mixKind_str P w x t
theorem items_are {P : Program} {w : World} : ∀ {ks : List Key} {us : List Value}, Vals (ks.map kV) us → ItemsAre (mixKind P w) ks us
  | [], _, r => by rw [List.map_nil] at r; cases r; exact .nil
  | k :: ks, _, r => by
    rw [List.map_cons] at r
    cases r with
    | cons h t => exact .cons (kV_is h) (items_are t)

/-- raw entries of a dict with tuple keys -/
abbrev KT (H : Hp) : List (List Key × V) → List (List Key × Addr × Value) → Prop := Paired fun p q => p.1 = q.1 ∧ H q.2.1 = some (.tup (p.1.map kV)) ∧ RelV p.2 q.2.2
theorem KT.val {H : Hp} {kvs : List (List Key × V)} {xs : List (List Key × Addr × Value)} (r : KT H kvs xs) (k : List Key) : RelO (valV kvs k) ((atKey xs k).map (·.2)) := by
  induction r with
  | nil => exact True.intro
  | @cons p q ps qs h t ih =>
    obtain ⟨h1, _, h2⟩ := h
    by_cases e : p.1 = k
    · have e' : q.1 = k := h1.symm.trans e
      have b : atKey (q :: qs) k = some q.2 := by simp [atKey, List.find?_cons, e']
      rw [valV_pos e, b]; exact h2
    · have e' : ¬ q.1 = k := fun z => e (h1.trans z)
      have b : atKey (q :: qs) k = atKey qs k := by simp [atKey, List.find?_cons, e']
      rw [valV_neg e, b]; exact ih
theorem KT.repl {H : Hp} {kvs : List (List Key × V)} {xs : List (List Key × Addr × Value)} (r : KT H kvs xs) (k : List Key) {y : V} {u : Value} (ry : RelV y u) :
    KT H (kvs.map fun kv => if kv.1 = k then (kv.1, y) else kv) (xs.map (putAt k u)) := by
  induction r with
  | nil => exact .nil
  | @cons p q ps qs h t ih =>
    rw [List.map_cons, List.map_cons]
    refine .cons ?_ ih
    obtain ⟨h1, h2, h3⟩ := h
    unfold putAt
    by_cases e : p.1 = k
    · rw [if_pos e, if_pos (h1.symm.trans e)]; exact ⟨h1, h2, ry⟩
    · rw [if_neg e, if_neg (fun z => e (h1.trans z))]; exact ⟨h1, h2, h3⟩
theorem KT.put {H : Hp} {kvs : List (List Key × V)} {xs : List (List Key × Addr × Value)} (r : KT H kvs xs) (k : List Key) {b : Addr} {y : V} {u : Value} (hb : H b = some (.tup (k.map kV))) (ry : RelV y u) :
    KT H (putK kvs k y) (storedH xs k b u) := by
  have e : (kvs.any fun kv => decide (kv.1 = k)) = (atKey xs k).isSome := by
    rw [valV_any, (r.val k).isSome_eq, Option.isSome_map]
  unfold putK storedH
  rw [e]
  by_cases q : (atKey xs k).isSome = true
  · rw [if_pos q, if_pos q]; exact r.repl k ry
  · rw [if_neg q, if_neg q]; exact Paired.snoc r ⟨rfl, hb, ry⟩
theorem KT.keeps {H H' : Hp} {kvs : List (List Key × V)} {xs : List (List Key × Addr × Value)} (r : KT H kvs xs) (ht : ∀ b ys, H b = some (.tup ys) → H' b = some (.tup ys)) : KT H' kvs xs :=
  Paired.mapP r fun _ _ z => ⟨z.1, ht _ _ z.2.1, z.2.2⟩

section
variable {P : Program} {w : World} {H : Hp} {h : Heap} {a : Addr}
theorem rd_of {u : HO} (ok : HOk P w H h) (e : Rd H a u) : ObjOk P w H h a u := e.ok ok
theorem dk_rd {kvs : List (Key × V)} (ok : HOk P w H h) (e : Rd H a (.dK kvs)) : kvs.length ≤ sizeLine ∧ (a == sysModules) = false ∧ ∃ vs, KV kvs vs ∧ h.DictOf (mixKind P w) a vs :=
  show ObjOk P w H h a (.dK kvs) from rd_of ok e
theorem dk_of {kvs : List (Key × V)} (ok : HOk P w H h) (e : H a = some (.dK kvs)) : kvs.length ≤ sizeLine ∧ (a == sysModules) = false ∧ ∃ vs, KV kvs vs ∧ h.DictOf (mixKind P w) a vs := dk_rd ok (.inl e)
/-- a tracked tuple of ints and texts is a key -/
theorem key_of {ks : List Key} (ok : HOk P w H h) (e : H a = some (.tup (ks.map kV))) : (tupleKind (mixKind P w)).is h ks a := by
  obtain ⟨_, its, r, o, h1, h2, n, h3⟩ := (show ObjOk P w H h a (.tup (ks.map kV)) from ok a _ e)
  exact ⟨o, its.toArray, n, h1, h2, h3, by simpa using items_are r⟩
theorem dt_rd {kvs : List (List Key × V)} (ok : HOk P w H h) (e : Rd H a (.dT kvs)) : kvs.length ≤ sizeLine ∧ (a == sysModules) = false ∧
    ∃ xs, KT H kvs xs ∧ h.DictOfH (tupleKind (mixKind P w)) a xs := by
  obtain ⟨z, y, xs, r, o, es, ep, h1, h2, h3, h4, h5⟩ := (show ObjOk P w H h a (.dT kvs) from rd_of ok e)
  refine ⟨z, y, xs, r, o, es, ep, h1, h2, h3, h4, fun x hx => ?_, h5⟩
  have all : ∀ {l : List (List Key × V)} {m : List (List Key × Addr × Value)}, KT H l m → ∀ x ∈ m, (tupleKind (mixKind P w)).is h x.1 x.2.1 := by
    intro l m q
    induction q with
    | nil => intro x hx; exact nomatch hx
    | @cons p q ps qs hq t ih =>
      intro x hx
      rcases List.mem_cons.mp hx with e | hx
      · subst e
        exact key_of ok (by rw [← hq.1]; exact hq.2.1)
      · exact ih x hx
  exact all r x hx
theorem dt_of {kvs : List (List Key × V)} (ok : HOk P w H h) (e : H a = some (.dT kvs)) : kvs.length ≤ sizeLine ∧ (a == sysModules) = false ∧
    ∃ xs, KT H kvs xs ∧ h.DictOfH (tupleKind (mixKind P w)) a xs := dt_rd ok (.inl e)
end

/-- what the dict at a holds at the key y -/
def DGet (H : Hp) (a : Addr) (y : V) (r : Option V) : Prop :=
  (∃ kvs k, Rd H a (.dK kvs) ∧ y = kV k ∧ r = valV kvs k) ∨ ∃ kvs k b, Rd H a (.dT kvs) ∧ y = .ref b ∧ H b = some (.tup (k.map kV)) ∧ r = valV kvs k
/-- the heap behind a[y] = v -/
def DPut (H : Hp) (a : Addr) (y v : V) (H' : Hp) : Prop :=
  (∃ kvs k, H a = some (.dK kvs) ∧ y = kV k ∧ kvs.length < sizeLine ∧ H' = upd H a (.dK (putK kvs k v))) ∨
  ∃ kvs k b, H a = some (.dT kvs) ∧ y = .ref b ∧ H b = some (.tup (k.map kV)) ∧ kvs.length < sizeLine ∧ H' = upd H a (.dT (putK kvs k v))
theorem DPut.t {H : Hp} {a b : Addr} {kvs : List (List Key × V)} {k : List Key} {v : V} (e : H a = some (.dT kvs)) (eb : H b = some (.tup (k.map kV))) (hl : kvs.length < sizeLine) :
    DPut H a (.ref b) v (upd H a (.dT (putK kvs k v))) := .inr ⟨kvs, k, b, e, rfl, eb, hl, rfl⟩


section
variable {X : Cx} {pins : List (Addr × Obj)} {σ : St} {H : Hp} {s : Shared} {a : Addr} {y v : V} {u r : Value} {o : Option V} {A : Around} {E : Value → Shared → Prop}

theorem Inv.big (I : Inv X pins σ H s) : sysModules < s.heap.objs.size := by
  have h : mainGlobals < s.heap.objs.size := (I.mod.glob.keeps I.bk).lt
  exact Nat.lt_trans (by decide) h

/-- d[y], there -/
theorem d_getItem {Q : Value → Shared → Prop} (hu : A.units + 1 < cLine) (I : Inv X pins σ H s) (g : DGet H a y (some v)) (ry : RelV y u) (h : ∀ w' s', Inv X pins σ H s' → RelV v w' → Q w' s') :
    wpAny (model X.prog X.w) A (getItem (.ref a) u) Q E s := by
  rcases g with ⟨kvs, k, e, ey, l⟩ | ⟨kvs, k, b, e, ey, eb, l⟩
  · subst ey
    obtain ⟨z, hd, vs, rel, dd⟩ := dk_rd I.hok e
    obtain ⟨w', hw, rw'⟩ := RelO.some_of (v := v) (o := valueAt vs k) (by rw [l]; exact rel.val k)
    exact wpAny_getItem_of (kV_is ry) dd.mapOf hw (h w' _ (I.tok _) rw')
  · subst ey
    cases (show u = Value.ref b from ry)
    obtain ⟨z, hd, xs, rel, dd⟩ := dt_rd I.hok e
    obtain ⟨w', hw, rw'⟩ := RelO.some_of (v := v) (o := (atKey xs k).map (·.2)) (by rw [l]; exact rel.val k)
    obtain ⟨p, hp, hp2⟩ := Option.map_eq_some_iff.mp hw
    refine wpAny_getItem_heap (tupleKind_room_in1 hu) (key_of I.hok eb) dd hp ?_
    rw [hp2]
    exact h w' _ (I.tok _) rw'
/-- y in d -/
theorem d_in {Q : Value → Shared → Prop} (hu : A.units + 1 < cLine) (I : Inv X pins σ H s) (g : DGet H a y o) (ry : RelV y u) (h : ∀ s', Inv X pins σ H s' → Q (.bool o.isSome) s') :
    wpAny (model X.prog X.w) A (compareOp .In u (.ref a)) Q E s := by
  rcases g with ⟨kvs, k, e, ey, l⟩ | ⟨kvs, k, b, e, ey, eb, l⟩
  · subst ey
    obtain ⟨z, hd, vs, rel, dd⟩ := dk_rd I.hok e
    refine wpAny_in_of (kV_is ry) hd dd.mapOf ?_
    rw [← (rel.val k).isSome_eq, ← l]
    exact h _ (I.tok _)
  · subst ey
    cases (show u = Value.ref b from ry)
    obtain ⟨z, hd, xs, rel, dd⟩ := dt_rd I.hok e
    refine wpAny_in_heap (tupleKind_room_in1 hu) (key_of I.hok eb) hd dd ?_
    have q := (rel.val k).isSome_eq
    rw [Option.isSome_map] at q
    rw [← q, ← l]
    exact h _ (I.tok _)
theorem d_notIn {Q : Value → Shared → Prop} (hu : A.units + 1 < cLine) (I : Inv X pins σ H s) (g : DGet H a y o) (ry : RelV y u) (h : ∀ s', Inv X pins σ H s' → Q (.bool (!o.isSome)) s') :
    wpAny (model X.prog X.w) A (compareOp .NotIn u (.ref a)) Q E s := by
  rcases g with ⟨kvs, k, e, ey, l⟩ | ⟨kvs, k, b, e, ey, eb, l⟩
  · subst ey
    obtain ⟨z, hd, vs, rel, dd⟩ := dk_rd I.hok e
    refine wpAny_notIn_of (kV_is ry) hd dd.mapOf ?_
    rw [← (rel.val k).isSome_eq, ← l]
    exact h _ (I.tok _)
  · subst ey
    cases (show u = Value.ref b from ry)
    obtain ⟨z, hd, xs, rel, dd⟩ := dt_rd I.hok e
    refine wpAny_notIn_heap (tupleKind_room_in1 hu) (key_of I.hok eb) hd dd ?_
    have q := (rel.val k).isSome_eq
    rw [Option.isSome_map] at q
    rw [← q, ← l]
    exact h _ (I.tok _)
/-- a dict's object is replaced -/
theorem d_write {h' : Heap} {t' : Nat} {ob : HO} (I : Inv X pins σ H s) (mu : Mut (H a)) (hs : Heap.SameBut a s.heap h') (he : ∃ q, h'.get? a = some q) (new : ObjOk X.prog X.w (upd H a ob) h' a ob) :
    Inv X pins σ (upd H a ob) { s with heap := h', toks := t' } :=
  I.write (x := a) (e := a) mu (.inl rfl) (fun b q hb z => (hs.2 b hb).trans z) he new
theorem dk_new {P : Program} {w : World} {H' : Hp} {h' : Heap} {kvs : List (Key × V)} {vs : List (Key × Value)} (z : kvs.length ≤ sizeLine) (hd : (a == sysModules) = false) (rel : KV kvs vs) (dd : h'.DictOf (mixKind P w) a vs) :
    ObjOk P w H' h' a (.dK kvs) := ⟨z, hd, vs, rel, dd⟩
/-- d[y] = v -/
theorem d_setItem {H' : Hp} {Q : Unit → Shared → Prop} (hu : A.units + 1 < cLine) (I : Inv X pins σ H s) (g : DPut H a y v H') (ry : RelV y u) (rv : RelV v r) (h : ∀ s', Inv X pins σ H' s' → Q () s') :
    wpAny (model X.prog X.w) A (setItem (.ref a) u r) Q E s := by
  rcases g with ⟨kvs, k, e, ey, l, eH⟩ | ⟨kvs, k, b, e, ey, eb, l, eH⟩
  · subst ey eH
    obtain ⟨z, hd, vs, rel, dd⟩ := dk_of I.hok e
    have hz : vs.length ≤ sizeLine := by rw [← rel.length]; exact z
    have hl : (putK kvs k v).length ≤ sizeLine := by have := length_putK kvs k v; omega
    refine wpAny_setItem_pairs (hsz := hz) (kV_is ry) dd fun h' dd' hs => h _ ?_
    have he : ∃ q, h'.get? a = some q := let ⟨q, _, _, hq, _⟩ := dd'; ⟨q, hq⟩
    exact d_write I (by rw [e]; exact True.intro) hs he (dk_new hl hd (rel.put k rv) dd')
  · subst ey eH
    cases (show u = Value.ref b from ry)
    obtain ⟨z, hd, xs, rel, dd⟩ := dt_of I.hok e
    have hz : xs.length ≤ sizeLine := by rw [← Paired.length rel]; exact z
    have hl : (putK kvs k v).length ≤ sizeLine := by have := length_putK kvs k v; omega
    refine wpAny_setItem_heap (hsz := hz) (tupleKind_room_in1 hu) (key_of I.hok eb) dd fun h' dd' hs => h _ ?_
    obtain ⟨q, es, ep, hq, h2, h3, h4, _, h5⟩ := dd'
    refine d_write I (by rw [e]; exact True.intro) hs ⟨q, hq⟩ ⟨hl, hd, _, (rel.put k eb rv).keeps fun c ys ec => ?_, q, es, ep, hq, h2, h3, h4, h5⟩
    rw [upd_ne (ne_of ec e (fun z => nomatch z))]
    exact ec
end

section
variable {X : Cx} {pins : List (Addr × Obj)} {σ : St} {H : Hp} {s : Shared} {a : Addr} {kvs : List (Key × V)} {k : Key} {u : Value} {A : Around} {E : Value → Shared → Prop}
end


/-! ### readings and rules -/
/-- the element of a subscription, not a slice -/
def NoSl (i : Expr) : Prop := ∀ ov iv, subscripted i false ov iv = operate [ov, iv] (getItem ov iv)
theorem subD_of {prog : Program} {w : World} {A : Around} {E : Value → Shared → Prop} {s : Shared} {env : Env} {value slice : Expr} {pos : Pos} {T id : String} {Q : Value → Shared → Prop}
    (hl : typeLookup (.type T) "__getitem__" = pure (some (.builtin id))) (hs : NoSl slice)
    (h : wpAny (model prog w) A (eval value env) (fun o s₁ => wpAny (model prog w) A (eval slice env) (fun i s₂ => s₂.TypeIs o T ∧ wpAny (model prog w) A (getItem o i) Q E s₂) E s₁) E s) :
    wpAny (model prog w) A (eval (.Subscript value slice pos) env) Q E s := by
  refine Subscript_ (wpAny_mono h (fun o s₁ h₁ => wpAny_mono h₁ (fun i s₂ h₂ => ?_) fun _ _ x => x) fun _ _ x => x)
  obtain ⟨hT, h₂⟩ := h₂
  unfold subscriptTail
  refine wpAny_bind ?_
  rw [getitemInPython_of_ne hT.not_modules]
  refine wpAny_bind (wpAny_specialOf hT hl ?_)
  have fin : wpAny (model prog w) A (subscripted slice false o i) (fun r s₃ => wpAny (model prog w) A (letTemporaryGo value o r >>= fun _ => pure r) Q E s₃) E s₂ := by
    rw [hs o i]
    exact wpAny_operating (wpAny_mono h₂ (fun r s₃ h₃ => wpAny_bind (wpAny_letTemporaryGo (wpAny_pure h₃))) fun _ _ x => x)
  first
    | exact wpAny_pure (wpAny_bind fin)
    | exact wpAny_bind (wpAny_pure (wpAny_bind fin))
    | exact wpAny_bind fin

theorem dict_typeIs {X : Cx} {pins : List (Addr × Obj)} {σ : St} {H : Hp} {s : Shared} {a : Addr} {y : V} {o : Option V} (I : Inv X pins σ H s) (g : DGet H a y o) : s.TypeIs (.ref a) "dict" := by
  rcases g with ⟨kvs, k, e, _, _⟩ | ⟨kvs, k, b, e, _, _, _⟩
  · obtain ⟨_, _, vs, _, dd⟩ := dk_rd I.hok e
    exact dd.typeIs
  · obtain ⟨_, _, xs, _, dd⟩ := dt_rd I.hok e
    exact dd.typeIs

/-- d[y] -/
def tDGet (td ty : TE) : TE := fun σ H Q => td σ H fun x H1 => ty σ H1 fun y H2 => ∃ a v, x = .ref a ∧ DGet H2 a y (some v) ∧ Q v H2
/-- y in d, y not in d -/
def tDIn (ty td : TE) : TE := fun σ H Q => ty σ H fun y H1 => td σ H1 fun x H2 => ∃ a o, x = .ref a ∧ DGet H2 a y o ∧ Q (.bl o.isSome) H2
def tDNotIn (ty td : TE) : TE := fun σ H Q => ty σ H fun y H1 => td σ H1 fun x H2 => ∃ a o, x = .ref a ∧ DGet H2 a y o ∧ Q (.bl (!o.isSome)) H2
/-- d[y] = v -/
def sDPut (td ty tv : TE) : TS := fun D σ H => tv σ H fun v H1 => td σ H1 fun x H2 => ty σ H2 fun y H3 => ∃ a H4, x = .ref a ∧ DPut H3 a y v H4 ∧ D.nx σ H4
/-- d[y] op= v -/
def sDAug (td ty tv : TE) (rd : V → V → Hp → VK → Prop) : TS := fun D σ H => td σ H fun x H1 => ty σ H1 fun y H2 => ∃ a v, x = .ref a ∧ DGet H2 a y (some v) ∧
  tv σ H2 fun y2 H3 => rd v y2 H3 fun z H4 => ∃ H5, DPut H4 a y z H5 ∧ D.nx σ H5
/-- del d[y] -/
def sDDel (td ty : TE) : TS := fun D σ H => td σ H fun x H1 => ty σ H1 fun y H2 => ∃ a kvs k, x = .ref a ∧ H2 a = some (.dK kvs) ∧ y = kV k ∧ (valV kvs k).isSome = true ∧ D.nx σ (upd H2 a (.dK (dropK kvs k)))

section
variable {X : Cx} {o i e value : Expr} {pos pos' tpos : Pos} {td ty tv : TE}
theorem pe_dget (hu : X.A.units + 1 < cLine) (ho : PE X o td) (hi : PE X i ty) (hs : NoSl i) : PE X (.Subscript o i pos) (tDGet td ty) := by
  intro pins s σ H Q I h
  refine subD_of PySem.F.slot_dict_getitem.lookup hs (thn (ho pins s σ H _ I h) fun u s1 ⟨x, H1, I1, rx, q1⟩ => thn (hi pins s1 σ H1 _ I1 q1) fun iv s2 ⟨y, H2, I2, ry, a, v, ex, g, q2⟩ => ?_)
  subst ex
  obtain rfl : u = Value.ref a := rx
  exact ⟨dict_typeIs I2 g, d_getItem hu I2 g ry fun w' s3 I3 rw' => ⟨v, H2, I3, rw', q2⟩⟩
theorem pc_din (hu : X.A.units + 1 < cLine) (hi : PE X i ty) (ho : PE X o td) : PC X .In i o (tDIn ty td) := by
  intro pins s σ H Q I h
  refine thn (hi pins s σ H _ I h) fun iv s1 ⟨y, H1, I1, ry, q1⟩ => thn (ho pins s1 σ H1 _ I1 q1) fun u s2 ⟨x, H2, I2, rx, a, ov, ex, g, q2⟩ => ?_
  subst ex
  obtain rfl : u = Value.ref a := rx
  exact d_in hu I2 g ry fun s3 I3 => ⟨.bl ov.isSome, H2, I3, rfl, q2⟩
theorem pc_dnotin (hu : X.A.units + 1 < cLine) (hi : PE X i ty) (ho : PE X o td) : PC X .NotIn i o (tDNotIn ty td) := by
  intro pins s σ H Q I h
  refine thn (hi pins s σ H _ I h) fun iv s1 ⟨y, H1, I1, ry, q1⟩ => thn (ho pins s1 σ H1 _ I1 q1) fun u s2 ⟨x, H2, I2, rx, a, ov, ex, g, q2⟩ => ?_
  subst ex
  obtain rfl : u = Value.ref a := rx
  exact d_notIn hu I2 g ry fun s3 I3 => ⟨.bl (!ov.isSome), H2, I3, rfl, q2⟩
theorem ps_dput (hu : X.A.units + 1 < cLine) (ho : PE X o td) (hi : PE X i ty) (hv : PE X value tv) (hs : swapsWith value (some (.Subscript o i pos')) pos.line X.env = pure false) :
    PS X (.Assign [.Subscript o i pos'] value pos) (sDPut td ty tv) := by
  intro pins s σ H D I h
  refine wpAny_Assign_Subscript (thn (hv pins s σ H _ I h) fun r s1 ⟨v, H1, I1, rv, q1⟩ => thn (ho pins s1 σ H1 _ I1 q1) fun u s2 ⟨x, H2, I2, rx, q2⟩ => thn (hi pins s2 σ H2 _ I2 q2) fun iv s3 ⟨y, H3, I3, ry, a, H4, ex, g, q3⟩ => ?_) hs
  subst ex
  obtain rfl : u = Value.ref a := rx
  exact d_setItem hu I3 g ry rv fun s4 I4 => ⟨σ, H4, I4, q3⟩
end


/-! ### displays -/
theorem dt_empty {P : Program} {w : World} {H : Hp} (h : Heap) (hb : sysModules < h.objs.size) : ObjOk P w H (h.push { cls := .type "dict", data := .dict #[] }) h.objs.size (.dT []) :=
  ⟨Nat.zero_le _, beq_eq_false_iff_ne.mpr (Ne.symm (Nat.ne_of_lt hb)), [], .nil, _, #[], 0, Heap.get?_push_size _ rfl, ⟨rfl, rfl, rfl⟩, rfl, rfl, List.nodup_nil⟩
/-- {}, to be a dict of the kind that is wanted -/
def tDNewK : TE := fun _ H Q => ∀ p, H p = none → Q (.ref p) (upd H p (.dK []))
def tDNewT : TE := fun _ H Q => ∀ p, H p = none → Q (.ref p) (upd H p (.dT []))
section
variable {X : Cx} {pos : Pos}
theorem pe_dnewT : PE X (.Dict [] [] pos) tDNewT := fun pins s σ H Q I h =>
  wpAny_Dict_empty ⟨.ref s.heap.objs.size, _, I.laid (a := s.heap.objs.size) (o := .dT []) (t' := s.toks) (fun _ _ q => Heap.get?_push_of_some _ q) (Nat.le_refl _) (dt_empty s.heap I.big), rfl, h _ (I.hok.fresh (Nat.le_refl _))⟩
end

/-- the pairs of a display, from the left -/
def tPairs : List (TE × TE) → St → Hp → (List (V × V) → Hp → Prop) → Prop
  | [], _, H, Q => Q [] H
  | (tk, tv) :: r, σ, H, Q => tk σ H fun x H1 => tv σ H1 fun y H2 => tPairs r σ H2 fun ps H3 => Q ((x, y) :: ps) H3
abbrev VV : List (V × V) → List (Value × Value) → Prop := Paired fun p q => RelV p.1 q.1 ∧ RelV p.2 q.2
def PPs (X : Cx) (pos : Pos) (keys : List (Option Expr)) (values : List Expr) (trs : List (TE × TE)) : Prop :=
  ∀ (pins : List (Addr × Obj)) (s : Shared) (σ : St) (H : Hp) (Q : List (V × V) → Hp → Prop), Inv X pins σ H s → tPairs trs σ H Q →
    wpAny (model X.prog X.w) X.A (evalPairs (pairTrees keys values X.env pos)) (fun vs s' => ∃ ps H', Inv X pins σ H' s' ∧ VV ps vs ∧ Q ps H') X.xe s

def mergeK (kvs more : List (Key × V)) : List (Key × V) := more.foldl (fun acc kv => putK acc kv.1 kv.2) kvs
/-- {k: v, ..} with keys ints and texts; the new dict stands empty while the pairs are made -/
def tDisp (trs : List (TE × TE)) : TE := fun σ H Q => ∀ p, H p = none → tPairs trs σ (upd H p (.dK [])) fun ps H2 => H2 p = some (.dK []) ∧ ∃ kvs : List (Key × V), ps = kvs.map (fun kv => (kV kv.1, kv.2)) ∧ kvs.length ≤ 15 ∧ Q (.ref p) (upd H2 p (.dK (mergeK [] kvs)))


/-! ### methods -/
/-- a method call o.m(e) of a built-in, with one argument: what must be seen of the text -/
structure M1 (X : Cx) (o : Expr) (m : Str) (apos : Pos) (e : Expr) (cpos : Pos) : Prop where
  base : attributeBase o m X.env (eval o X.env) = eval o X.env
  few : ((backTo cpos (starEach [e] X.env)).all (fun x => !x.1) && (backToKw cpos (keywordEach [] X.env)).all (fun x => x.1.isSome)
    && decide (([e] : List Expr).length + ([] : List Keyword).length + (if ([] : List Keyword).isEmpty then 0 else 1) < 30)) = true
  line : (apos.endLine == cpos.line) = true
  trees : backTo cpos (starEach [e] X.env) = [(false, eval e X.env)]
structure M2 (X : Cx) (o : Expr) (m : Str) (apos : Pos) (e f : Expr) (cpos : Pos) : Prop where
  base : attributeBase o m X.env (eval o X.env) = eval o X.env
  few : ((backTo cpos (starEach [e, f] X.env)).all (fun x => !x.1) && (backToKw cpos (keywordEach [] X.env)).all (fun x => x.1.isSome)
    && decide (([e, f] : List Expr).length + ([] : List Keyword).length + (if ([] : List Keyword).isEmpty then 0 else 1) < 30)) = true
  line : (apos.endLine == cpos.line) = true
  trees : backTo cpos (starEach [e, f] X.env) = [(false, eval e X.env), (false, eval f X.env)]

/-- a is a dict, whatever its keys -/
def IsD (H : Hp) (a : Addr) : Prop := (∃ kvs, Rd H a (.dK kvs)) ∨ ∃ kvs, Rd H a (.dT kvs)
theorem isD_at {X : Cx} {pins : List (Addr × Obj)} {σ : St} {H : Hp} {s : Shared} {a : Addr} (I : Inv X pins σ H s) (d : IsD H a) :
    s.TypeIs (.ref a) "dict" ∧ (∀ b, Value.ref a = .ref b → ∃ ob, s.heap.get? b = some ob ∧ ob.dict = none) ∧ (a == sysModules) = false := by
  rcases d with ⟨kvs, e⟩ | ⟨kvs, e⟩
  · obtain ⟨_, hd, vs, _, dd⟩ := dk_rd I.hok e
    refine ⟨dd.typeIs, fun b q => ?_, hd⟩
    cases q
    obtain ⟨ob, _, _, h1, h2, _⟩ := dd
    exact ⟨ob, h1, h2.2.1⟩
  · obtain ⟨_, hd, xs, _, dd⟩ := dt_rd I.hok e
    refine ⟨dd.typeIs, fun b q => ?_, hd⟩
    cases q
    obtain ⟨ob, _, _, h1, h2, _⟩ := dd
    exact ⟨ob, h1, h2.2.1⟩

section
variable {X : Cx} {pins : List (Addr × Obj)} {σ : St} {H : Hp} {s : Shared} {a : Addr} {y d : V} {u r : Value} {o : Option V} {A : Around} {E : Value → Shared → Prop}
/-- d.get(y, x) -/
theorem d_get2 {Q : Value → Shared → Prop} (hu : A.units + 1 < cLine) (I : Inv X pins σ H s) (g : DGet H a y o) (ry : RelV y u) (rd : RelV d r) (h : ∀ w' s', Inv X pins σ H s' → RelV (o.getD d) w' → Q w' s') :
    wpAny (model X.prog X.w) A (call (.builtin "dict.get") [.ref a, u, r]) Q E s := by
  rcases g with ⟨kvs, k, e, ey, l⟩ | ⟨kvs, k, b, e, ey, eb, l⟩
  · subst ey
    obtain ⟨z, hd, vs, rel, dd⟩ := dk_rd I.hok e
    refine call_meetsIn PySem.F.slot_dict_get dd.typeIs PySem.F.entry_dict_get (PySem.F.args_dict_get_3 _ _ _) (meets_dict_get_default (mixKind X.prog X.w) a (kV_is ry) hd r) ⟨_, dd.mapOf, h _ _ (I.tok _) ?_⟩
    rw [l]
    exact (rel.val k).getD rd
  · subst ey
    cases (show u = Value.ref b from ry)
    obtain ⟨z, hd, xs, rel, dd⟩ := dt_rd I.hok e
    refine call_meetsIn PySem.F.slot_dict_get dd.typeIs PySem.F.entry_dict_get (PySem.F.args_dict_get_3 _ _ _) (meetsH_dict_get_default (tupleKind (mixKind X.prog X.w)) a b hd r) ⟨tupleKind_room_in1 hu, k, xs, key_of I.hok eb, dd, h _ _ (I.tok _) ?_⟩
    rw [l]
    exact (rel.val k).getD rd
end

def tDGet1 (td ty : TE) : TE := fun σ H Q => td σ H fun x H1 => ∃ a, x = .ref a ∧ IsD H1 a ∧ ty σ H1 fun y H2 => ∃ o, DGet H2 a y o ∧ Q (o.getD .non) H2
def tDGet2 (td ty tx : TE) : TE := fun σ H Q => td σ H fun x H1 => ∃ a, x = .ref a ∧ IsD H1 a ∧ ty σ H1 fun y H2 => tx σ H2 fun z H3 => ∃ o, DGet H3 a y o ∧ Q (o.getD z) H3
/-- d.pop(k): there; d.pop(k, x): there or not -/
def tDPop1 (td ty : TE) : TE := fun σ H Q => td σ H fun x H1 => ∃ a, x = .ref a ∧ IsD H1 a ∧ ty σ H1 fun y H2 => ∃ kvs k v, H2 a = some (.dK kvs) ∧ y = kV k ∧ valV kvs k = some v ∧ Q v (upd H2 a (.dK (dropK kvs k)))
def tDPop2 (td ty tx : TE) : TE := fun σ H Q => td σ H fun x H1 => ∃ a, x = .ref a ∧ IsD H1 a ∧ ty σ H1 fun y H2 => tx σ H2 fun z H3 => ∃ kvs k, H3 a = some (.dK kvs) ∧ y = kV k ∧
  (∀ v, valV kvs k = some v → Q v (upd H3 a (.dK (dropK kvs k)))) ∧ (valV kvs k = none → Q z H3)
section
variable {X : Cx} {o e f : Expr} {apos cpos : Pos} {td ty tx : TE}
theorem pe_dget2 (hu : X.A.units + 1 < cLine) (ho : PE X o td) (he : PE X e ty) (hf : PE X f tx) (m : M2 X o "get" apos e f cpos) : PE X (.Call (.Attribute o "get" apos) [e, f] [] cpos) (tDGet2 td ty tx) := by
  intro pins s σ H Q I h
  refine wpAny_Call_method m.base m.few m.line PySem.F.plainAttrs_dict PySem.F.slot_dict_get PySem.F.type_dict_get (thn (ho pins s σ H _ I h) fun u s1 ⟨x, H1, I1, rx, a, ex, d, q1⟩ => ?_)
  subst ex
  obtain rfl : u = Value.ref a := rx
  obtain ⟨t1, t2, _⟩ := isD_at I1 d
  refine ⟨t1, t2, ?_⟩
  rw [m.trees]
  refine Calls.callWith_builtin rfl (Calls.evalArgs_plain (Calls.spliced_cons (thn (he pins s1 σ H1 _ I1 q1) fun iv s2 ⟨y, H2, I2, ry, q2⟩ =>
    Calls.spliced_cons (thn (hf pins s2 σ H2 _ I2 q2) fun fv s3 ⟨z, H3, I3, rz, ov, g, q3⟩ => Calls.spliced_nil ?_))))
  exact d_get2 hu I3 g ry rz fun w' s4 I4 rw' => ⟨_, H3, I4, rw', q3⟩
end

/-! ### dict(d): a copy -/
section
variable {X : Cx} {pins : List (Addr × Obj)} {σ : St} {H : Hp} {s : Shared} {a : Addr} {kvs : List (Key × V)} {A : Around} {E : Value → Shared → Prop}
end


section
variable {X : Cx} {pins : List (Addr × Obj)} {σ : St} {H : Hp} {s : Shared} {a : Addr} {y : V} {u : Value} {A : Around} {E : Value → Shared → Prop}
end
end L2

end
section
set_option Elab.async false
set_option linter.all false
set_option maxRecDepth 100000
/-! my own rules over the layer: list comprehensions -/
namespace L2
open PySem PySem.Spec PyProof.Rows

/-! the cells that a comprehension's block takes over -/
theorem closure_go (env : Env) : ∀ (names : List (Str × NameKind)) (cs : List (Str × Addr)),
    (∀ z ∈ names, z.2 = .free → ∃ c, env.cells.lookup z.1 = some c) →
    (∀ x c, cs.lookup x = some c → env.cells.lookup x = some c) →
    ∃ cl, (forIn (m := Sem) names cs fun (z : Str × NameKind) (r : List (Str × Addr)) =>
        if (z.2 == NameKind.free) = true then (do let a ← cellOf env z.1; pure (ForInStep.yield ((z.1, a) :: r))) else pure (ForInStep.yield r)) = pure cl ∧
      (∀ x c, cl.lookup x = some c → env.cells.lookup x = some c) ∧ (∀ z ∈ names, z.2 = .free → ∃ c, cl.lookup z.1 = some c) ∧
      ∀ x c, cs.lookup x = some c → ∃ c', cl.lookup x = some c'
  | [], cs, _, h2 => ⟨cs, rfl, h2, fun z hz => (nomatch hz), fun x c e => ⟨c, e⟩⟩
  | (n, k) :: r, cs, h1, h2 => by
    by_cases hk : k = .free
    · subst hk
      obtain ⟨c, hc⟩ := h1 (n, .free) List.mem_cons_self rfl
      have h2' : ∀ x d, ((n, c) :: cs).lookup x = some d → env.cells.lookup x = some d := fun x d e => by
        rw [List.lookup_cons] at e
        by_cases hx : (x == n) = true
        · rw [hx] at e
          have ex : x = n := by simpa using hx
          cases e
          rw [ex]; exact hc
        · have hx' : (x == n) = false := by simpa using hx
          rw [hx'] at e
          exact h2 x d e
      obtain ⟨cl, e1, e2, e3, e4⟩ := closure_go env r ((n, c) :: cs) (fun z hz => h1 z (List.mem_cons_of_mem _ hz)) h2'
      have e0 : cellOf env n = pure c := by unfold cellOf; rw [hc]
      refine ⟨cl, ?_, e2, fun z hz hf => ?_, fun x d e => ?_⟩
      · rw [List.forIn_cons]
        simp only [beq_self_eq_true, if_true, e0, pure_bind]
        exact e1
      · rcases List.mem_cons.mp hz with rfl | hz
        · exact e4 n c (by simp)
        · exact e3 z hz hf
      · by_cases hx : (x == n) = true
        · exact e4 x c (by rw [List.lookup_cons, hx])
        · have hx' : (x == n) = false := by simpa using hx
          exact e4 x d (by rw [List.lookup_cons, hx']; exact e)
    · have hb : (k == NameKind.free) = false := by simpa using hk
      obtain ⟨cl, e1, e2, e3, e4⟩ := closure_go env r cs (fun z hz => h1 z (List.mem_cons_of_mem _ hz)) h2
      refine ⟨cl, ?_, e2, fun z hz hf => ?_, e4⟩
      · rw [List.forIn_cons]
        simp only [hb, Bool.false_eq_true, if_false, pure_bind]
        exact e1
      · rcases List.mem_cons.mp hz with rfl | hz
        · exact absurd hf hk
        · exact e3 z hz hf
theorem closure_ok {scope : Scope} {env : Env} (h : ∀ z ∈ scope.names, z.2 = .free → ∃ c, env.cells.lookup z.1 = some c) :
    ∃ cl, closureFor scope env = pure cl ∧ (∀ x c, cl.lookup x = some c → env.cells.lookup x = some c) ∧ ∀ z ∈ scope.names, z.2 = .free → ∃ c, cl.lookup z.1 = some c := by
  obtain ⟨cl, e1, e2, e3, _⟩ := closure_go env scope.names [] h (fun x c e => by simp at e)
  refine ⟨cl, ?_, e2, e3⟩
  simp only [closureFor]
  rw [show (forIn (m := Sem) scope.names ([] : List (Str × Addr)) _) = pure cl from e1]
  rfl
theorem relabel_free {env : Env} : ∀ {names : List (Str × NameKind)} {x : Str}, names.lookup x = some .free →
    (names.map fun (n, k) => if (k == NameKind.free && env.scope.kind == .function && env.kindOf n == some .cell) then (n, NameKind.cell) else (n, k)).lookup x = some .cell ∨
    (names.map fun (n, k) => if (k == NameKind.free && env.scope.kind == .function && env.kindOf n == some .cell) then (n, NameKind.cell) else (n, k)).lookup x = some .free
  | [], _, h => by simp at h
  | (n, k) :: r, x, h => by
    have ih := @relabel_free env r x
    show List.lookup x ((if (k == NameKind.free && env.scope.kind == .function && env.kindOf n == some .cell) = true then (n, NameKind.cell) else (n, k)) :: _) = _ ∨
      List.lookup x ((if (k == NameKind.free && env.scope.kind == .function && env.kindOf n == some .cell) = true then (n, NameKind.cell) else (n, k)) :: _) = _
    cases hx : x == n with
    | true =>
      simp only [List.lookup_cons, hx] at h
      cases h
      split <;> simp [List.lookup_cons, hx]
    | false =>
      simp only [List.lookup_cons, hx] at h
      split <;> (simp only [List.lookup_cons, hx]; exact ih h)
theorem relabel_back {env : Env} : ∀ {names : List (Str × NameKind)} {x : Str} {q : NameKind}, (∀ z ∈ names, z.2 ≠ .cell) → (q = .cell ∨ q = .free) →
    (names.map fun (n, k) => if (k == NameKind.free && env.scope.kind == .function && env.kindOf n == some .cell) then (n, NameKind.cell) else (n, k)).lookup x = some q →
    ∃ z ∈ names, z.1 = x ∧ z.2 = .free
  | [], _, _, _, _, h => by simp at h
  | (n, k) :: r, x, q, hc, hq, h => by
    have ih := @relabel_back env r x q (fun z hz => hc z (List.mem_cons_of_mem _ hz)) hq
    have h : List.lookup x ((if (k == NameKind.free && env.scope.kind == .function && env.kindOf n == some .cell) = true then (n, NameKind.cell) else (n, k)) :: _) = some q := h
    cases hx : x == n with
    | true =>
      have ex : x = n := by simpa using hx
      refine ⟨(n, k), List.mem_cons_self, ex.symm, ?_⟩
      have hk := hc (n, k) List.mem_cons_self
      by_cases hf : k = .free
      · exact hf
      · exfalso
        have hb : (k == NameKind.free) = false := by simpa using hf
        simp only [hb, Bool.false_and, Bool.false_eq_true, if_false, List.lookup_cons, hx] at h
        cases h
        rcases hq with z | z
        · exact hk z
        · exact hf z
    | false =>
      have h' : List.lookup x (r.map fun (n, k) => if (k == NameKind.free && env.scope.kind == .function && env.kindOf n == some .cell) then (n, NameKind.cell) else (n, k)) = some q := by
        split at h <;> (rw [List.lookup_cons, hx] at h; exact h)
      obtain ⟨z, hz, e⟩ := ih h'
      exact ⟨z, List.mem_cons_of_mem _ hz, e⟩

/-- the context of a comprehension's block: its names (the variable first), the state and heap ahead of its own frame, the iterator's records -/
def cxC (X : Cx) (scope : Scope) (cl : List (Str × Addr)) (N' : List Str) (s3 : Shared) (H3 : Hp) (fp : List Addr) : Cx :=
  { X with N := N', s₀ := s3, H₀ := H3, env := compEnvC scope cl s3.heap.objs.size X.env, outer := X.stack, ex := fp, fn := fun _ => false, pn := [], xe := fun _ _ => False }

/-- what must be seen of a comprehension's scope -/
structure CScope (X : Cx) (scope : Scope) (x : Str) (ys : List Str) (ix : List Nat) : Prop where
  kind : scope.kind = .function
  nocell : ∀ z ∈ scope.names, z.2 ≠ .cell
  hx : scope.names.lookup x = some .local
  names : ∀ z ∈ scope.names, z.2 = .local → scope.names.lookup z.1 = some .local
  nd : (x :: ys).Nodup
  free : ∀ z ∈ scope.names, z.2 = .free → (X.env.kindOf z.1 = some .cell ∨ X.env.kindOf z.1 = some .free)
  ysf : ∀ y ∈ ys, scope.names.lookup y = some .free
  ysn : ∀ y ∈ ys, (X.env.kindOf y = some .cell ∨ X.env.kindOf y = some .free)
  ixs : ys.map some = ix.map (fun i => X.N[i]?)

/-- the block's slots: the variable, then what stands in X's slots ix -/
def slotsC (ix : List Nat) (σ : St) : St := ix.map fun i => σ.getD i none

section
variable {X : Cx} {pins : List (Addr × Obj)} {σ : St} {H : Hp} {s : Shared} {scope : Scope} {x : Str} {ys : List Str} {ix : List Nat} {cl : List (Str × Addr)} {fp : List Addr}

theorem inv_block {m : Str → Option Value} {tk : Nat} {h' : Heap} (I : Inv X pins σ H s) (S : CScope X scope x ys ix)
    (c1 : ∀ y c, cl.lookup y = some c → X.env.cells.lookup y = some c) (c2 : ∀ z ∈ scope.names, z.2 = .free → ∃ c, cl.lookup z.1 = some c)
    (hf : ∀ b ∈ fp, FpOk X pins H b) (hfs : ∀ b ∈ fp, b < s.heap.objs.size)
    (hns : h'.Ns s.heap.objs.size m) (hk : ∀ b o, s.heap.get? b = some o → h'.get? b = some o) :
    Inv (cxC X scope cl (x :: ys) s H fp) [] (none :: slotsC ix σ) H { s with heap := h', toks := tk } := by
  have hlen : ix.length = ys.length := by have := congrArg List.length S.ixs; simpa using this.symm
  refine ⟨⟨I.ok.mod, S.kind, I.ok.glob, I.ok.blt, Nat.le_refl _, fun y z c h1 h2 => I.ok.inj y z c (c1 y c h1) (c1 z c h2), fun y hy => ?_, fun y c hh _ => (by cases hh), I.ok.hd, I.ok.frames, .inl rfl, fun b hb => ⟨Nat.ne_of_lt (hfs b hb), fun y c e => (hf b hb).2.2.2.2.1 y c (c1 y c e)⟩,
    I.bs, Nat.le_trans I.ok.bsz I.sz, fun b o e hb => ?_, fun b hb => ?_, I.stack, I.stkFree⟩, rfl, I.bare, Un.kept hk, ⟨m, hns, fun i y v e1 e2 e3 => ?_⟩, fun y c e => ?_, I.hok.fresh (Nat.le_refl _), fun y c e => I.freeC y c (c1 y c e), fun p hp => absurd (show p ∈ ([] : List (Addr × Obj)) from hp) (by simp), I.hok.kept hk, ?_⟩
  · have hy' : ∃ z ∈ scope.names, z.1 = y ∧ z.2 = .free := by
      rcases hy with hy | hy
      · exact relabel_back S.nocell (.inl rfl) hy
      · exact relabel_back S.nocell (.inr rfl) hy
    obtain ⟨z, hz, rfl, hfz⟩ := hy'
    exact c2 z hz hfz
  · rcases (hf b hb).2.2.2.1 with z | z
    · exact I.ok.noex b o e z
    · exact absurd (Nat.lt_of_lt_of_le (Heap.lt_size e) (Nat.le_trans I.ok.bsz z)) (Nat.lt_irrefl _)
  · intro z
    rcases List.mem_cons.mp (I.stkSub b z) with e | e
    · exact (hf b hb).2.1 e
    · exact (hf b hb).2.2.1 e
  · cases i with
    | zero => simp at e2
    | succ j =>
      have e1' : ys[j]? = some y := by simpa [cxC] using e1
      have e2' : (slotsC ix σ)[j]? = some (some v) := by simpa using e2
      have hy : y ∈ ys := List.mem_of_getElem? e1'
      have e4 : (ys.map some)[j]? = some (some y) := by rw [List.getElem?_map, e1']; rfl
      rw [S.ixs, List.getElem?_map] at e4
      unfold slotsC at e2'
      rw [List.getElem?_map] at e2'
      cases hj : ix[j]? with
      | none => rw [hj] at e4; cases e4
      | some i =>
        rw [hj] at e4 e2'
        have e5 : X.N[i]? = some y := by simpa using e4
        have e6 : σ.getD i none = some v := by simpa using e2'
        have e7 : σ[i]? = some (some v) := by
          rw [List.getD_eq_getElem?_getD] at e6
          cases hq : σ[i]? with
          | none => rw [hq] at e6; cases e6
          | some o => rw [hq] at e6; cases e6; rfl
        obtain ⟨m0, hn0, hl0⟩ := I.loc
        have vis : Vis X.env.scope y := by
          rcases S.ysn y hy with q | q
          · exact .inr (.inl q)
          · exact .inr (.inr q)
        obtain ⟨u, r, l⟩ := hl0 i y v e5 e7 vis
        refine ⟨u, r, .inr ⟨relabel_free (S.ysf y hy), ?_⟩⟩
        rcases l with ⟨l1, _⟩ | ⟨_, c, l1, l2⟩
        · rcases S.ysn y hy with q | q <;> (rw [l1] at q; cases q)
        · obtain ⟨c', hc'⟩ := c2 (y, .free) (PySem.mem_of_lookup (S.ysf y hy)) rfl
          have : c' = c := by
            have z := c1 y c' hc'
            rw [l1] at z; cases z; rfl
          subst this
          obtain ⟨o, ho, hd⟩ := l2
          exact ⟨c', hc', o, hk c' o ho, hd⟩
  · obtain ⟨v, o, ho, hd⟩ := I.cell y c (c1 y c e)
    exact ⟨v, o, hk c o ho, hd⟩
  · show (none :: slotsC ix σ).length = (x :: ys).length
    simp [slotsC, hlen]

/-- behind the block -/
theorem inv_behind {s' : Shared} {H' : Hp} {σ' : St} {pins' : List (Addr × Obj)} {N' : List Str} (I : Inv X pins σ H s) (hf : ∀ b ∈ fp, FpOk X pins H b)
    (J : Inv (cxC X scope cl N' s H fp) pins' σ' H' s') : Inv X pins σ H' s' ∧ FpOk X pins H' s.heap.objs.size := by
  have hI := I.call' (s' := s') (H' := H') (ch := fp) J.os J.base J.hok J.bare fun b hb => ⟨(hf b hb).2.2.2.1, (hf b hb).2.1, (hf b hb).2.2.2.2.1, (hf b hb).2.2.2.2.2⟩
  exact ⟨hI, I.fpOk (Nat.le_refl _) J.free⟩
end

/-- one comprehension, one for: W is the invariant by the turn, a measure, the list so far -/
def bodyC (J : It) (tc : TT) (te : TE) (σf : St) (Q : VK) (H1 : Hp) : Prop :=
  ∀ D, H1 D = none → ∃ W : Nat → Nat → List V → Hp → Prop, (∃ m, W 0 m [] (upd H1 D (.lst []))) ∧ ∀ i m ys H, W i m ys H →
    ((J.stop i H ∧ Q (.ref D) H) ∨ (J.go i H ∧ ys.length < sizeLine ∧ ∃ N : List V → Hp → Prop, (∀ ys' H', N ys' H' → ∃ m', m' < m ∧ W (i + 1) m' ys' H') ∧
      ∀ x H', J.yld i H x H' → tc (some x :: σf) H' fun b H2 => if b = true then te (some x :: σf) H2 fun y H3 => H3 D = some (.lst ys) ∧ N (ys ++ [y]) (upd H3 D (.lst (ys ++ [y]))) else N ys H2))
def tComp (wi : TI) (ix : List Nat) (tc : TT) (te : TE) : TE := fun σ H Q => wi σ H fun J H1 => bodyC J tc te (slotsC ix σ) Q H1
/-- no if -/
def noIf : TT := fun _ H Q => Q true H
def PTests (X : Cx) (ifs : List Expr) (tc : TT) : Prop :=
  ∀ (pins : List (Addr × Obj)) (s : Shared) (σ : St) (H : Hp) (Q : Bool → Hp → Prop), Inv X pins σ H s → tc σ H Q →
    wpAny (model X.prog X.w) X.A (forIn ifs true fun c r => if r = true then do let ok ← isTrue c X.env (eval c X.env); pure (ForInStep.yield ok) else pure (ForInStep.yield r)) (TP X pins σ Q) X.xe s
theorem pts_nil {X : Cx} : PTests X [] noIf := fun pins s σ H Q I h => wpAny_tests_nil ⟨H, I, h⟩
theorem pts_one {X : Cx} {c : Expr} {tc : TT} (hc : PT X c tc) : PTests X [c] tc := fun pins s σ H Q I h => wpAny_tests_one (hc pins s σ H Q I h)

section
variable {prog : Program} {w : World} {A : Around} {R : Result → Shared → Prop} {s : Shared}
/-- the turns of the block, the step ahead of the store told too -/
theorem loop_own {elt target iter : Expr} {ifs : List Expr} {scope : Scope} {pos : Pos} {it acc : Value} {env : Env} (I : Nat → Shared → Prop)
    (turn : ∀ n s, I n s → wpAny (model prog w) A (pyNext it) (fun r s₁ => match r with
      | none => R (.ok .next) s₁
      | some v => wpAny (model prog w) A (letOwnedTupleGo target it v) (fun _ s₂ => wpAny (model prog w) A (assign target env v) (fun _ s₃ =>
          wpAny (model prog w) A (forIn ifs true fun c r => if r = true then do let ok ← isTrue c env (eval c env); pure (ForInStep.yield ok) else pure (ForInStep.yield r)) (fun ok s₄ =>
            if ok = true then wpAny (model prog w) A (eval elt env) (fun y s₅ =>
              wpAny (model prog w) A (call (.builtin "list.append") [acc, y]) (fun _ s₆ => ∃ m, m < n ∧ I m s₆) (fun _ _ => False) s₅) (fun _ _ => False) s₄
            else ∃ m, m < n ∧ I m s₄) (fun _ _ => False) s₃) (fun _ _ => False) s₂) (fun _ _ => False) s₁) (fun _ _ => False) s)
    (n : Nat) (h : I n s) : codeAny (model prog w) A (.compLoop (.ListComp elt [⟨target, iter, ifs, 0⟩] scope pos) 0 it acc env) R s := by
  refine codeAny_loop rfl I (fun n s hI => ?_) n h
  show wpAny _ A ((compTurn (.ListComp elt [⟨target, iter, ifs, 0⟩] scope pos) 0 it acc env).onRaise (fun x => do noteFrame x env; theTreesLotGoes x)) _ _ s
  refine wpAny_noted ?_
  rw [compTurn_list]
  have no : ∀ {F : Value → Shared → Prop} (e : Value) (s' : Shared), False → F e s' := fun _ _ z => z.elim
  refine wpAny_bind (wpAny_standAt (wpAny_bind (wpAny_mono (turn n s hI) (fun r s₁ h₁ => ?_) no)))
  cases r with
  | none => exact wpAny_pure h₁
  | some v =>
    refine wpAny_bind (wpAny_mono h₁ (fun _ s₂ h₂ => wpAny_bind (wpAny_mono h₂ (fun _ s₃ h₃ => wpAny_bind (wpAny_mono h₃ (fun ok s₄ h₄ => ?_) no)) no)) no)
    cases ok with
    | false => exact wpAny_pure ⟨rfl, h₄⟩
    | true =>
      exact wpAny_bind (wpAny_bind (wpAny_mono h₄ (fun y s₅ h₅ => wpAny_bind (wpAny_mono h₅ (fun _ s₆ h₆ => wpAny_pure (wpAny_pure ⟨rfl, h₆⟩)) no)) no))
end

section
variable {X : Cx} {scope : Scope} {x : Str} {ys : List Str} {ix : List Nat} {wi : TI} {tc : TT} {te : TE} {elt iter : Expr} {ifs : List Expr} {px pos : Pos} {cl : List (Str × Addr)}

/-- the block, from a fresh list to its end -/
theorem comp_walk {pins : List (Addr × Obj)} {σ : St} {H2 : Hp} {s2 : Shared} {J : It} {fp : List Addr} {it : Addr} {tn : Nat → Heap → Prop} {Q : VK} {E : Value → Shared → Prop} {RR : Value → Addr → Result → Shared → Prop}
    (hc : X.calm = true) (S : CScope X scope x ys ix)
    (c1 : ∀ y c, cl.lookup y = some c → X.env.cells.lookup y = some c) (c2 : ∀ z ∈ scope.names, z.2 = .free → ∃ c, cl.lookup z.1 = some c)
    (ht : ∀ s3 H3 fp, PTests (cxC X scope cl (x :: ys) s3 H3 fp) ifs tc) (he : ∀ s3 H3 fp, PE (cxC X scope cl (x :: ys) s3 H3 fp) elt te)
    (I : Inv X pins σ H2 s2) (T : Turn X.prog X.w X.K (.Name x px) J fp it tn) (st : tn 0 s2.heap) (hf : ∀ b ∈ fp, FpOk X pins H2 b)
    (hq : bodyC J tc te (slotsC ix σ) Q H2)
    (hRR : ∀ D C s' H', Inv X pins σ H' s' → (∃ m, s'.heap.Ns C m) → FpOk X pins H' C → Q (.ref D) H' → RR (.ref D) C (.ok .next) s') :
    wpAny (model X.prog X.w) X.A (newList []) (fun acc s3 => wpAny (model X.prog X.w) X.A (newFunctionEnv scope X.env.globals cl [] X.env.qual none .none (some X.env)) (fun cenv s4 =>
      codeAny (model X.prog X.w) X.A (.compStart (.ListComp elt [⟨.Name x px, iter, ifs, 0⟩] scope pos) 0 (.ref it) acc { cenv with scope := relabel scope X.env }) (RR acc cenv.locals) s4) E s3) E s2 := by
  refine wpAny_newObj_type ?_
  have hD : H2 s2.heap.objs.size = none := I.hok.fresh (Nat.le_refl _)
  have I3 : Inv X pins σ (upd H2 s2.heap.objs.size (.lst [])) { s2 with heap := s2.heap.push { cls := .type "list", dict := none, data := .seq ([] : List Value).toArray } } :=
    I.lnew (t' := s2.toks) (ys := []) (its := []) .nil (Nat.zero_le _)
  obtain ⟨W, ⟨m0, w0⟩, turn⟩ := hq _ hD
  generalize hD' : s2.heap.objs.size = D at *
  have hfD : ∀ b ∈ fp, b ≠ D := fun b hb e => by
    obtain ⟨o, ho, _⟩ := T.obj 0 _ st b hb
    have q := Heap.lt_size ho
    rw [hD', e] at q
    exact Nat.lt_irrefl _ q
  have hf3 : ∀ b ∈ fp, FpOk X pins (upd H2 D (.lst [])) b := fun b hb => ⟨by rw [upd_ne (hfD b hb)]; exact (hf b hb).1, (hf b hb).2⟩
  generalize hs3 : ({ s2 with heap := s2.heap.push { cls := .type "list", dict := none, data := .seq ([] : List Value).toArray } } : Shared) = s3 at *
  have st3 : tn 0 s3.heap := T.keep _ _ _ st fun b hb o e => by rw [← hs3]; exact Heap.get?_push_of_some _ e
  have hfs : ∀ b ∈ fp, b < s3.heap.objs.size := fun b hb => by
    obtain ⟨o, ho, _⟩ := T.obj 0 _ st3 b hb
    exact Heap.lt_size ho
  refine wpAny_newFunctionEnv S.nocell (by intro y hy; simp at hy) (fun h₁ hns₁ hsb₁ => ?_) S.kind
  have old : ∀ b o, s3.heap.get? b = some o → h₁.get? b = some o := fun b o e => hsb₁.extBut b o (Nat.ne_of_lt (Heap.lt_size e)) (Heap.get?_push_of_some _ e)
  have I4 := inv_block (tk := s3.toks + ([] : List (Str × Value)).length) I3 S c1 c2 hf3 hfs hns₁ old
  have st4 : tn 0 h₁ := T.keep _ _ _ st3 fun b _ o e => old b o e
  have hx' : (cxC X scope cl (x :: ys) s3 (upd H2 D (.lst [])) fp).env.scope.names.lookup x = some .local := lookup_relabel_local S.hx
  -- what stays true of the iterator's objects
  have stat : ∀ {H' : Hp}, (∀ b ∈ fp, H' b = none) → ∀ b ∈ fp, FpOk (cxC X scope cl (x :: ys) s3 (upd H2 D (.lst [])) fp) [] H' b := fun hn b hb =>
    ⟨hn b hb, Nat.ne_of_lt (hfs b hb), fun z => by
      rcases List.mem_cons.mp (I3.stkSub b z) with e | e
      · exact (hf b hb).2.1 e
      · exact (hf b hb).2.2.1 e, .inl hb, fun y c e => (hf b hb).2.2.2.2.1 y c (c1 y c e), fun p hp => absurd (show p ∈ ([] : List (Addr × Obj)) from hp) (by simp)⟩
  have loop : codeAny (model X.prog X.w) X.A (.compLoop (.ListComp elt [⟨.Name x px, iter, ifs, 0⟩] scope pos) 0 (.ref it) (.ref D) (compEnvC scope cl s3.heap.objs.size X.env))
      (RR (.ref D) s3.heap.objs.size) { s3 with heap := h₁, toks := s3.toks + ([] : List (Str × Value)).length } := by
    refine loop_own (fun n s' => ∃ i ys' σ' H', Inv (cxC X scope cl (x :: ys) s3 (upd H2 D (.lst [])) fp) [] σ' H' s' ∧ tn i s'.heap ∧ (∀ b ∈ fp, H' b = none) ∧ W i n ys' H' ∧ ∃ o, σ' = o :: slotsC ix σ) ?_ m0
      ⟨0, [], _, _, I4, st4, fun b hb => (hf3 b hb).1, w0, _, rfl⟩
    rintro n s5 ⟨i, ys', σ5, H5, I5, st5, fr5, w5, o5, rfl⟩
    rcases turn i n ys' H5 w5 with ⟨stop, qn⟩ | ⟨go, hlen, N, hN, step⟩
    · refine thn (T.done (cxC X scope cl (x :: ys) s3 (upd H2 D (.lst [])) fp) rfl rfl rfl hc i [] s5 _ H5 _ I5 (stat fr5) st5 stop) fun r s6 ⟨hr, I6⟩ => ?_
      subst hr
      obtain ⟨J1, J2⟩ := inv_behind I3 hf3 I6
      obtain ⟨m6, hn6, _⟩ := I6.loc
      exact hRR D _ s6 H5 J1 ⟨m6, hn6⟩ J2 qn
    · refine thn (T.item (cxC X scope cl (x :: ys) s3 (upd H2 D (.lst [])) fp) rfl rfl rfl hc i [] s5 _ H5 _ I5 (stat fr5) st5 go) fun r s6 ⟨u, hr, h6⟩ => ?_
      subst hr
      refine thn h6 fun _ s7 ⟨v, H7, I7, r7, y7, st7, fr7⟩ => ?_
      have I7' := I7.pinned (stat fr7) (T.obj _ _ st7)
      have q7 := step v H7 y7
      refine wpAny_assign_Name (store_ok (i := 0) I7' S.nd rfl (.inl hx') r7 (fun s8 I8 => ?_) (.inr hx'))
      have I8 : Inv (cxC X scope cl (x :: ys) s3 (upd H2 D (.lst [])) fp) ([] ++ pinsAt fp s7.heap) (some v :: slotsC ix σ) H7 s8 := I8
      refine thn (ht _ _ _ _ s8 _ H7 _ I8 q7) fun ok s9 ⟨H9, I9, q9⟩ => ?_
      have again : ∀ {ys'' : List V} {H10 : Hp} {s10 : Shared}, Inv (cxC X scope cl (x :: ys) s3 (upd H2 D (.lst [])) fp) ([] ++ pinsAt fp s7.heap) (some v :: slotsC ix σ) H10 s10 → N ys'' H10 →
          ∃ m, m < n ∧ ∃ i ys' σ' H', Inv (cxC X scope cl (x :: ys) s3 (upd H2 D (.lst [])) fp) [] σ' H' s10 ∧ tn i s10.heap ∧ (∀ b ∈ fp, H' b = none) ∧ W i m ys' H' ∧ ∃ o, σ' = o :: slotsC ix σ := fun {ys'' H10 s10} I10 n10 => by
        obtain ⟨m', hm, w10⟩ := hN _ _ n10
        refine ⟨m', hm, i + 1, ys'', _, H10, I10.unpinned, T.keep _ _ _ st7 fun b hb o e => (I10.pin (b, o) (List.mem_append_right _ (List.mem_append_right _ (mem_pinsAt hb e)))).1, fun b hb => ?_, w10, _, rfl⟩
        obtain ⟨o, e, d⟩ := T.obj _ _ st7 b hb
        exact (I10.pin (b, o) (List.mem_append_right _ (List.mem_append_right _ (mem_pinsAt hb e)))).2.1
      cases ok with
      | false => exact again I9 q9
      | true =>
        refine thn (he _ _ _ _ s9 _ H9 _ I9 q9) fun y s10 ⟨vy, H10, I10, r10, d10, n10⟩ => ?_
        refine thn (mt_append _ s10 _ H10 (.ref D) [vy] _ _ (fun z H11 => z = .non ∧ H11 = upd H10 D (.lst (ys' ++ [vy]))) I10 rfl (.cons r10 .nil) ⟨D, ys', vy, rfl, rfl, d10, hlen, rfl, rfl⟩) fun _ s11 ⟨_, H11, I11, _, _, e11⟩ => ?_
        subst e11
        exact again I11 n10
  exact codeAny_compStart_list loop (T.self _ 0 _ _ _ st4 loop)

theorem cells_of {pins : List (Addr × Obj)} {σ : St} {H : Hp} {s : Shared} (I : Inv X pins σ H s) (S : CScope X scope x ys ix) :
    ∃ cl, closureFor scope X.env = pure cl ∧ (∀ y c, cl.lookup y = some c → X.env.cells.lookup y = some c) ∧ ∀ z ∈ scope.names, z.2 = .free → ∃ c, cl.lookup z.1 = some c :=
  closure_ok fun z hz hf => I.ok.has z.1 (S.free z hz hf)

/-- [elt for x in iter if ..] as a value -/
theorem pe_comp (S : CScope X scope x ys ix) (hc : X.calm = true) (hi : PI X (.Name x px) iter wi) (ht : ∀ cl s3 H3 fp, PTests (cxC X scope cl (x :: ys) s3 H3 fp) ifs tc)
    (he : ∀ cl s3 H3 fp, PE (cxC X scope cl (x :: ys) s3 H3 fp) elt te) (hs : ∀ x, foldedSetIterable iter X.env x = pure x := by intro _; rfl) :
    PE X (.ListComp elt [⟨.Name x px, iter, ifs, 0⟩] scope pos) (tComp wi ix tc te) := by
  intro pins s σ H Q I h
  obtain ⟨cl, e1, c1, c2⟩ := cells_of I S
  rw [eval_ListComp]
  refine wpAny_comprehension_free (use := none) rfl hs e1 S.kind S.names (thn (hi pins s σ H _ I h) fun v s1 h1 => thn h1 fun itv s2 h2 => ?_)
  obtain ⟨it, fp, tn, J, H2, e, I2, T, st2, f2, q2⟩ := h2
  subst e
  refine comp_walk hc S c1 c2 (ht cl) (he cl) I2 T st2 f2 q2 fun D C s' H' I' hm fc q' => ?_
  obtain ⟨m, hn⟩ := hm
  exact ⟨m, hn, fun h' sb => ⟨.ref D, H', I'.turned (t' := s'.toks) (fun b o hb e => sb.extBut b o hb e) fc.1 fc.2.1 fc.2.2.2.1 fc.2.2.2.2.1 fc.2.2.2.2.2, rfl, q'⟩⟩

/-- y = [elt for x in iter if ..], the store exchanged with the block's end -/
theorem ps_setC {i : Nat} {y : Str} {py spos : Pos} (S : CScope X scope x ys ix) (hc : X.calm = true) (hN : X.N.Nodup) (hi' : X.N[i]? = some y) (hy : X.env.scope.names.lookup y = some .local)
    (hi : PI X (.Name x px) iter wi) (ht : ∀ cl s3 H3 fp, PTests (cxC X scope cl (x :: ys) s3 H3 fp) ifs tc)
    (he : ∀ cl s3 H3 fp, PE (cxC X scope cl (x :: ys) s3 H3 fp) elt te)
    (hsw : swapsWith (.ListComp elt [⟨.Name x px, iter, ifs, 0⟩] scope pos) (some (.Name y py)) spos.line X.env = pure true := by rfl) (hs : ∀ x, foldedSetIterable iter X.env x = pure x := by intro _; rfl) :
    PS X (.Assign [.Name y py] (.ListComp elt [⟨.Name x px, iter, ifs, 0⟩] scope pos) spos) (tAsg (tComp wi ix tc te) (gName i)) := by
  intro pins s σ H D I h
  obtain ⟨cl, e1, c1, c2⟩ := cells_of I S
  rw [exec_Assign_Name_used _ _ _ _ hsw]
  refine wpAny_bind (wpAny_standAt (wpAny_bind ?_))
  show wpAny _ X.A (do let _ ← comprehension (.ListComp elt [⟨.Name x px, iter, ifs, 0⟩] scope pos) scope X.env _ (newList []) false (eval iter X.env) (some (assign (.Name y py) X.env))) _ _ s
  refine wpAny_bind (thn (Q := fun _ s' => SP X pins D .next s') (wpAny_comprehension_free (use := some (assign (.Name y py) X.env)) rfl hs e1 S.kind S.names
    (thn (hi pins s σ H _ I h) fun v s1 h1 => thn h1 fun itv s2 h2 => ?_)) fun _ s' hq => wpAny_pure (wpAny_pure hq))
  obtain ⟨it, fp, tn, J, H2, e, I2, T, st2, f2, q2⟩ := h2
  subst e
  refine comp_walk hc S c1 c2 (ht cl) (he cl) I2 T st2 f2 q2 fun D' C s' H' I' hm fc q' => ?_
  obtain ⟨m, hn⟩ := hm
  show wpAny _ X.A (assign (.Name y py) X.env (.ref D')) _ _ s'
  refine wpAny_assign_Name (store_ok2 (v := .ref D') I' hN hi' (.inl hy) rfl (fun s'' I'' ch => ?_) (.inr hy))
  obtain ⟨a, sb, ha⟩ := ch
  have hCa : C ≠ a := by
    rcases ha with z | z
    · rw [z]; exact fc.2.1
    · exact fun q => fc.2.2.2.2.1 y a z q.symm
  refine ⟨m, hn.sameBut sb hCa, fun h' sb' => ?_⟩
  exact ⟨_, H', I''.turned (t' := s''.toks) (fun b o hb e => sb'.extBut b o hb e) fc.1 fc.2.1 fc.2.2.2.1 fc.2.2.2.2.1 fc.2.2.2.2.2, q'⟩
end
end L2

end
section
set_option Elab.async false
set_option linter.all false
set_option maxRecDepth 100000
/-! my own: the forms of a comprehension that one uses; callees; tests -/
namespace L2
open PySem PySem.Spec PyProof.Rows

/-- the tuples stay -/
def TupLe (H H' : Hp) : Prop := ∀ b xs, H b = some (.tup xs) → H' b = some (.tup xs)
theorem Same.tup {H H' : Hp} (h : Same H H') : TupLe H H' := fun b xs e => h b _ e
theorem TupLe.trans {H H1 H2 : Hp} (a : TupLe H H1) (b : TupLe H1 H2) : TupLe H H2 := fun c o h => b c o (a c o h)
theorem tup_upd {H : Hp} {a : Addr} {o : HO} (h : ∀ xs, H a ≠ some (.tup xs)) : TupLe H (upd H a o) := fun b xs e => by
  by_cases hb : b = a
  · subst hb; exact absurd e (h xs)
  · rw [upd_ne hb]; exact e
theorem Same.new {H : Hp} {p : Addr} (h : H p = none) (o : HO) : Same H (upd H p o) := fun b u q => by
  rw [upd_ne (ne_of_none q h)]; exact q
theorem Same.seqT {K : PySem.W.Frag} {H H' : Hp} {a : Addr} {xs : List V} (e : Same H H') (h : SqT K H a xs) : SqT K H' a xs := by
  rcases h with (h | ⟨o, h⟩) | h
  · exact .inl (.inl (e _ _ h))
  · exact .inl (.inr ⟨o, e _ _ h⟩)
  · exact .inr h
/-- rewriting a list that is new since H -/
theorem Same.updNew {H H' : Hp} {p : Addr} {o : HO} (h : Same H H') (n : H p = none) : Same H (upd H' p o) := fun b u q => by
  rw [upd_ne (ne_of_none q n)]; exact h b u q

/-- each element told by G of its place; nothing that stood is changed -/
theorem body_items {J : It} {xs : List V} {te : TE} {σf : St} {Q : VK} {H1 : Hp} (G : Nat → V → Hp → Prop) (hlen : xs.length ≤ sizeLine)
    (hJ : ∀ i H, Same H1 H → (i < xs.length → J.go i H ∧ ∀ x H', J.yld i H x H' → H' = H ∧ xs[i]? = some x) ∧ (i = xs.length → J.stop i H))
    (stable : ∀ i y H H', TupLe H H' → G i y H → G i y H')
    (step : ∀ i x H (R : VK), xs[i]? = some x → Same H1 H → (∀ y H', Same H H' → G i y H' → R y H') → te (some x :: σf) H R)
    (fin : ∀ D ys H', H1 D = none → Same H1 H' → H' D = some (.lst ys) → ys.length = xs.length → (∀ i y, ys[i]? = some y → G i y H') → Q (.ref D) H') :
    bodyC J noIf te σf Q H1 := by
  intro D hD
  refine ⟨fun i m ys H => m = xs.length - i ∧ i ≤ xs.length ∧ ys.length = i ∧ Same H1 H ∧ H D = some (.lst ys) ∧ ∀ j y, ys[j]? = some y → G j y H,
    ⟨xs.length, by simp, Nat.zero_le _, rfl, Same.new hD _, upd_same, fun j y e => by simp at e⟩, ?_⟩
  rintro i m ys H ⟨rfl, hi, hl, hS, hH, hG⟩
  obtain ⟨j1, j2⟩ := hJ i H hS
  by_cases hlt : i < xs.length
  · obtain ⟨go, yl⟩ := j1 hlt
    refine .inr ⟨go, by omega, fun ys' H' => ys'.length = i + 1 ∧ Same H1 H' ∧ H' D = some (.lst ys') ∧ ∀ j y, ys'[j]? = some y → G j y H', fun ys' H' ⟨a, b, c, d⟩ => ⟨xs.length - (i + 1), by omega, rfl, hlt, a, b, c, d⟩, fun x H' y => ?_⟩
    obtain ⟨rfl, hx⟩ := yl x H' y
    unfold noIf
    refine iteT ?_
    refine step i x _ _ hx hS fun y H2 hS2 hg => ?_
    refine ⟨hS2 _ _ hH, by simp [hl], (hS.trans hS2).updNew hD, upd_same, fun j z e => ?_⟩
    have tl : TupLe H2 (upd H2 D (.lst (ys ++ [y]))) := tup_upd fun zs q => by rw [hS2 _ _ hH] at q; cases q
    by_cases hj : j < ys.length
    · rw [List.getElem?_append_left hj] at e
      exact stable j z _ _ (hS2.tup.trans tl) (hG j z e)
    · have ej : j = ys.length := by
        have := (List.getElem?_eq_some_iff.mp e).1
        simp at this
        omega
      subst ej
      rw [List.getElem?_append_right (Nat.le_refl _)] at e
      simp at e
      subst e
      rw [hl]
      exact stable i _ _ _ tl hg
  · have e : i = xs.length := by omega
    exact .inl ⟨j2 e, fin D ys H hD hS hH (hl.trans e) hG⟩
theorem body_list {K : PySem.W.Frag} {a : Addr} {xs : List V} {te : TE} {σf : St} {Q : VK} {H1 : Hp} (hS : SqL K H1 a xs) (hlen : xs.length ≤ sizeLine) (G : Nat → V → Hp → Prop)
    (stable : ∀ i y H H', TupLe H H' → G i y H → G i y H')
    (step : ∀ i x H (R : VK), xs[i]? = some x → Same H1 H → (∀ y H', Same H H' → G i y H' → R y H') → te (some x :: σf) H R)
    (fin : ∀ D ys H', H1 D = none → Same H1 H' → H' D = some (.lst ys) → ys.length = xs.length → (∀ i y, ys[i]? = some y → G i y H') → Q (.ref D) H') :
    bodyC (Itl K a) noIf te σf Q H1 :=
  body_items G hlen (fun i H s => ⟨fun hi => ⟨⟨xs, xs[i], s.seq hS, by simp [hi]⟩, fun x H' ⟨e, y⟩ => ⟨e, y xs (s.seq hS)⟩⟩, fun e => ⟨xs, s.seq hS, by omega⟩⟩) stable step fin
theorem body_tup {K : PySem.W.Frag} {a : Addr} {xs : List V} {te : TE} {σf : St} {Q : VK} {H1 : Hp} (hS : SqT K H1 a xs) (hlen : xs.length ≤ sizeLine) (G : Nat → V → Hp → Prop)
    (stable : ∀ i y H H', TupLe H H' → G i y H → G i y H')
    (step : ∀ i x H (R : VK), xs[i]? = some x → Same H1 H → (∀ y H', Same H H' → G i y H' → R y H') → te (some x :: σf) H R)
    (fin : ∀ D ys H', H1 D = none → Same H1 H' → H' D = some (.lst ys) → ys.length = xs.length → (∀ i y, ys[i]? = some y → G i y H') → Q (.ref D) H') :
    bodyC (Itt K a) noIf te σf Q H1 :=
  body_items G hlen (fun i H s => ⟨fun hi => ⟨⟨xs, xs[i], s.seqT hS, by simp [hi]⟩, fun x H' ⟨e, y⟩ => ⟨e, y xs (s.seqT hS)⟩⟩, fun e => ⟨xs, s.seqT hS, by omega⟩⟩) stable step fin
theorem body_rng {lo : Int} {n : Nat} {te : TE} {σf : St} {Q : VK} {H1 : Hp} (hlen : n ≤ sizeLine) (G : Nat → V → Hp → Prop)
    (stable : ∀ i y H H', TupLe H H' → G i y H → G i y H')
    (step : ∀ i H (R : VK), i < n → Same H1 H → (∀ y H', Same H H' → G i y H' → R y H') → te (some (.int (lo + i)) :: σf) H R)
    (fin : ∀ D ys H', H1 D = none → Same H1 H' → H' D = some (.lst ys) → ys.length = n → (∀ i y, ys[i]? = some y → G i y H') → Q (.ref D) H') :
    bodyC (Itr lo n) noIf te σf Q H1 :=
  body_items (xs := (List.range n).map fun (i : Nat) => V.int (lo + i)) G (by simpa using hlen)
    (fun i H s => ⟨fun hi => ⟨by simpa [Itr] using hi, fun x H' ⟨e, y⟩ => ⟨e, by
      have hi' : i < n := by simpa using hi
      rw [List.getElem?_map, List.getElem?_range hi', y]; rfl⟩⟩, fun e => by
        have : i = n := by simpa using e
        exact Nat.le_of_eq this.symm⟩) stable
    (fun i x H R hx => by
      have hi : i < n := by have := (List.getElem?_eq_some_iff.mp hx).1; simpa using this
      rw [List.getElem?_map, List.getElem?_range hi] at hx
      cases hx
      exact step i H R hi) (fun D ys H' a b c d => fin D ys H' a b c (by simpa using d))

/-! ### callees -/
/-- the name x is a def that keeps the promise sp, in k calls' room -/
def Callee (P : Program) (w : World) (K : PySem.W.Frag) (mg : Str → Option Value) (base : Heap) (x : Str) (k : Nat) (ps : List Str) (sp : Sp) : Prop :=
  ∃ f fd, FnOk P w K mg base CX0 k f fd ps sp ∧ Binds K fd ps [] ∧ PySem.W.keepIn K (.ref f) = true ∧ mg x = some (.ref f)
section
variable {X : Cx} {x : Str} {k k' : Nat} {ps : List Str} {sp : Sp} {e : Expr} {es : List Expr} {t : TA} {p pos : Pos}
theorem pe_callD (D : Callee X.prog X.w X.K X.mg X.base x k ps sp) (hr : Room k' X.A) (hk : k ≤ k') (hg : Gl X x) (ha : PA X (e :: es) t)
    (hdb : (x == ("__debug__" : Str)) = false := by decide) (he : starEach (e :: es) X.env = (false, eval e X.env) :: starEach es X.env := by rfl)
    (hpl : (backTo pos (starEach es X.env)).any (·.1) = false := by rfl) : PE X (.Call (.Name x p) (e :: es) [] pos) (tCall sp [] E0 t) := by
  obtain ⟨f, fd, F, b, kp, m⟩ := D
  exact pe_call F (hr.mono hk) hg m kp b .nil pass0 ha hdb he hpl
end
theorem iteFh {c : Bool} {A B : Prop} (h : c = false) (b : B) : if c = true then A else B := by rw [h]; exact iteF b
theorem iteTh {c : Bool} {A B : Prop} (h : c = true) (a : A) : if c = true then A else B := by rw [h]; exact iteT a
end L2
namespace L2
open PySem PySem.Spec PyProof.Rows
/-- what must be seen of a comprehension's scope within a def's scope, closed: «{}» shows it -/
structure CSc (osc : Scope) (N : List Str) (scope : Scope) (x : Str) (ys : List Str) (ix : List Nat) : Prop where
  kind : scope.kind = .function := by rfl
  nocell : ∀ z ∈ scope.names, z.2 ≠ .cell := by decide +kernel
  hx : scope.names.lookup x = some .local := by decide +kernel
  names : ∀ z ∈ scope.names, z.2 = .local → scope.names.lookup z.1 = some .local := by decide +kernel
  nd : (x :: ys).Nodup := by decide +kernel
  free : ∀ z ∈ scope.names, z.2 = .free → (osc.names.lookup z.1 = some .cell ∨ osc.names.lookup z.1 = some .free) := by decide +kernel
  ysf : ∀ y ∈ ys, scope.names.lookup y = some .free := by decide +kernel
  ysn : ∀ y ∈ ys, (osc.names.lookup y = some .cell ∨ osc.names.lookup y = some .free) := by decide +kernel
  ixs : ys.map some = ix.map (fun i => N[i]?) := by decide +kernel
theorem CScope.of {X : Cx} {osc : Scope} {N ps : List Str} {scope : Scope} {x : Str} {ys : List Str} {ix : List Nat} (S : FnScope N ps osc) (c : CSc osc N scope x ys ix) (e1 : X.env.scope = osc := by rfl) (e2 : X.N = N := by rfl) : CScope X scope x ys ix :=
  ⟨c.kind, c.nocell, c.hx, c.names, c.nd, fun z hz hf => by unfold Env.kindOf; rw [e1]; exact c.free z hz hf, c.ysf, fun y hy => by unfold Env.kindOf; rw [e1]; exact c.ysn y hy, by rw [e2]; exact c.ixs⟩
end L2
namespace L2
open PySem PySem.Spec PyProof.Rows
section
variable {X : Cx} {st : Stmt} {t : TS}
/-- a statement whose ways meet: C holds behind it on every way -/
def tJoin (t : TS) : TS := fun D σ H => ∃ C : St → Hp → Prop, t { D with nx := C } σ H ∧ ∀ σ' H', C σ' H' → D.nx σ' H'
theorem ps_join (h : PS X st t) : PS X st (tJoin t) := by
  intro pins s σ H D I hq
  obtain ⟨C, q1, q2⟩ := hq
  refine thn (h pins s σ H _ I q1) fun f s1 q => ?_
  cases f with
  | next => obtain ⟨σ', H', I', c⟩ := q; exact ⟨σ', H', I', q2 _ _ c⟩
  | ret v => exact q
  | brk => exact q
  | cont => exact q
/-- rules that name K, for use within a comprehension -/
theorem ix_listK {K : PySem.W.Frag} (h : X.K = K) : IxR X (rIxL K) := h ▸ ix_list
theorem ix_tupK {K : PySem.W.Frag} (h : X.K = K) : IxR X (rIxT K) := h ▸ ix_tup
theorem sl_tupK {K : PySem.W.Frag} (h : X.K = K) : SlR X (rSlT K) := h ▸ sl_tup
theorem op_notIn_seqK {K : PySem.W.Frag} (h : X.K = K) : OpR X (compareOp .NotIn) (rIn K true) := h ▸ op_notIn_seq
theorem call_len_seqK {K : PySem.W.Frag} (h : X.K = K) : CallR X (.builtin "len") (fun xs H Q => ∃ p ys, xs = [.ref p] ∧ (SqL K H p ys ∨ SqT K H p ys) ∧ Q (.int ys.length) H) := h ▸ call_len_seq
/-- isinstance(x, T), T a built-in type -/
def rIsI (K : PySem.W.Frag) : List V → Hp → VK → Prop := fun xs H Q => ∃ x T t b, xs = [x, .ty T] ∧ TyOf K H x t ∧ PySem.W.kitOne K t (.type T) = some b ∧ Q (.bl b) H
theorem call_isinst {K : PySem.W.Frag} (h : X.K = K) : CallR X (.builtin "isinstance") (rIsI K) := by
  subst h
  intro pins s σ H xs us Q I r q
  obtain ⟨x, T, t, b, rfl, ty, e, q⟩ := q
  obtain ⟨u, v, rfl, r1, r2⟩ := r.two
  cases r2
  exact isinst_ok I r1 ty e fun tk => ⟨.bl b, H, I.tok tk, rfl, q⟩
end
end L2

end
section
set_option Elab.async false
set_option linter.all false
set_option maxRecDepth 100000
namespace L2
open PySem PySem.Spec PyProof.Rows
/-- a comprehension over pairs: what must be seen of its scope -/
structure CScope2 (X : Cx) (scope : Scope) (x x2 : Str) (ys : List Str) (ix : List Nat) : Prop where
  kind : scope.kind = .function
  nocell : ∀ z ∈ scope.names, z.2 ≠ .cell
  hx : scope.names.lookup x = some .local
  hx2 : scope.names.lookup x2 = some .local
  names : ∀ z ∈ scope.names, z.2 = .local → scope.names.lookup z.1 = some .local
  nd : (x :: x2 :: ys).Nodup
  free : ∀ z ∈ scope.names, z.2 = .free → (X.env.kindOf z.1 = some .cell ∨ X.env.kindOf z.1 = some .free)
  ysf : ∀ y ∈ ys, scope.names.lookup y = some .free
  ysn : ∀ y ∈ ys, (X.env.kindOf y = some .cell ∨ X.env.kindOf y = some .free)
  ixs : ys.map some = ix.map (fun i => X.N[i]?)
structure CSc2 (osc : Scope) (N : List Str) (scope : Scope) (x x2 : Str) (ys : List Str) (ix : List Nat) : Prop where
  kind : scope.kind = .function := by rfl
  nocell : ∀ z ∈ scope.names, z.2 ≠ .cell := by decide +kernel
  hx : scope.names.lookup x = some .local := by decide +kernel
  hx2 : scope.names.lookup x2 = some .local := by decide +kernel
  names : ∀ z ∈ scope.names, z.2 = .local → scope.names.lookup z.1 = some .local := by decide +kernel
  nd : (x :: x2 :: ys).Nodup := by decide +kernel
  free : ∀ z ∈ scope.names, z.2 = .free → (osc.names.lookup z.1 = some .cell ∨ osc.names.lookup z.1 = some .free) := by decide +kernel
  ysf : ∀ y ∈ ys, scope.names.lookup y = some .free := by decide +kernel
  ysn : ∀ y ∈ ys, (osc.names.lookup y = some .cell ∨ osc.names.lookup y = some .free) := by decide +kernel
  ixs : ys.map some = ix.map (fun i => N[i]?) := by decide +kernel
section
variable {X : Cx} {pins : List (Addr × Obj)} {σ : St} {H : Hp} {s : Shared} {scope : Scope} {x x2 : Str} {ys : List Str} {ix : List Nat} {cl : List (Str × Addr)} {fp : List Addr}

end
/-- the turns: each thing is a tuple of two -/
def bodyT (K : PySem.W.Frag) (J : It) (tc : TT) (te : TE) (σf : St) (Q : VK) (H1 : Hp) : Prop :=
  ∀ D, H1 D = none → ∃ W : Nat → Nat → List V → Hp → Prop, (∃ m, W 0 m [] (upd H1 D (.lst []))) ∧ ∀ i m ys H, W i m ys H →
    ((J.stop i H ∧ Q (.ref D) H) ∨ (J.go i H ∧ ys.length < sizeLine ∧ ∃ N : List V → Hp → Prop, (∀ ys' H', N ys' H' → ∃ m', m' < m ∧ W (i + 1) m' ys' H') ∧
      ∀ x H', J.yld i H x H' → ∃ a xs, x = .ref a ∧ SqT K H' a xs ∧ ∃ v1 v2, xs = [v1, v2] ∧ tc (some v1 :: some v2 :: σf) H' fun b H2 => if b = true then te (some v1 :: some v2 :: σf) H2 fun y H3 => H3 D = some (.lst ys) ∧ N (ys ++ [y]) (upd H3 D (.lst (ys ++ [y]))) else N ys H2))
def tComp2 (K : PySem.W.Frag) (wi : TI) (ix : List Nat) (tc : TT) (te : TE) : TE := fun σ H Q => wi σ H fun J H1 => bodyT K J tc te (slotsC ix σ) Q H1
section
variable {X : Cx} {scope : Scope} {x x2 : Str} {ys : List Str} {ix : List Nat} {wi : TI} {tc : TT} {te : TE} {elt iter : Expr} {ifs : List Expr} {px px2 pt pos : Pos} {cl : List (Str × Addr)}


end
end L2

end
section
set_option Elab.async false
set_option linter.all false
set_option maxRecDepth 100000
/-! my own: words, as a datum; how the heap bears one; the law's helpers as Lean functions -/
namespace RR
open PySem L2

inductive Wd where
  | on | off | relay (k : Int) | button (k : Int) | nt (a : Wd) | an (a b : Wd) | or (a b : Wd)
deriving DecidableEq

/-- the heap bears the word at v -/
def WAt (H : Hp) : Wd → V → Prop
  | .on, v => ∃ p, v = .ref p ∧ H p = some (.tup [.str "on"])
  | .off, v => ∃ p, v = .ref p ∧ H p = some (.tup [.str "off"])
  | .relay k, v => ∃ p, v = .ref p ∧ H p = some (.tup [.str "relay", .int k])
  | .button k, v => ∃ p, v = .ref p ∧ H p = some (.tup [.str "button", .int k])
  | .nt a, v => ∃ p x, v = .ref p ∧ H p = some (.tup [.str "not", x]) ∧ WAt H a x
  | .an a b, v => ∃ p x y, v = .ref p ∧ H p = some (.tup [.str "and", x, y]) ∧ WAt H a x ∧ WAt H b y
  | .or a b, v => ∃ p x y, v = .ref p ∧ H p = some (.tup [.str "or", x, y]) ∧ WAt H a x ∧ WAt H b y
theorem WAt.mono {H H' : Hp} (h : TupLe H H') : ∀ {w : Wd} {v : V}, WAt H w v → WAt H' w v
  | .on, _, ⟨p, e, q⟩ => ⟨p, e, h _ _ q⟩
  | .off, _, ⟨p, e, q⟩ => ⟨p, e, h _ _ q⟩
  | .relay _, _, ⟨p, e, q⟩ => ⟨p, e, h _ _ q⟩
  | .button _, _, ⟨p, e, q⟩ => ⟨p, e, h _ _ q⟩
  | .nt _, _, ⟨p, x, e, q, a⟩ => ⟨p, x, e, h _ _ q, a.mono h⟩
  | .an _ _, _, ⟨p, x, y, e, q, a, b⟩ => ⟨p, x, y, e, h _ _ q, a.mono h, b.mono h⟩
  | .or _ _, _, ⟨p, x, y, e, q, a, b⟩ => ⟨p, x, y, e, h _ _ q, a.mono h, b.mono h⟩
def Wd.depth : Wd → Nat
  | .nt a => a.depth + 1
  | .an a b => max a.depth b.depth + 1
  | .or a b => max a.depth b.depth + 1
  | _ => 1
/-- its contacts are there -/
def Wd.ok (R B : Int) : Wd → Prop
  | .relay k => 0 ≤ k ∧ k < R
  | .button k => 0 ≤ k ∧ k < B
  | .nt a => a.ok R B
  | .an a b => a.ok R B ∧ b.ok R B
  | .or a b => a.ok R B ∧ b.ok R B
  | _ => True
def Wd.worth (st pr : List Bool) : Wd → Bool
  | .on => true
  | .off => false
  | .relay k => st.getD k.toNat false
  | .button k => pr.getD k.toNat false
  | .nt a => !a.worth st pr
  | .an a b => a.worth st pr && b.worth st pr
  | .or a b => a.worth st pr || b.worth st pr
theorem bools_at {st : List Bool} {k : Int} (h0 : 0 ≤ k) (h1 : k < st.length) : atI (st.map V.bl) k = some (.bl (st.getD k.toNat false)) := by
  obtain ⟨j, rfl⟩ : ∃ j : Nat, k = (j : Int) := ⟨k.toNat, by omega⟩
  have hk : j < st.length := by omega
  refine atI_nat ?_
  rw [List.getElem?_map, List.getElem?_eq_getElem hk, Int.toNat_natCast]
  simp [hk]

/-! ### the law's own helpers -/
def cellAt (ns : List Int) (k : Int) : Int := if k < ns.length then ns.getD k.toNat 0 else 0
def pick (ns : List Int) (k : Int) : Int := if k < ns.length then ns.getD k.toNat 0 else (cellAt ns 0 + 7 * k + 3) * 48271 % 2147483647 / 13
def mix1 (cell k : Int) : Int := (cell * 69621 + 7001 * k + 3) % 2147483629
def mix2 (m k : Int) : Int := (m * m + 39373 * m + k) % 2147483647
def mix3 (m k : Int) : Int := (m * m + 16807 * m + 7 * k) % 2147483587
def mix (cell k : Int) : Int := mix3 (mix2 (mix1 cell k) k) k
def leaf (m R B : Int) : Wd :=
  if m % (R + B + 1) < R then .relay (m % (R + B + 1)) else if m % (R + B + 1) < R + B then .button (m % (R + B + 1) - R) else if m / 64 % 2 = 0 then .on else .off
def lword (cell R B : Int) : Nat → Int → Wd
  | 0, k => leaf (mix cell k / 7 / 10) R B
  | d + 1, k =>
    if d = 0 ∨ mix cell k / 7 % 10 < 3 then leaf (mix cell k / 7 / 10) R B
    else if mix cell k / 7 % 10 < 5 then .nt (lword cell R B d (2 * k + 1))
    else if mix cell k / 7 % 10 % 2 = 0 then .an (lword cell R B d (2 * k + 1)) (lword cell R B d (2 * k + 2))
    else .or (lword cell R B d (2 * k + 1)) (lword cell R B d (2 * k + 2))
def bitsOf (n : Int) (size : Nat) : List Bool := (List.range size).map fun k => decide (n / 2 ^ k % 2 = 1)
def wrapN : Nat → Wd → Wd
  | 0, w => w
  | n + 1, w => .nt (wrapN n w)
def wraps (m : Int) : Nat := (m % 4 * (if m / 4 % 4 = 1 then 1 else 0)).toNat
theorem leaf_ok {m R B : Int} (hR : 1 ≤ R) (hB : 0 ≤ B) : (leaf m R B).ok R B := by
  have h0 : 0 ≤ m % (R + B + 1) := Int.emod_nonneg _ (by omega)
  unfold leaf
  split
  · exact ⟨h0, by assumption⟩
  · split
    · exact ⟨by omega, by omega⟩
    · split <;> trivial
theorem lword_ok {cell R B : Int} (hR : 1 ≤ R) (hB : 0 ≤ B) : ∀ (d : Nat) (k : Int), (lword cell R B d k).ok R B
  | 0, k => leaf_ok hR hB
  | d + 1, k => by
    unfold lword
    split
    · exact leaf_ok hR hB
    · split
      · exact lword_ok hR hB d _
      · split <;> exact ⟨lword_ok hR hB d _, lword_ok hR hB d _⟩
theorem leaf_depth {m R B : Int} : (leaf m R B).depth = 1 := by
  unfold leaf
  split
  · rfl
  · split
    · rfl
    · split <;> rfl
theorem lword_depth {cell R B : Int} : ∀ (d : Nat) (k : Int), (lword cell R B d k).depth ≤ max d 1
  | 0, k => by unfold lword; rw [leaf_depth]; omega
  | d + 1, k => by
    have a := lword_depth (cell := cell) (R := R) (B := B) d (2 * k + 1)
    have b := lword_depth (cell := cell) (R := R) (B := B) d (2 * k + 2)
    unfold lword
    split
    · rw [leaf_depth]; omega
    · rename_i h
      have hd : d ≠ 0 := fun z => h (.inl z)
      split
      · show Wd.depth _ + 1 ≤ _
        omega
      · split
        · show max (Wd.depth _) (Wd.depth _) + 1 ≤ _
          omega
        · show max (Wd.depth _) (Wd.depth _) + 1 ≤ _
          omega
theorem wrapN_ok {R B : Int} {w : Wd} (h : w.ok R B) : ∀ n, (wrapN n w).ok R B
  | 0 => h
  | n + 1 => wrapN_ok h n
theorem wrapN_depth (w : Wd) : ∀ n, (wrapN n w).depth = w.depth + n
  | 0 => rfl
  | n + 1 => by
    show (wrapN n w).depth + 1 = _
    rw [wrapN_depth w n]
    omega
theorem wraps_le (m : Int) : wraps m ≤ 3 := by
  unfold wraps
  have h1 : 0 ≤ m % 4 := Int.emod_nonneg _ (by decide)
  have h2 : m % 4 < 4 := Int.emod_lt_of_pos _ (by decide)
  split <;> omega
theorem bits_length (n : Int) (size : Nat) : (bitsOf n size).length = size := by unfold bitsOf; simp
theorem cell_get {ns : List Int} {k : Int} (h0 : 0 ≤ k) (h1 : k < ns.length) : atI (ns.map V.int) k = some (.int (ns.getD k.toNat 0)) := by
  obtain ⟨j, rfl⟩ : ∃ j : Nat, k = (j : Int) := ⟨k.toNat, by omega⟩
  have hk : j < ns.length := by omega
  refine atI_nat ?_
  rw [List.getElem?_map, List.getElem?_eq_getElem hk, Int.toNat_natCast]
  simp [hk]
end RR

end
section
set_option Elab.async false
set_option linter.all false
set_option maxRecDepth 100000
/-! my own: nested data in the heap, == and != over them; t + u of any tuples -/
namespace L2
open PySem PySem.Spec PyProof.Rows
mutual
/-- the heap bears the data at v -/
inductive DAt (K : PySem.W.Frag) (H : Hp) : PyData → V → Prop where
  | none : DAt K H .none .non
  | bool (b : Bool) : DAt K H (.bool b) (.bl b)
  | int (i : Int) : DAt K H (.int i) (.int i)
  | str (x : Str) : DAt K H (.str x) (.str x)
  | list {a : Addr} {xs : List V} {ds : List PyData} : SqL K H a xs → DsAt K H ds xs → DAt K H (.list ds) (.ref a)
  | tuple {a : Addr} {xs : List V} {ds : List PyData} : SqT K H a xs → DsAt K H ds xs → DAt K H (.tuple ds) (.ref a)
inductive DsAt (K : PySem.W.Frag) (H : Hp) : List PyData → List V → Prop where
  | nil : DsAt K H [] []
  | cons {d : PyData} {v : V} {ds : List PyData} {vs : List V} : DAt K H d v → DsAt K H ds vs → DsAt K H (d :: ds) (v :: vs)
end
section
variable {X : Cx} {pins : List (Addr × Obj)} {σ : St} {H : Hp} {s : Shared}
mutual
theorem DAt.reads (I : Inv X pins σ H s) : ∀ {d : PyData} {v : V} {u : Value}, DAt X.K H d v → RelV v u → ∃ as, Reads s.heap u d as
  | _, _, _, .none, r => by cases r; exact ⟨_, .none⟩
  | _, _, _, .bool b, r => by cases r; exact ⟨_, .bool b⟩
  | _, _, _, .int i, r => by obtain ⟨t, rfl⟩ := r; exact ⟨_, .int i t⟩
  | _, _, _, .str x, r => by obtain ⟨t, rfl⟩ := r; exact ⟨_, .str x t⟩
  | _, _, _, .list h hs, r => by
    cases r
    obtain ⟨its, rv, ⟨o, n, e1, e2, e3, e4⟩, _⟩ := I.list h
    obtain ⟨as, ra⟩ := DsAt.reads I hs rv
    exact ⟨_, .list e1 e2 e4 (by simpa using ra)⟩
  | _, _, _, .tuple h hs, r => by
    cases r
    obtain ⟨its, rv, ⟨o, e1, e2, n, e4⟩, _⟩ := I.tuple h
    obtain ⟨as, ra⟩ := DsAt.reads I hs rv
    exact ⟨_, .tuple e1 e2 e4 (by simpa using ra)⟩
theorem DsAt.reads (I : Inv X pins σ H s) : ∀ {ds : List PyData} {vs : List V} {us : List Value}, DsAt X.K H ds vs → Vals vs us → ∃ as, ReadsAll s.heap us ds as
  | _, _, _, .nil, .nil => ⟨_, .nil⟩
  | _, _, _, .cons h hs, .cons r rs => by
    obtain ⟨as, ra⟩ := DAt.reads I h r
    obtain ⟨bs, rb⟩ := DsAt.reads I hs rs
    exact ⟨_, .cons ra rb⟩
end
mutual
theorem DAt.mono {K : PySem.W.Frag} {H' : Hp} (hs : Same H H') : ∀ {d : PyData} {v : V}, DAt K H d v → DAt K H' d v
  | _, _, .none => .none
  | _, _, .bool b => .bool b
  | _, _, .int i => .int i
  | _, _, .str x => .str x
  | _, _, .list h r => .list (hs.seq h) (DsAt.mono hs r)
  | _, _, .tuple h r => .tuple (hs.seqT h) (DsAt.mono hs r)
theorem DsAt.mono {K : PySem.W.Frag} {H' : Hp} (hs : Same H H') : ∀ {ds : List PyData} {vs : List V}, DsAt K H ds vs → DsAt K H' ds vs
  | _, _, .nil => .nil
  | _, _, .cons h r => .cons (DAt.mono hs h) (DsAt.mono hs r)
end
theorem DsAt.map {K : PySem.W.Frag} {α : Type} {f : α → PyData} {g : α → V} (h : ∀ a, DAt K H (f a) (g a)) : ∀ (l : List α), DsAt K H (l.map f) (l.map g)
  | [] => .nil
  | a :: l => .cons (h a) (DsAt.map h l)
/-- == and != of data without dicts -/
def rEqD (K : PySem.W.Frag) (neg : Bool) : R2 := fun x y H Q => ∃ d e, DAt K H d x ∧ DAt K H e y ∧ d.canLay0 = true ∧ e.canLay0 = true ∧ (d.depth ≤ 64 ∨ e.depth ≤ 64) ∧ Q (.bl (if neg then !PyData.eqv d e else PyData.eqv d e)) H
theorem op_eqD {K : PySem.W.Frag} (h : X.K = K) (hu : X.A.units + 64 < cLine) : OpR X (compareOp .Eq) (rEqD K false) := by
  subst h
  intro pins s σ H x y v u Q I rx ry q
  obtain ⟨d, e, hd, he, cd, ce, dd, q⟩ := q
  obtain ⟨as, ra⟩ := hd.reads I rx
  obtain ⟨bs, rb⟩ := he.reads I ry
  exact SeqAt.rcAt_reads ra rb cd ce (by omega) X.prog X.w X.xe _ ⟨.bl _, H, I, rfl, q⟩
theorem op_neD {K : PySem.W.Frag} (h : X.K = K) (hu : X.A.units + 64 < cLine) : OpR X (compareOp .NotEq) (rEqD K true) := by
  subst h
  intro pins s σ H x y v u Q I rx ry q
  obtain ⟨d, e, hd, he, cd, ce, dd, q⟩ := q
  obtain ⟨as, ra⟩ := hd.reads I rx
  obtain ⟨bs, rb⟩ := he.reads I ry
  exact SeqAt.rcNeAt_reads ra rb cd ce (by omega) X.prog X.w X.xe _ ⟨.bl _, H, I, rfl, q⟩

/-! ### t + u, whatever they hold -/
theorem cat_empty {prog : Program} {w : World} {A : Around} {E : Value → Shared → Prop} {s : Shared} {t b : Addr} {ws : List Value} {Q : Value → Shared → Prop} (ht : IsTup s.heap t (#[] : Array Value)) (hb : IsTup s.heap b ws.toArray)
    (h : Q (.ref b) s) : wpAny (model prog w) A (binaryOp .Add (.ref t) (.ref b)) Q E s := by
  obtain ⟨⟨cls, dd, data, sl⟩, ho, hc, n, hd⟩ := id ht
  obtain ⟨⟨cls2, dd2, data2, sl2⟩, ho2, hc2, n2, hd2⟩ := id hb
  simp only at hc hd hc2 hd2
  subst hc hd hc2 hd2
  exact concat_meets ⟨_, ho, rfl⟩ ⟨_, ho2, rfl⟩ noFill_tuple_add seq_tuple_add PySem.F.slot_tuple_add PySem.F.entry_tuple_add (PySem.F.args_tuple_add_2 _ _)
    (tuple_addW0 t b #[] ws.toArray n n2 dd dd2 sl sl2 rfl) ⟨ho, ho2, h⟩
def rCatA : R2 := fun x y H Q => ∃ a b xs ys, x = .ref a ∧ y = .ref b ∧ H a = some (.tup xs) ∧ H b = some (.tup ys) ∧ xs.length + ys.length ≤ sizeLine ∧ ∀ p H', Same H H' → H' p = some (.tup (xs ++ ys)) → Q (.ref p) H'
theorem op_catA : OpR X (binaryOp .Add) rCatA := by
  intro pins s σ H x y v u Q I rx ry q
  obtain ⟨a, b, xs, ys, rfl, rfl, ha, hb, hz, q⟩ := q
  by_cases hx : xs = []
  · subst hx
    cases rx
    cases ry
    obtain ⟨its, r1, p1, _⟩ := I.tuple (SqT.of ha)
    obtain ⟨its2, r2, p2, _⟩ := I.tuple (SqT.of hb)
    cases r1
    exact cat_empty p1 p2 ⟨.ref b, H, I, rfl, q b H (Same.refl _) (by simpa using hb)⟩
  · exact op_catT pins s σ H _ _ v u Q I rx ry ⟨a, b, xs, ys, rfl, rfl, SqT.of ha, SqT.of hb, hx, hz, fun e => q a H (Same.refl _) (by rw [e, List.append_nil]; exact ha), fun _ p hp => q p _ (Same.new hp _) upd_same⟩
end
end L2
namespace L2
open PySem PySem.Spec PyProof.Rows
section
variable {X : Cx}
theorem vals_bools {bs : List Bool} : ∀ {us : List Value}, Vals (bs.map V.bl) us → us = bs.map Value.bool := by
  induction bs with
  | nil => intro us r; cases r; rfl
  | cons b bs ih =>
    intro us r
    rw [List.map_cons] at r
    cases r with
    | cons r1 r2 => cases r1; rw [ih r2]; rfl
theorem range_allG {α : Type} (l : List α) (f : α → Bool) (d : Bool) : ((List.range l.length).all fun i => (l[i]?.map f).getD d) = l.all f := by
  rw [Bool.eq_iff_iff]
  simp only [List.all_eq_true, List.mem_range]
  constructor
  · intro h x hx
    obtain ⟨i, hi, rfl⟩ := List.mem_iff_getElem.mp hx
    have := h i hi
    simpa [hi] using this
  · intro h i hi
    simp [hi]
    exact h _ (List.getElem_mem hi)
theorem keptI {s : Shared} {h' : Heap} {o : Obj} (hk : ∀ b x, b ∉ [s.heap.objs.size] → (s.heap.push o).get? b = some x → h'.get? b = some x) : ∀ b x, s.heap.get? b = some x → h'.get? b = some x :=
  fun b x e => hk b x (fun hm => Nat.lt_irrefl _ (Nat.lt_of_lt_of_eq (Heap.lt_size e) (List.mem_singleton.mp hm).symm)) (Heap.get?_push_of_some _ e)
/-- all(xs), any(xs) of a list of bools -/
theorem call_allB {K : PySem.W.Frag} (h : X.K = K) (hc : X.calm = true) : CallR X (.builtin "all") (fun xs H Q => ∃ (p : Addr) (bs : List Bool), xs = [.ref p] ∧ SqL K H p (bs.map V.bl) ∧ Q (.bl (bs.all id)) H) := by
  subst h
  intro pins s σ H xs us Q I r q
  obtain ⟨p, bs, rfl, hS, q⟩ := q
  obtain ⟨u, rfl, r1⟩ := r.one
  cases r1
  obtain ⟨its, rv, pl, hz⟩ := I.list hS
  obtain rfl := vals_bools rv
  have hl := pl.isList
  have hlt : p < s.heap.objs.size := by obtain ⟨_, e, _⟩ := hl; exact Heap.lt_size e
  refine call_all_walk (wpAny_pyIter_list hl ?_)
  refine ⟨s.heap.objs.size, [s.heap.objs.size, p], [s.heap.objs.size], (bs.map Value.bool).toArray.size, _, _, fun i => (bs[i]?.map id).getD true, rfl, Walks.list (A := X.A.in1) (I.ok.hd hc) _ p (Nat.ne_of_lt hlt) _,
    ⟨⟨_, Heap.get?_push_size _ rfl, rfl, rfl⟩, hl.push _⟩, fun i v s' Q' E' hP hQ => ?_, fun h' tk hk => ?_⟩
  · have hP' : (bs.map Value.bool)[i]? = some v := by simpa using hP
    rw [List.getElem?_map] at hP'
    cases e : bs[i]? with
    | none => rw [e] at hP'; cases hP'
    | some b =>
      rw [e] at hP'
      cases hP'
      simp only [e] at hQ
      exact wpAny_truthy_bool hQ
  · have e : ((List.range (bs.map Value.bool).toArray.size).all fun i => (bs[i]?.map id).getD true) = bs.all id := by
      rw [List.size_toArray, List.length_map]; exact range_allG bs id true
    rw [e]
    exact ⟨.bl _, H, I.kept (keptI hk), rfl, q⟩
end
end L2

end
section
set_option Elab.async false
set_option linter.all false
set_option maxRecDepth 100000
namespace RR
open PySem L2
def spCell (K : PySem.W.Frag) : Sp := fun vs H Q _ => ∃ a ns k, vs = [.ref a, .int k] ∧ SqL K H a (ns.map V.int) ∧ 0 ≤ k ∧ Q (.int (cellAt ns k)) H
def spPick (K : PySem.W.Frag) : Sp := fun vs H Q _ => ∃ a ns k, vs = [.ref a, .int k] ∧ SqL K H a (ns.map V.int) ∧ 0 ≤ k ∧ Q (.int (pick ns k)) H
def spMix : Sp := fun vs H Q _ => ∃ c k, vs = [.int c, .int k] ∧ Q (.int (mix c k)) H
def spLeaf : Sp := fun vs H Q _ => ∃ m R B, vs = [.int m, .int R, .int B] ∧ 1 ≤ R ∧ 0 ≤ B ∧ ∀ v H', Same H H' → WAt H' (leaf m R B) v → Q v H'
theorem at0 (x : V) (xs : List V) : atI (x :: xs) 0 = some x := atI_nat (j := 0) rfl
theorem at1 (x y : V) (xs : List V) : atI (x :: y :: xs) 1 = some y := atI_nat (j := 1) rfl
theorem at2 (x y z : V) (xs : List V) : atI (x :: y :: z :: xs) 2 = some z := atI_nat (j := 2) rfl
theorem sz {n : Nat} (h : n ≤ 1000) : n ≤ sizeLine := Nat.le_of_lt (small1000 h)
theorem no_calls {P : Program} {w : World} {K : PySem.W.Frag} {mg : Str → Option Value} {base : Heap} {f : Addr} {fd : FuncData} {k : Nat} {ps : List Str} {sp : Sp} (no : ∀ vs H Q E, ¬ sp vs H Q E) : FnOk P w K mg base CX0 k f fd ps sp :=
  ⟨fun vs H Q E h => absurd h (no vs H Q E), fun A outer s H args us vs Q E _ _ _ _ h => absurd h (no vs H Q E)⟩
/-- one of two written things -/
theorem two_at {x y : V} {m : Int} : (m % 2 = 0 ∧ atI [x, y] (m % 2) = some x) ∨ (m % 2 ≠ 0 ∧ atI [x, y] (m % 2) = some y) := by
  have h1 := Int.emod_nonneg m (show (2 : Int) ≠ 0 by decide)
  have h2 := Int.emod_lt_of_pos m (show (0 : Int) < 2 by decide)
  rcases (by omega : m % 2 = 0 ∨ m % 2 = 1) with e | e
  · exact .inl ⟨e, by rw [e]; exact at0 _ _⟩
  · exact .inr ⟨by omega, by rw [e]; exact at1 _ _ _⟩
def spWord (n : Nat) : Sp := fun vs H Q _ => ∃ (cell k R B : Int) (d : Nat), vs = [.int cell, .int k, .int d, .int R, .int B] ∧ d < n ∧ 1 ≤ R ∧ 0 ≤ B ∧ ∀ v H', Same H H' → WAt H' (lword cell R B d k) v → Q v H'
def spBits : Sp := fun vs H Q _ => ∃ (m : Int) (n : Nat), vs = [.int m, .int n] ∧ n ≤ 63 ∧ ∀ a H', Same H H' → H' a = some (.tup ((bitsOf m n).map V.bl)) → Q (.ref a) H'
def spWrapped : Sp := fun vs H Q _ => ∃ (v : V) (wd : Wd) (m : Int), vs = [v, .int m] ∧ WAt H wd v ∧ ∀ v' H', Same H H' → WAt H' (wrapN (wraps m) wd) v' → Q v' H'
/-- a list of words in the heap -/
def WsAt (H : Hp) (ws : List Wd) (vs : List V) : Prop := vs.length = ws.length ∧ ∀ (i : Nat) (v : V), vs[i]? = some v → ∃ wd, ws[i]? = some wd ∧ WAt H wd v
theorem WsAt.mono {H H' : Hp} {ws : List Wd} {vs : List V} (h : WsAt H ws vs) (t : TupLe H H') : WsAt H' ws vs := ⟨h.1, fun i v e => let ⟨wd, a, b⟩ := h.2 i v e; ⟨wd, a, b.mono t⟩⟩
def lboard (ns : List Int) (start R B : Int) (d : Nat) : List Wd := (List.range R.toNat).map fun (k : Nat) => lword (pick ns (start + k)) R B d k
def spBoard (K : PySem.W.Frag) : Sp := fun vs H Q _ => ∃ (a : Addr) (ns : List Int) (start R B : Int) (d : Nat), vs = [.ref a, .int start, .int R, .int B, .int d] ∧ SqL K H a (ns.map V.int) ∧ 0 ≤ start ∧ d < 10 ∧ 1 ≤ R ∧ R ≤ 63 ∧ 0 ≤ B ∧
  ∀ D us H', Same H H' → H' D = some (.lst us) → WsAt H' (lboard ns start R B d) us → Q (.ref D) H'
/-- what stands in a list by its places is that list -/
theorem list_ext {us : List V} {xs : List V} (hl : us.length = xs.length) (h : ∀ (i : Nat) (y : V), us[i]? = some y → xs[i]? = some y) : us = xs := by
  refine List.ext_getElem? fun i => ?_
  cases e : us[i]? with
  | some y => exact (h i y e).symm
  | none =>
    have := List.getElem?_eq_none_iff.mp e
    exact (List.getElem?_eq_none_iff.mpr (by omega)).symm
/-- the tuple of bools at a -/
def BAt (H : Hp) (a : Addr) (bs : List Bool) : Prop := H a = some (.tup (bs.map V.bl))
def rRelays (c : Int) : Int := if c / 5 % 9 = 1 then 6 else 1 + c % 5
def rButtons (c : Int) : Int := c / 45 % 5
def rDeep (c : Int) : Nat := (2 + c / 225 % 4).toNat
def roomBoard (ns : List Int) : List Wd :=
  let c := cellAt ns 0
  (List.range (rRelays c).toNat).map fun (k : Nat) => wrapN (wraps (mix c (70 + k) / 7)) (lword (pick ns (4 + k)) (rRelays c) (rButtons c) (rDeep c) k)
def roomPressed (ns : List Int) : List Bool := bitsOf (cellAt ns 1) (rButtons (cellAt ns 0)).toNat
def roomStand (ns : List Int) : List Bool := bitsOf (cellAt ns 2) (rRelays (cellAt ns 0)).toNat
theorem rRelays_in (c : Int) : 1 ≤ rRelays c ∧ rRelays c ≤ 6 := by
  unfold rRelays
  have h1 := Int.emod_nonneg c (show (5 : Int) ≠ 0 by decide)
  have h2 := Int.emod_lt_of_pos c (show (0 : Int) < 5 by decide)
  split <;> omega
theorem rButtons_in (c : Int) : 0 ≤ rButtons c ∧ rButtons c ≤ 4 := by
  unfold rButtons
  have h1 := Int.emod_nonneg (c / 45) (show (5 : Int) ≠ 0 by decide)
  have h2 := Int.emod_lt_of_pos (c / 45) (show (0 : Int) < 5 by decide)
  omega
theorem rDeep_in (c : Int) : 2 ≤ rDeep c ∧ rDeep c ≤ 5 ∧ (rDeep c : Int) = 2 + c / 225 % 4 := by
  unfold rDeep
  have h1 := Int.emod_nonneg (c / 225) (show (4 : Int) ≠ 0 by decide)
  have h2 := Int.emod_lt_of_pos (c / 225) (show (0 : Int) < 4 by decide)
  omega
theorem room_word {ns : List Int} {i : Nat} {wd : Wd} (h : (roomBoard ns)[i]? = some wd) : wd.ok (roomStand ns).length (roomPressed ns).length ∧ wd.depth ≤ 8 := by
  have hR := rRelays_in (cellAt ns 0)
  have hB := rButtons_in (cellAt ns 0)
  have hd := rDeep_in (cellAt ns 0)
  have hi : i < (rRelays (cellAt ns 0)).toNat := by
    have := (List.getElem?_eq_some_iff.mp h).1
    simpa [roomBoard] using this
  have e : wd = wrapN (wraps (mix (cellAt ns 0) (70 + i) / 7)) (lword (pick ns (4 + i)) (rRelays (cellAt ns 0)) (rButtons (cellAt ns 0)) (rDeep (cellAt ns 0)) i) := by
    have q : (roomBoard ns)[i]? = some (wrapN (wraps (mix (cellAt ns 0) (70 + i) / 7)) (lword (pick ns (4 + i)) (rRelays (cellAt ns 0)) (rButtons (cellAt ns 0)) (rDeep (cellAt ns 0)) i)) := by simp [roomBoard, hi]
    rw [q] at h
    cases h
    rfl
  have l1 : (roomStand ns).length = (rRelays (cellAt ns 0)).toNat := bits_length _ _
  have l2 : (roomPressed ns).length = (rButtons (cellAt ns 0)).toNat := bits_length _ _
  have l3 : ((roomStand ns).length : Int) = rRelays (cellAt ns 0) := by rw [l1]; omega
  have l4 : ((roomPressed ns).length : Int) = rButtons (cellAt ns 0) := by rw [l2]; omega
  rw [l3, l4, e]
  refine ⟨wrapN_ok (lword_ok hR.1 hB.1 _ _) _, ?_⟩
  rw [wrapN_depth]
  have a := wraps_le (mix (cellAt ns 0) (70 + i) / 7)
  have b := lword_depth (cell := pick ns (4 + i)) (R := rRelays (cellAt ns 0)) (B := rButtons (cellAt ns 0)) (rDeep (cellAt ns 0)) i
  omega
/-- a room: board, pressed, stand -/
def RoomAt (H : Hp) (ns : List Int) (p : Addr) : Prop := ∃ D us b c, H p = some (.tup [.ref D, .ref b, .ref c]) ∧ H D = some (.lst us) ∧ WsAt H (roomBoard ns) us ∧ BAt H b (roomPressed ns) ∧ BAt H c (roomStand ns)
def spRoom (K : PySem.W.Frag) : Sp := fun vs H Q _ => ∃ (a : Addr) (ns : List Int), vs = [.ref a] ∧ SqL K H a (ns.map V.int) ∧ ∀ p H', Same H H' → RoomAt H' ns p → Q (.ref p) H'
def spWorth (n : Nat) : Sp := fun vs H Q _ => ∃ (v : V) (wd : Wd) (a b : Addr) (st pr : List Bool), vs = [v, .ref a, .ref b] ∧ WAt H wd v ∧ BAt H a st ∧ BAt H b pr ∧ wd.ok st.length pr.length ∧ wd.depth ≤ n ∧ Q (.bl (wd.worth st pr)) H
def spLWorth (n : Nat) : Sp := fun vs H Q _ => ∃ (v : V) (wd : Wd) (a b : Addr) (st pr : List Bool), vs = [v, .ref a, .ref b] ∧ WAt H wd v ∧ BAt H a st ∧ BAt H b pr ∧ wd.ok st.length pr.length ∧ wd.depth ≤ n ∧ ∀ H', Same H H' → Q (.bl (wd.worth st pr)) H'
theorem depth_pos (wd : Wd) : 1 ≤ wd.depth := by
  cases wd <;> simp [Wd.depth]
/-- a word with parts -/
def Parts (H : Hp) (wd : Wd) (v : V) (kd : Str) (ws : List Wd) (xs : List V) (p : Addr) : Prop :=
  v = .ref p ∧ H p = some (.tup (.str kd :: xs)) ∧ WsAt H ws xs ∧ 1 ≤ ws.length ∧ ws.length ≤ 2 ∧
    ((kd = "not" ∧ ∃ x, ws = [x] ∧ wd = .nt x) ∨ (kd = "and" ∧ ∃ x y, ws = [x, y] ∧ wd = .an x y) ∨ (kd = "or" ∧ ∃ x y, ws = [x, y] ∧ wd = .or x y))
theorem ws_one {H : Hp} {x : Wd} {v : V} (h : WAt H x v) : WsAt H [x] [v] := ⟨rfl, fun i y e => by
  cases i with
  | zero => cases e; exact ⟨x, rfl, h⟩
  | succ i => simp at e⟩
theorem ws_two {H : Hp} {x y : Wd} {v u : V} (h : WAt H x v) (h' : WAt H y u) : WsAt H [x, y] [v, u] := ⟨rfl, fun i z e => by
  cases i with
  | zero => cases e; exact ⟨x, rfl, h⟩
  | succ i =>
    cases i with
    | zero => cases e; exact ⟨y, rfl, h'⟩
    | succ i => simp at e⟩
inductive Seen (H : Hp) (wd : Wd) (v : V) : Prop where
  | on (e : wd = .on) | off (e : wd = .off) | relay (k : Int) (e : wd = .relay k) | button (k : Int) (e : wd = .button k)
  | parts (kd : Str) (ws : List Wd) (xs : List V) (p : Addr) (h : Parts H wd v kd ws xs p)
theorem seen {H : Hp} {wd : Wd} {v : V} (h : WAt H wd v) : Seen H wd v := by
  cases wd with
  | on => exact .on rfl
  | off => exact .off rfl
  | relay k => exact .relay k rfl
  | button k => exact .button k rfl
  | nt x => obtain ⟨p, vx, e, hp, hx⟩ := h; exact .parts "not" [x] [vx] p ⟨e, hp, ws_one hx, by simp, by simp, .inl ⟨rfl, x, rfl, rfl⟩⟩
  | an x y => obtain ⟨p, vx, vy, e, hp, hx, hy⟩ := h; exact .parts "and" [x, y] [vx, vy] p ⟨e, hp, ws_two hx hy, by simp, by simp, .inr (.inl ⟨rfl, x, y, rfl, rfl⟩)⟩
  | or x y => obtain ⟨p, vx, vy, e, hp, hx, hy⟩ := h; exact .parts "or" [x, y] [vx, vy] p ⟨e, hp, ws_two hx hy, by simp, by simp, .inr (.inr ⟨rfl, x, y, rfl, rfl⟩)⟩
theorem parts_in {H : Hp} {wd : Wd} {v : V} {kd : Str} {ws : List Wd} {xs : List V} {p : Addr} (h : Parts H wd v kd ws xs p) {R B : Int} {n : Nat} (hok : wd.ok R B) (hd : wd.depth ≤ n + 1) : ∀ x ∈ ws, x.ok R B ∧ x.depth ≤ n := by
  obtain ⟨_, _, _, _, _, ⟨_, x, rfl, rfl⟩ | ⟨_, x, y, rfl, rfl⟩ | ⟨_, x, y, rfl, rfl⟩⟩ := h
  · intro z hz
    obtain rfl : z = x := by simpa using hz
    exact ⟨hok, by simp [Wd.depth] at hd; omega⟩
  · intro z hz
    have hd : max x.depth y.depth + 1 ≤ n + 1 := hd
    rcases List.mem_cons.mp hz with rfl | hz
    · exact ⟨hok.1, by omega⟩
    · obtain rfl : z = y := by simpa using hz
      exact ⟨hok.2, by omega⟩
  · intro z hz
    have hd : max x.depth y.depth + 1 ≤ n + 1 := hd
    rcases List.mem_cons.mp hz with rfl | hz
    · exact ⟨hok.1, by omega⟩
    · obtain rfl : z = y := by simpa using hz
      exact ⟨hok.2, by omega⟩
theorem parts_kd {H : Hp} {wd : Wd} {v : V} {kd : Str} {ws : List Wd} {xs : List V} {p : Addr} (h : Parts H wd v kd ws xs p) : V.str kd ≠ V.str "on" ∧ V.str kd ≠ V.str "off" ∧ V.str kd ≠ V.str "relay" ∧ V.str kd ≠ V.str "button" := by
  obtain ⟨_, _, _, _, _, ⟨rfl, _⟩ | ⟨rfl, _⟩ | ⟨rfl, _⟩⟩ := h <;> decide +kernel
end RR

end
section
set_option Elab.async false
set_option linter.all false
set_option maxRecDepth 100000
namespace RR
open PySem L2
/-! ### all rows of bools, by their numbers -/
def allRows : Nat → List (List Bool)
  | 0 => [[]]
  | n + 1 => (allRows n).map (· ++ [false]) ++ (allRows n).map (· ++ [true])
theorem allRows_len : ∀ n, (allRows n).length = 2 ^ n
  | 0 => rfl
  | n + 1 => by
    show ((allRows n).map (· ++ [false]) ++ (allRows n).map (· ++ [true])).length = _
    rw [List.length_append, List.length_map, List.length_map, allRows_len n, Nat.pow_succ]
    omega
/-- rows in the heap -/
def RowsAt (H : Hp) (bss : List (List Bool)) (us : List V) : Prop := us.length = bss.length ∧ ∀ (i : Nat) (v : V), us[i]? = some v → ∃ bs a, bss[i]? = some bs ∧ v = .ref a ∧ BAt H a bs
def spAllRows : Sp := fun vs H Q _ => ∃ n : Nat, vs = [.int n] ∧ n ≤ 6 ∧ ∀ D us H', Same H H' → H' D = some (.lst us) → RowsAt H' (allRows n) us → Q (.ref D) H'
/-! ### the first place at which two words differ -/
def differ (w1 w2 : Wd) (st pr : List Bool) : Option (List Bool × List Bool) := if w1.worth st pr = w2.worth st pr then none else some (st, pr)
def diff1 (w1 w2 : Wd) (R : Nat) (pr : List Bool) : Option (List Bool × List Bool) := (allRows R).findSome? fun st => differ w1 w2 st pr
def diffs (w1 w2 : Wd) (R B : Nat) : Option (List Bool × List Bool) := (allRows B).findSome? fun pr => diff1 w1 w2 R pr
def numDiff (w1 w2 : Wd) (R B m : Nat) : Option (List Bool × List Bool) := differ w1 w2 (bitsOf (m : Int) R) (bitsOf ((m : Int) / 2 ^ R) B)
/-- what unlike tells -/
def ToldAt (H : Hp) (o : Option (List Bool × List Bool)) (v : V) : Prop := match o with
  | none => v = .non
  | some (st, pr) => ∃ p a b, v = .ref p ∧ H p = some (.tup [.ref a, .ref b]) ∧ BAt H a st ∧ BAt H b pr
def spUnlike (n : Nat) : Sp := fun vs H Q _ => ∃ (v1 v2 : V) (w1 w2 : Wd) (R B : Nat), vs = [v1, v2, .int R, .int B] ∧ WAt H w1 v1 ∧ WAt H w2 v2 ∧ R ≤ 6 ∧ B ≤ 6 ∧ w1.ok R B ∧ w2.ok R B ∧ w1.depth ≤ n ∧ w2.depth ≤ n ∧
  ∀ v H', Same H H' → ToldAt H' (diffs w1 w2 R B) v → Q v H'
end RR
namespace RR
open PySem L2
def spIsStand : Sp := fun vs H Q _ => ∃ (a : Addr) (bs : List Bool) (n : Nat), vs = [.ref a, .int n] ∧ BAt H a bs ∧ bs.length = n ∧ n ≤ 63 ∧ ∀ H', Same H H' → Q (.bl true) H'
def turned (w : Wd) (c : Int) : Wd :=
  if c % 5 = 0 then .nt (.nt w) else if c % 5 = 1 then .or w (.an w .off) else match w with
    | .an a b => .nt (.or (.nt a) (.nt b))
    | .or a b => .or b a
    | w => .an .on w
def spTurned : Sp := fun vs H Q _ => ∃ (v : V) (wd : Wd) (c : Int), vs = [v, .int c] ∧ WAt H wd v ∧ ∀ v' H', Same H H' → WAt H' (turned wd c) v' → Q v' H'
end RR

end
section
set_option Elab.async false
set_option linter.all false
set_option maxRecDepth 100000
set_option maxHeartbeats 1000000
/-! my own: exceptions of own classes: raised, passing through a def, caught -/
namespace L2
open PySem PySem.Spec PyProof.Rows
open PySem.W (hideAll of_hideAll hideAll_get hideAll_none funFrames_hide)

/-- how an exception lies behind a call: B is all that stays as it is while it flies -/
def CXr (P : Program) (w : World) : CXT := fun outer H s E e s' => ∃ (a C t : Addr) (H' : Hp) (B : Heap), e = .ref a ∧ Heap.FlyingW B outer a (.ref C) (.ref t) s'.heap ∧ s'.os = s.os ∧ AllBare s'.gens ∧
  Un (frs outer) [] H H' s.heap s'.heap ∧ HOk P w H' s'.heap ∧ (∀ b o, H' b = some o → ∀ u, s'.heap.get? b = some u → B.get? b = some u) ∧
  (∀ b o, s.heap.get? b = some o → H b = none → b ∉ frs outer → B.get? b = some o) ∧ (∀ b o, s.heap.get? b = some o → b ∉ frs outer → ∃ o', B.get? b = some o') ∧ H' a = none ∧ E (.ref C) none H'


section
variable {P : Program} {w : World} {K : PySem.W.Frag} {mg : Str → Option Value} {base : Heap} {N : List Str} {qual : Str} {scope : Scope} {f : Addr} {cd : Value} {A : Around} {outer : List Env} {s0 : Shared} {H0 : Hp} {E : XK}



end
end L2

end
section
set_option Elab.async false
set_option linter.all false
set_option maxRecDepth 100000
set_option maxHeartbeats 2000000
/-! my own: isinstance(e, C) of an exception of an own class -/
namespace L2
open PySem PySem.W PySem.Spec PySem.Calls PyProof.Rows
open PySem.Builtin.ObjectAttr
open PySem.Builtin PySem.Builtin.Getset_descriptor
section
variable {K : Frag} {M : Model} {h : Heap} {x C : Addr} {name : Str} {a g : Value}
end
section
variable {prog : Program} {w : World} {A : Around} {E : Value → Shared → Prop} {s : Shared} {K : Frag} {x C : Addr} {ox : Obj} {R : Result → Shared → Prop}
/-- what must be seen of an own exception class: its attributes are read as every exception's -/
structure ExcGet (K : Frag) (C : Addr) : Prop where
  ga : findIn K (.ref C) "__getattribute__" = some (some (.builtin "BaseException.__getattribute__"))
  gt : findIn K (.ref C) "__getattr__" = some none
  cl : findIn K (.ref C) "__class__" = some (some (.builtin "object.__class__"))
  gg : specialIn K (.builtin "object.__class__") "__get__" = some (some (.builtin "getset_descriptor.__get__"))
  tk : takesIn K (.builtin "object.__class__") = some true
  ob : mroIn K C (.type "object") = some true
  be : mroIn K C (.type "BaseException") = some true
end
end L2

end
section
set_option Elab.async false
set_option linter.all false
set_option maxRecDepth 100000
set_option maxHeartbeats 2000000
namespace L2
open PySem PySem.W PySem.Spec PySem.Calls PyProof.Rows
/-! ### the exception as a thing in the heap -/
def exφ (a C : Addr) : Heap → Prop := fun h => ∃ o, h.get? a = some o ∧ o.cls = .ref C
abbrev ExcO (a C : Addr) : HO := .ext (exφ a C)
section
variable {K : Frag} {x C : Addr}
end
def clsV : V → Option Value
  | .ref D => some (.ref D)
  | .ty n => some (.type n)
  | _ => none
section
variable {X : Cx}
/-- isinstance(e, C) of an exception that was caught -/
def rIsX (K : Frag) : List V → Hp → VK → Prop := fun xs H Q => ∃ a C c cv b, xs = [.ref a, c] ∧ H a = some (ExcO a C) ∧ ExcGet K C ∧ clsV c = some cv ∧ kitOne K (.ref C) cv = some b ∧ Q (.bl b) H
end

/-! ### a thing that stood untracked is tracked from here on -/
section
variable {X : Cx} {pins : List (Addr × Obj)} {σ : St} {H : Hp} {s : Shared}
end

/-! ### within an except suite -/
def Cx.inExc (X : Cx) (a : Addr) : Cx := { X with A := X.A.mark (some (.ref a)), calm := false, xe := fun _ _ => False }
section
variable {X : Cx} {pins : List (Addr × Obj)} {σ : St} {H : Hp} {s : Shared} {a : Addr}
end

/-! ### own exception classes, straight or not under ValueError -/
abbrev VErr : List Value := [.type "ValueError", .type "Exception", .type "BaseException", .type "object"]
structure ExcC (K : Frag) (mg : Str → Option Value) (x : Str) (C : Addr) : Prop where
  nm : mg x = some (.ref C)
  ex : excIn K C VErr "ValueError.__new__" = true
  get : ExcGet K C

section
variable {P : Program} {w : World} {K : Frag} {mg : Str → Option Value} {base : Heap} {N : List Str} {qual : Str} {scope : Scope} {f : Addr} {cd : Value} {A : Around} {outer : List Env} {s0 : Shared} {H0 : Hp} {E : XK}
/-- raise C(e, ..) out of a def -/
def tRaise (C : Addr) (E : XK) (ta : TA) : TS := fun _ σ H => ta σ H fun vs H1 => vs.length ≤ sizeLine ∧ E (.ref C) none H1
end
end L2

end
section
set_option Elab.async false
set_option linter.all false
set_option maxRecDepth 100000
set_option maxHeartbeats 2000000
namespace L2
open PySem PySem.W PySem.Spec PySem.Calls PyProof.Rows

/-- what is wanted of an exception at a try: caught, then the suite -/
def EXtry (K : Frag) (Cr : Addr) (j : Nat) (th : TS) (D : Ends) (σ : St) : XK := fun C _ H' => ∃ Ca, C = .ref Ca ∧ excIn K Ca VErr "ValueError.__new__" = true ∧ mroIn K Ca (.ref Cr) = some true ∧
  ∀ a, H' a = none → th { nx := fun σ' H'' => D.nx (σ'.set j none) H'', rt := D.rt, bk := fun σ' H'' => D.bk (σ'.set j none) H'', ct := fun σ' H'' => D.ct (σ'.set j none) H'' } (σ.set j (some (.ref a))) (upd H' a (ExcO a Ca))

section
variable {X : Cx} {pins : List (Addr × Obj)} {σ : St} {H : Hp} {s s' : Shared} {D : Ends} {Cr : Addr} {j : Nat} {th : TS} {e : Value} {xr n : Str} {rp hpos : Pos} {b₀ : Stmt} {suite : List Stmt} {fx fy : Str}


/-- a callee that may raise -/
def CalleeX (P : Program) (w : World) (K : Frag) (mg : Str → Option Value) (base : Heap) (x : Str) (k : Nat) (ps : List Str) (sp : Sp) : Prop :=
  ∃ f fd, FnOk P w K mg base (CXr P w) k f fd ps sp ∧ Binds K fd ps [] ∧ keepIn K (.ref f) = true ∧ mg x = some (.ref f)
/-- try: y = f(..) except C as n: suite -/
def tTry (K : Frag) (Cr : Addr) (i j : Nat) (sp : Sp) (ta : TA) (th : TS) : TS := fun D σ H => ta σ H fun vs H1 => sp vs H1 (fun v H2 => D.nx (σ.set i (some v)) H2) (EXtry K Cr j th D σ)
end
end L2

end
section
set_option Elab.async false
set_option linter.all false
set_option maxRecDepth 100000
set_option maxHeartbeats 2000000
/-! my own: max of a list of ints, with a default or without -/
namespace L2
open PySem PySem.W PySem.Spec PySem.Calls PyProof.Rows
theorem best_is {val : Nat → Int} : ∀ k, argBest (fun i j => decide (val i > val j)) k ≤ k ∧ ∀ i, i ≤ k → val i ≤ val (argBest (fun i j => decide (val i > val j)) k)
  | 0 => ⟨Nat.le_refl _, fun i hi => by have : i = 0 := by omega
                                        subst this; exact Int.le_refl _⟩
  | k + 1 => by
    obtain ⟨h1, h2⟩ := best_is (val := val) k
    unfold argBest
    by_cases c : val (k + 1) > val (argBest (fun i j => decide (val i > val j)) k)
    · rw [if_pos (decide_eq_true c)]
      refine ⟨Nat.le_refl _, fun i hi => ?_⟩
      by_cases e : i = k + 1
      · subst e; exact Int.le_refl _
      · have := h2 i (by omega); omega
    · rw [if_neg (by simpa using c)]
      refine ⟨by omega, fun i hi => ?_⟩
      by_cases e : i = k + 1
      · subst e; omega
      · exact h2 i (by omega)
section
variable {prog : Program} {w : World} {A : Around} {R : Result → Shared → Prop} {I S : Addr} {fp wr : List Addr} {n : Nat} {P : Nat → Value → Prop} {St : Nat → Heap → Prop} {kw : List (Str × Value)} {bt : Nat → Nat → Bool}
end
section
variable {X : Cx}
theorem ints_get {ns : List Int} {us : List Value} (r : Vals (ns.map V.int) us) {i : Nat} {v : Value} (h : us.toArray[i]? = some v) : ∃ t, v = .int (ns.getD i 0) t := by
  have hi : i < ns.length := by
    have := (Array.getElem?_eq_some_iff.mp h).1
    have e := r.length
    simp at this e
    omega
  obtain ⟨u, hu, ru⟩ := r.get (i := i) (x := .int ns[i]) (by simp [hi])
  have hv : us[i]? = some v := by simpa using h
  rw [hu] at hv
  cases hv
  obtain ⟨t, rfl⟩ := ru
  exact ⟨t, by simp [hi]⟩
/-- max(xs) of a list of ints that is not empty -/
theorem call_maxL {K : Frag} (hK : X.K = K) (hc : X.calm = true) : CallR X (.builtin "max") (fun xs H Q => ∃ (p : Addr) (ns : List Int), xs = [.ref p] ∧ SqL K H p (ns.map V.int) ∧ ns ≠ [] ∧ ∀ m, m ∈ ns → (∀ x ∈ ns, x ≤ m) → Q (.int m) H) := by
  subst hK
  intro pins s σ H xs us Q I r q
  obtain ⟨p, ns, rfl, hS, hne, q⟩ := q
  obtain ⟨u, rfl, r1⟩ := r.one
  cases r1
  obtain ⟨its, rv, pl, hz⟩ := I.list hS
  have hl := pl.isList
  have hlt : p < s.heap.objs.size := by obtain ⟨_, e, _⟩ := hl; exact Heap.lt_size e
  have len : its.toArray.size = ns.length := by have := rv.length; simp at this ⊢; omega
  have pos : 0 < ns.length := List.length_pos_iff.mpr hne
  refine call_max_walk (wpAny_pyIter_list hl ?_)
  refine ⟨s.heap.objs.size, [s.heap.objs.size, p], [s.heap.objs.size], its.toArray.size, _, _, _, rfl, Walks.list (A := X.A.in1) (I.ok.hd hc) _ p (Nat.ne_of_lt hlt) _,
    ⟨⟨_, Heap.get?_push_size _ rfl, rfl, rfl⟩, hl.push _⟩, fun b hb => ?_, by omega, CmpOf.ints_gt (fun i => ns.getD i 0) (fun i v h => ints_get rv h), fun v h' tk hP hk => ?_⟩
  · show b < (s.heap.push _).objs.size
    rw [Heap.size_push]
    rcases List.mem_cons.mp hb with z | hb
    · rw [z]; exact Nat.lt_succ_self _
    · rcases List.mem_cons.mp hb with z | hb
      · rw [z]; exact Nat.lt_succ_of_lt hlt
      · cases hb
  · obtain ⟨t, rfl⟩ := ints_get rv hP
    obtain ⟨b1, b2⟩ := best_is (val := fun i => ns.getD i 0) (its.toArray.size - 1)
    generalize argBest (fun i j => decide (ns.getD i 0 > ns.getD j 0)) (its.toArray.size - 1) = m at *
    have hm : m < ns.length := by omega
    refine ⟨.int (ns.getD m 0), H, I.kept (keptI hk), ⟨_, rfl⟩, q _ (by simp [hm]) fun x hx => ?_⟩
    obtain ⟨i, hi, rfl⟩ := List.mem_iff_getElem.mp hx
    have := b2 i (by omega)
    simpa [hi, hm] using this

/-- max(xs, default=d) -/
def tMaxD (K : Frag) (ta tk : TA) : TE := fun σ H Q => ta σ H fun vs H1 => tk σ H1 fun zs H2 => ∃ (p : Addr) (ns : List Int) (d : Int), vs = [.ref p] ∧ zs = [.int d] ∧ SqL K H2 p (ns.map V.int) ∧ (ns = [] → Q (.int d) H2) ∧ (ns ≠ [] → ∀ m, m ∈ ns → (∀ x ∈ ns, x ≤ m) → Q (.int m) H2)
end
end L2
namespace L2
open PySem PySem.W PySem.Spec PySem.Calls PyProof.Rows
theorem Paired.mono' {α β : Type} {F G : α → β → Prop} (h : ∀ a b, F a b → G a b) : ∀ {l : List α} {r : List β}, Paired F l r → Paired G l r
  | _, _, .nil => .nil
  | _, _, .cons a t => .cons (h _ _ a) (Paired.mono' h t)
/-- with an if: keep says of a place whether it stays -/
theorem body_itemsF {J : It} {xs : List V} {tc : TT} {te : TE} {σf : St} {Q : VK} {H1 : Hp} (keep : Nat → Bool) (G : Nat → V → Hp → Prop) (hlen : xs.length ≤ sizeLine)
    (hJ : ∀ i H, Same H1 H → (i < xs.length → J.go i H ∧ ∀ x H', J.yld i H x H' → H' = H ∧ xs[i]? = some x) ∧ (i = xs.length → J.stop i H))
    (stable : ∀ i y H H', TupLe H H' → G i y H → G i y H')
    (test : ∀ i x H (R : Bool → Hp → Prop), xs[i]? = some x → Same H1 H → (∀ H', Same H H' → R (keep i) H') → tc (some x :: σf) H R)
    (step : ∀ i x H (R : VK), xs[i]? = some x → keep i = true → Same H1 H → (∀ y H', Same H H' → G i y H' → R y H') → te (some x :: σf) H R)
    (fin : ∀ D ys H', H1 D = none → Same H1 H' → H' D = some (.lst ys) → Paired (fun i y => G i y H') ((List.range xs.length).filter keep) ys → Q (.ref D) H') :
    bodyC J tc te σf Q H1 := by
  intro D hD
  refine ⟨fun i m ys H => m = xs.length - i ∧ i ≤ xs.length ∧ ys.length ≤ i ∧ Same H1 H ∧ H D = some (.lst ys) ∧ Paired (fun j y => G j y H) ((List.range i).filter keep) ys,
    ⟨xs.length, by simp, Nat.zero_le _, Nat.le_refl _, Same.new hD _, upd_same, .nil⟩, ?_⟩
  rintro i m ys H ⟨rfl, hi, hl, hS, hH, hG⟩
  obtain ⟨j1, j2⟩ := hJ i H hS
  by_cases hlt : i < xs.length
  · obtain ⟨go, yl⟩ := j1 hlt
    refine .inr ⟨go, by omega, fun ys' H' => ys'.length ≤ i + 1 ∧ Same H1 H' ∧ H' D = some (.lst ys') ∧ Paired (fun j y => G j y H') ((List.range (i + 1)).filter keep) ys', fun ys' H' ⟨a, b, c, d⟩ => ⟨xs.length - (i + 1), by omega, rfl, hlt, a, b, c, d⟩, fun x H' y => ?_⟩
    obtain ⟨rfl, hx⟩ := yl x H' y
    refine test i x _ _ hx hS fun H2 hS2 => ?_
    cases hk : keep i with
    | false =>
      refine iteF ⟨by omega, hS.trans hS2, hS2 _ _ hH, ?_⟩
      rw [List.range_succ, List.filter_append]
      simp only [List.filter_cons, hk, Bool.false_eq_true, if_false, List.filter_nil, List.append_nil]
      exact Paired.mono' (fun a b h => stable a b _ _ hS2.tup h) hG
    | true =>
      refine iteT (step i x H2 _ hx hk (hS.trans hS2) fun y H3 hS3 hg => ?_)
      have hD3 := hS3 _ _ (hS2 _ _ hH)
      have tl : TupLe H3 (upd H3 D (.lst (ys ++ [y]))) := tup_upd fun zs q => by rw [hD3] at q; cases q
      refine ⟨hD3, by simp; omega, ((hS.trans hS2).trans hS3).updNew hD, upd_same, ?_⟩
      rw [List.range_succ, List.filter_append]
      simp only [List.filter_cons, hk, if_true, List.filter_nil]
      exact Paired.snoc (Paired.mono' (fun a b h => stable a b _ _ ((hS2.trans hS3).tup.trans tl) h) hG) (stable i y _ _ tl hg)
  · have e : i = xs.length := by omega
    subst e
    exact .inl ⟨j2 rfl, fin D ys H hD hS hH hG⟩
end L2

end
section
set_option Elab.async false
set_option linter.all false
set_option maxRecDepth 100000
set_option maxHeartbeats 4000000
namespace RR
open PySem L2
def Wd.parts : Wd → List Wd
  | .nt a => [a]
  | .an a b => [a, b]
  | .or a b => [a, b]
  | _ => []
def Wd.okB (R B : Int) : Wd → Bool
  | .relay k => decide (0 ≤ k) && decide (k < R)
  | .button k => decide (0 ≤ k) && decide (k < B)
  | .nt a => a.okB R B
  | .an a b => a.okB R B && b.okB R B
  | .or a b => a.okB R B && b.okB R B
  | _ => true
def spParts : Sp := fun vs H Q _ => ∃ v wd, vs = [v] ∧ WAt H wd v ∧ ∀ p xs H', Same H H' → H' p = some (.tup xs) → WsAt H' wd.parts xs → Q (.ref p) H'
def spDeeper (n : Nat) : Sp := fun vs H Q _ => ∃ (v : V) (wd : Wd) (d : Nat), vs = [v, .int d] ∧ WAt H wd v ∧ d < n ∧ ∀ H', Same H H' → Q (.bl (decide (d < wd.depth))) H'
def spLacks (n : Nat) : Sp := fun vs H Q _ => ∃ (v : V) (wd : Wd) (R B : Int), vs = [v, .int R, .int B] ∧ WAt H wd v ∧ wd.depth ≤ n ∧ ∀ H', Same H H' → Q (.bl (!wd.okB R B)) H'
/-- the refusal that is due: 0 TooMany, 1 Deep, 2 NoContact -/
def dueOf (ws : List Wd) (b : Int) : Option Nat :=
  if ws.length < 1 ∨ 6 < ws.length ∨ b < 0 ∨ 4 < b then some 0 else if ws.any (fun x => decide (8 < x.depth)) then some 1 else if ws.any (fun x => !x.okB ws.length b) then some 2 else none
def excAt (c0 c1 c2 : Addr) : Nat → Addr
  | 0 => c0
  | 1 => c1
  | _ => c2
def spLooked (c0 c1 c2 : Addr) : Sp := fun vs H Q E => ∃ (a : Addr) (us : List V) (ws : List Wd) (b : Int), vs = [.ref a, .int b] ∧ H a = some (.lst us) ∧ WsAt H ws us ∧ ws.length ≤ 100 ∧
  match dueOf ws b with
  | none => ∀ H', Same H H' → Q (.int ws.length) H'
  | some k => ∀ H', Same H H' → E (.ref (excAt c0 c1 c2 k)) none H'
end RR
namespace RR
open PySem L2
def spWhole : Sp := fun vs H Q _ => ∃ i : Int, vs = [.int i] ∧ Q (.bl true) H
def marksOf (k : Nat) : List Bool := ((List.range 6).map fun i => decide (i = k)) ++ [true]
def spRefused : Sp := fun vs H Q _ => ∃ (m : Addr) (k : Nat), vs = [.ref m, .int k] ∧ H m = some (.lst ((marksOf k).map V.bl)) ∧ ∀ H', Same H H' → Q (.bl true) H'
def spLDepth (n : Nat) : Sp := fun vs H Q _ => ∃ (v : V) (wd : Wd), vs = [v] ∧ WAt H wd v ∧ wd.depth ≤ n ∧ ∀ H', Same H H' → Q (.int wd.depth) H'
def spWired (n : Nat) : Sp := fun vs H Q _ => ∃ (v : V) (wd : Wd) (R B : Int), vs = [v, .int R, .int B] ∧ WAt H wd v ∧ wd.depth ≤ n ∧ ∀ H', Same H H' → Q (.bl (wd.okB R B)) H'
def dueN (ws : List Wd) (b : Int) : Int := match dueOf ws b with
  | none => -1
  | some k => k
def spDue (n : Nat) : Sp := fun vs H Q _ => ∃ (a : Addr) (us : List V) (ws : List Wd) (b : Int), vs = [.ref a, .int b] ∧ H a = some (.lst us) ∧ WsAt H ws us ∧ ws.length ≤ 100 ∧ (∀ x ∈ ws, x.depth ≤ n) ∧ ∀ H', Same H H' → Q (.int (dueN ws b)) H'
/-- what told tells: found, marks -/
def spTold : Sp := fun vs H Q _ => ∃ (a : Addr) (us : List V) (ws : List Wd) (b : Int), vs = [.ref a, .int b] ∧ H a = some (.lst us) ∧ WsAt H ws us ∧ ws.length ≤ 100 ∧
  ∀ p vf m bs H', Same H H' → H' p = some (.tup [vf, .ref m]) → H' m = some (.lst (bs.map V.bl)) → (match dueOf ws b with | none => vf = .int ws.length ∧ bs = [] | some k => bs = marksOf k) → Q (.ref p) H'
def spSpoilt (n l : Nat) : Sp := fun vs H Q _ => ∃ (a : Addr) (us : List V) (ws : List Wd) (b c : Int), vs = [.ref a, .int b, .int c] ∧ H a = some (.lst us) ∧ WsAt H ws us ∧ ws.length ≤ l ∧ (∀ x ∈ ws, x.depth ≤ n) ∧
  ∀ p a' us' ws' b' H', Same H H' → H' p = some (.tup [.ref a', .int b']) → H' a' = some (.lst us') → WsAt H' ws' us' → ws'.length ≤ l + 6 → (∀ x ∈ ws', x.depth ≤ n + 5) → Q (.ref p) H'
theorem lay_bools : ∀ bs : List Bool, PyData.canLayAll0 (bs.map PyData.bool) = true
  | [] => by simp [PyData.canLayAll0]
  | b :: bs => by simp [PyData.canLayAll0, PyData.canLay0, lay_bools bs]
theorem depth_bools : ∀ bs : List Bool, PyData.depthAll (bs.map PyData.bool) ≤ 1
  | [] => by simp [PyData.depthAll]
  | b :: bs => by
    have := depth_bools bs
    simp [PyData.depthAll, PyData.depth]
    omega
/-! words as data -/
def Wd.data : Wd → PyData
  | .on => .tuple [.str "on"]
  | .off => .tuple [.str "off"]
  | .relay k => .tuple [.str "relay", .int k]
  | .button k => .tuple [.str "button", .int k]
  | .nt a => .tuple [.str "not", a.data]
  | .an a b => .tuple [.str "and", a.data, b.data]
  | .or a b => .tuple [.str "or", a.data, b.data]
theorem lay_tup (xs : List PyData) : (PyData.tuple xs).canLay0 = PyData.canLayAll0 xs := by simp only [PyData.canLay0]
theorem lay_lst (xs : List PyData) : (PyData.list xs).canLay0 = PyData.canLayAll0 xs := by simp only [PyData.canLay0]
end RR


end
section
set_option Elab.async false
set_option linter.all false
set_option maxRecDepth 100000
set_option maxHeartbeats 4000000
namespace RR
open PySem L2
theorem cut_take (us : List V) (k : Nat) (h : k ≤ us.length) : cutV us none (some (k : Int)) = us.take k := by
  unfold cutV
  have e1 : HT.sIx us.length 0 none = 0 := rfl
  rw [HT.sIx_nat, e1, Nat.min_eq_left h]
  simp
theorem cut_drop (us : List V) (k : Nat) (h : k ≤ us.length) : cutV us (some (k : Int)) none = us.drop k := by
  unfold cutV
  have e1 : HT.sIx us.length us.length none = us.length := rfl
  rw [HT.sIx_nat, e1, Nat.min_eq_left h, ← List.length_drop, List.take_length]
end RR

end
section
set_option Elab.async false
set_option linter.all false
set_option maxRecDepth 100000
set_option maxHeartbeats 4000000
namespace L2
open PySem
theorem body_rngF {lo : Int} {n : Nat} {tc : TT} {te : TE} {σf : St} {Q : VK} {H1 : Hp} (hlen : n ≤ sizeLine) (keep : Nat → Bool) (G : Nat → V → Hp → Prop)
    (stable : ∀ i y H H', TupLe H H' → G i y H → G i y H')
    (test : ∀ i H (R : Bool → Hp → Prop), i < n → Same H1 H → (∀ H', Same H H' → R (keep i) H') → tc (some (.int (lo + i)) :: σf) H R)
    (step : ∀ i H (R : VK), i < n → keep i = true → Same H1 H → (∀ y H', Same H H' → G i y H' → R y H') → te (some (.int (lo + i)) :: σf) H R)
    (fin : ∀ D ys H', H1 D = none → Same H1 H' → H' D = some (.lst ys) → Paired (fun i y => G i y H') ((List.range n).filter keep) ys → Q (.ref D) H') :
    bodyC (Itr lo n) tc te σf Q H1 :=
  body_itemsF (xs := (List.range n).map fun (i : Nat) => V.int (lo + i)) keep G (by simpa using hlen)
    (fun i H s => ⟨fun hi => ⟨by simpa [Itr] using hi, fun x H' ⟨e, y⟩ => ⟨e, by
      have hi' : i < n := by simpa using hi
      rw [List.getElem?_map, List.getElem?_range hi', y]; rfl⟩⟩, fun e => by
        have : i = n := by simpa using e
        exact Nat.le_of_eq this.symm⟩) stable
    (fun i x H R hx => by
      have hi : i < n := by have := (List.getElem?_eq_some_iff.mp hx).1; simpa using this
      rw [List.getElem?_map, List.getElem?_range hi] at hx
      cases hx
      exact test i H R hi)
    (fun i x H R hx => by
      have hi : i < n := by have := (List.getElem?_eq_some_iff.mp hx).1; simpa using this
      rw [List.getElem?_map, List.getElem?_range hi] at hx
      cases hx
      exact step i H R hi) (fun D ys H' a b c d => fin D ys H' a b c (by simpa using d))
theorem paired_map {α : Type} {f : α → V} : ∀ {l : List α} {ys : List V}, Paired (fun i y => y = f i) l ys → ys = l.map f
  | _, _, .nil => rfl
  | _, _, .cons e t => by rw [e, paired_map t]; rfl
theorem pt_truthK {X : Cx} {K : PySem.W.Frag} {a : Expr} {ta : TE} (h : X.K = K) (ha : PE X a ta) (he : ∀ whole, isTrue a X.env whole = (do let v ← whole; standAt a.pos; holding [v] (truthy v))) :
    PT X a (fun σ H Q => ta σ H fun x H' => ∃ k, TruV K x H' k ∧ Q k H') := h ▸ pt_truth ha he
/-- all but the thing at a is as it was -/
def SameX (a : Addr) (H H' : Hp) : Prop := ∀ b o, b ≠ a → H b = some o → H' b = some o
end L2
namespace RR
open PySem L2
/-! ### a board with its pressed -/
structure Bd (K : PySem.W.Frag) (H : Hp) (D b : Addr) (ws : List Wd) (pr : List Bool) : Prop where
  l : ∃ us, SqL K H D us ∧ WsAt H ws us
  p : BAt H b pr
  ok : ∀ wd ∈ ws, wd.ok ws.length pr.length ∧ wd.depth ≤ 8
  n : ws.length ≤ 6
theorem Bd.mono {K : PySem.W.Frag} {H H' : Hp} {D b : Addr} {ws : List Wd} {pr : List Bool} (h : Bd K H D b ws pr) (s : Same H H') : Bd K H' D b ws pr :=
  ⟨let ⟨us, a, c⟩ := h.l; ⟨us, s.seq a, c.mono s.tup⟩, s _ _ h.p, h.ok, h.n⟩
def canM (ws : List Wd) (pr st : List Bool) (k : Nat) : Bool := (ws.getD k .off).worth st pr != st.getD k false
def movs (ws : List Wd) (pr st : List Bool) : List Nat := (List.range ws.length).filter (canM ws pr st)
def flip (st : List Bool) (k : Nat) : List Bool := st.set k (!st.getD k false)
def nats (ks : List Nat) : List V := ks.map fun k => V.int (k : Nat)
theorem nats_len (ks : List Nat) : (nats ks).length = ks.length := List.length_map _
theorem flip_len (st : List Bool) (k : Nat) : (flip st k).length = st.length := List.length_set
theorem mem_movs {ws : List Wd} {pr st : List Bool} {k : Nat} : k ∈ movs ws pr st ↔ k < ws.length ∧ canM ws pr st k = true := by
  unfold movs; rw [List.mem_filter, List.mem_range]
theorem movs_len (ws : List Wd) (pr st : List Bool) : (movs ws pr st).length ≤ ws.length := by
  unfold movs
  have := List.length_filter_le (canM ws pr st) (List.range ws.length)
  simpa using this
theorem Bd.at {K : PySem.W.Frag} {H : Hp} {D b : Addr} {ws : List Wd} {pr : List Bool} (h : Bd K H D b ws pr) {k : Nat} (hk : k < ws.length) :
    ∃ us v, SqL K H D us ∧ us.length = ws.length ∧ atI us (k : Int) = some v ∧ WAt H (ws.getD k .off) v ∧ (ws.getD k .off).ok ws.length pr.length ∧ (ws.getD k .off).depth ≤ 8 := by
  obtain ⟨us, hl, hw⟩ := h.l
  have hk' : k < us.length := by rw [hw.1]; exact hk
  obtain ⟨wd, e, a⟩ := hw.2 k us[k] (by simp [hk'])
  have e2 : ws.getD k .off = wd := by simp [e]
  rw [e2]
  exact ⟨us, us[k], hl, hw.1, atI_nat (by simp [hk']), a, h.ok wd (List.mem_of_getElem? e)⟩
/-! ### what the moves promise -/
def spCan (K : PySem.W.Frag) : Sp := fun vs H Q _ => ∃ (D b a : Addr) (ws : List Wd) (pr st : List Bool) (k : Nat), vs = [.ref D, .ref b, .ref a, .int k] ∧ Bd K H D b ws pr ∧ BAt H a st ∧ st.length = ws.length ∧ k < ws.length ∧ Q (.bl (canM ws pr st k)) H
def spMovable (K : PySem.W.Frag) : Sp := fun vs H Q _ => ∃ (D b a : Addr) (ws : List Wd) (pr st : List Bool), vs = [.ref D, .ref b, .ref a] ∧ Bd K H D b ws pr ∧ BAt H a st ∧ st.length = ws.length ∧
  ∀ l H', H l = none → Same H H' → H' l = some (.lst (nats (movs ws pr st))) → Q (.ref l) H'
def spMoved : Sp := fun vs H Q _ => ∃ (a : Addr) (st : List Bool) (k : Nat), vs = [.ref a, .int k] ∧ BAt H a st ∧ k < st.length ∧ st.length ≤ 63 ∧ ∀ p H', Same H H' → BAt H' p (flip st k) → Q (.ref p) H'
/-- stands in a list -/
def RowsAt' (H : Hp) (rs : List (List Bool)) (vs : List V) : Prop := Paired (fun r v => ∃ a, v = V.ref a ∧ BAt H a r) rs vs
theorem RowsAt'.mono {H H' : Hp} {rs : List (List Bool)} {vs : List V} (h : RowsAt' H rs vs) (t : TupLe H H') : RowsAt' H' rs vs := Paired.mono' (fun r v ⟨a, e, q⟩ => ⟨a, e, t _ _ q⟩) h
def isRest (ws : List Wd) (pr st : List Bool) : Bool := (movs ws pr st).isEmpty
def restsOf (ws : List Wd) (pr : List Bool) : List (List Bool) := (allRows ws.length).filter (isRest ws pr)
def spRests (K : PySem.W.Frag) : Sp := fun vs H Q _ => ∃ (D b : Addr) (ws : List Wd) (pr : List Bool), vs = [.ref D, .ref b] ∧ Bd K H D b ws pr ∧
  ∀ l us H', H l = none → Same H H' → H' l = some (.lst us) → RowsAt' H' (restsOf ws pr) us → Q (.ref l) H'
theorem flip_getD {st : List Bool} {k i : Nat} (hk : k < st.length) : (flip st k).getD i false = (st.getD i false != decide (i = k)) := by
  unfold flip
  by_cases c : i = k
  · subst c; simp [hk]
  · simp [List.getElem?_set, c, Ne.symm c]
end RR

end
section
set_option Elab.async false
set_option linter.all false
set_option maxRecDepth 100000
set_option maxHeartbeats 4000000
namespace RR
open PySem L2
def natsD (ks : List Nat) : PyData := .list (ks.map fun (k : Nat) => .int (k : Int))
def intsD (ks : List Int) : PyData := .list (ks.map .int)
def standD (st : List Bool) : PyData := .tuple (st.map .bool)
def rowsD (rs : List (List Bool)) : PyData := .list (rs.map standD)
def GoodD (d : PyData) : Prop := d.canLay0 = true ∧ d.depth ≤ 64
theorem eqD_of {K : PySem.W.Frag} {H : Hp} {x y : V} {neg : Bool} {Q : VK} {d e : PyData} {c : Bool} (hd : DAt K H d x) (he : DAt K H e y) (gd : GoodD d) (ge : GoodD e) (hc : PyData.eqv d e = c) (q : Q (.bl (if neg then !c else c)) H) : rEqD K neg x y H Q :=
  ⟨d, e, hd, he, gd.1, ge.1, .inl gd.2, by rw [hc]; exact q⟩
theorem lay_ints : ∀ ks : List Int, PyData.canLayAll0 (ks.map PyData.int) = true
  | [] => by simp [PyData.canLayAll0]
  | b :: bs => by simp [PyData.canLayAll0, PyData.canLay0, lay_ints bs]
theorem depth_ints : ∀ bs : List Int, PyData.depthAll (bs.map PyData.int) ≤ 1
  | [] => by simp [PyData.depthAll]
  | b :: bs => by
    have := depth_ints bs
    simp [PyData.depthAll, PyData.depth]
    try omega
theorem nats_ints (ks : List Nat) : (ks.map fun (k : Nat) => PyData.int (k : Int)) = (ks.map fun (k : Nat) => (k : Int)).map PyData.int := by simp
theorem natsD_eq (ks : List Nat) : natsD ks = intsD (ks.map fun (k : Nat) => (k : Int)) := by unfold natsD intsD; rw [nats_ints]
theorem goodInts (ks : List Int) : GoodD (intsD ks) := ⟨by unfold intsD; rw [lay_lst]; exact lay_ints ks, by
  have := depth_ints ks
  simp only [intsD, PyData.depth]; omega⟩
theorem goodNats (ks : List Nat) : GoodD (natsD ks) := natsD_eq ks ▸ goodInts _
theorem goodStand (st : List Bool) : GoodD (standD st) := ⟨by unfold standD; rw [lay_tup]; exact lay_bools st, by
  have := depth_bools st
  simp only [standD, PyData.depth]; omega⟩
theorem depth_stand (st : List Bool) : (standD st).depth ≤ 2 := by
  have := depth_bools st
  simp only [standD, PyData.depth]; omega
theorem lay_rows : ∀ rs : List (List Bool), PyData.canLayAll0 (rs.map standD) = true
  | [] => by simp [PyData.canLayAll0]
  | r :: rs => by simp [PyData.canLayAll0, (goodStand r).1, lay_rows rs]
theorem depth_rows : ∀ rs : List (List Bool), PyData.depthAll (rs.map standD) ≤ 2
  | [] => by simp [PyData.depthAll]
  | r :: rs => by
    have := depth_rows rs
    have := depth_stand r
    simp only [List.map_cons, PyData.depthAll]; omega
theorem goodRows (rs : List (List Bool)) : GoodD (rowsD rs) := ⟨by unfold rowsD; rw [lay_lst]; exact lay_rows rs, by
  have := depth_rows rs
  simp only [rowsD, PyData.depth]; omega⟩
def wordsD (ws : List Wd) : PyData := .list (ws.map Wd.data)
theorem natsD_at {K : PySem.W.Frag} {H : Hp} {l : Addr} {ks : List Nat} (h : SqL K H l (nats ks)) : DAt K H (natsD ks) (.ref l) := .list h (DsAt.map (fun k => .int _) ks)
theorem standD_at {K : PySem.W.Frag} {H : Hp} {a : Addr} {st : List Bool} (h : BAt H a st) : DAt K H (standD st) (.ref a) := .tuple (SqT.of h) (DsAt.map (fun k => .bool _) st)
theorem rowsD_ats {K : PySem.W.Frag} {H : Hp} : ∀ {rs : List (List Bool)} {vs : List V}, RowsAt' H rs vs → DsAt K H (rs.map standD) vs
  | _, _, .nil => .nil
  | _, _, .cons ⟨a, e, q⟩ t => .cons (e ▸ standD_at q) (rowsD_ats t)
theorem rowsD_at {K : PySem.W.Frag} {H : Hp} {l : Addr} {rs : List (List Bool)} {vs : List V} (h : SqL K H l vs) (r : RowsAt' H rs vs) : DAt K H (rowsD rs) (.ref l) := .list h (rowsD_ats r)
theorem emptyD_at {K : PySem.W.Frag} {H : Hp} {l : Addr} (h : H l = some (.lst [])) : DAt K H (natsD []) (.ref l) := .list (SqL.of h) .nil
theorem eqv_bools' : ∀ a b : List Bool, PyData.eqvAll (a.map PyData.bool) (b.map PyData.bool) = decide (a = b)
  | [], [] => by simp [PyData.eqvAll]
  | [], _ :: _ => by simp [PyData.eqvAll]
  | _ :: _, [] => by simp [PyData.eqvAll]
  | x :: a, y :: b => by
    have := eqv_bools' a b
    simp only [List.map_cons, PyData.eqvAll, this]
    cases x <;> cases y <;> simp [PyData.eqv]
theorem eqv_ints' : ∀ a b : List Int, PyData.eqvAll (a.map PyData.int) (b.map PyData.int) = decide (a = b)
  | [], [] => by simp [PyData.eqvAll]
  | [], _ :: _ => by simp [PyData.eqvAll]
  | _ :: _, [] => by simp [PyData.eqvAll]
  | x :: a, y :: b => by
    have := eqv_ints' a b
    simp only [List.map_cons, PyData.eqvAll, this]
    by_cases c : x = y
    · subst c; simp [PyData.eqv]
    · simp [PyData.eqv, c]
theorem eqv_stand (a b : List Bool) : PyData.eqv (standD a) (standD b) = decide (a = b) := by
  simp only [standD, PyData.eqv]; exact eqv_bools' a b
theorem eqv_ints (a b : List Int) : PyData.eqv (intsD a) (intsD b) = decide (a = b) := by
  simp only [intsD, PyData.eqv]; exact eqv_ints' a b
theorem eqv_nats (a b : List Nat) : PyData.eqv (natsD a) (natsD b) = decide (a = b) := by
  rw [natsD_eq, natsD_eq, eqv_ints]
  refine decide_eq_decide.mpr ⟨fun h => ?_, fun h => by rw [h]⟩
  have h2 := congrArg (List.map Int.toNat) h
  simpa [Function.comp_def] using h2
theorem eqv_empty (a : List Nat) : PyData.eqv (natsD a) (natsD []) = a.isEmpty := by
  rw [eqv_nats]; cases a <;> simp
theorem eqv_rows' : ∀ a b : List (List Bool), PyData.eqvAll (a.map standD) (b.map standD) = decide (a = b)
  | [], [] => by simp [PyData.eqvAll]
  | [], _ :: _ => by simp [PyData.eqvAll]
  | _ :: _, [] => by simp [PyData.eqvAll]
  | x :: a, y :: b => by
    have := eqv_rows' a b
    simp only [List.map_cons, PyData.eqvAll, this, eqv_stand]
    by_cases c : x = y <;> simp [c]
theorem eqv_rows (a b : List (List Bool)) : PyData.eqv (rowsD a) (rowsD b) = decide (a = b) := by
  simp only [rowsD, PyData.eqv]; exact eqv_rows' a b
theorem paired_get {α β : Type} {R : α → β → Prop} : ∀ {l : List α} {r : List β}, Paired R l r → ∀ {i : Nat} {y : β}, r[i]? = some y → ∃ x, l[i]? = some x ∧ R x y
  | _, _, .nil, i, y, e => by simp at e
  | _, _, .cons h t, 0, y, e => by simp at e; subst e; exact ⟨_, rfl, h⟩
  | _, _, .cons h t, i + 1, y, e => by
    obtain ⟨x, a, b⟩ := paired_get t (i := i) (y := y) (by simpa using e)
    exact ⟨x, by simpa using a, b⟩
/-- the room's own board -/
theorem room_bd {K : PySem.W.Frag} {H : Hp} {ns : List Int} {D b : Addr} {us : List V} (h1 : SqL K H D us) (h2 : WsAt H (roomBoard ns) us) (h3 : BAt H b (roomPressed ns)) : Bd K H D b (roomBoard ns) (roomPressed ns) :=
  ⟨⟨us, h1, h2⟩, h3, fun wd hm => by
    obtain ⟨i, hi, rfl⟩ := List.mem_iff_getElem.mp hm
    have := room_word (ns := ns) (i := i) (wd := (roomBoard ns)[i]) (by simp [hi])
    have e : (roomStand ns).length = (roomBoard ns).length := by simp [roomStand, bits_length, roomBoard]
    rw [e] at this
    exact this, by
    have := rRelays_in (cellAt ns 0)
    simp [roomBoard]; omega⟩
theorem room_stand (ns : List Int) : (roomStand ns).length = (roomBoard ns).length := by simp [roomStand, bits_length, roomBoard]
end RR

end
section
set_option Elab.async false
set_option linter.all false
set_option maxRecDepth 100000
set_option maxHeartbeats 4000000
namespace RR
open PySem PySem.W L2
/-- moves walked: the stand behind them, or the refusal: 3 NoRelay, 4 Still -/
def walkI (ws : List Wd) (pr : List Bool) : List Bool → List Int → Sum Nat (List Bool)
  | st, [] => .inr st
  | st, m :: ms => if m < 0 ∨ (ws.length : Int) ≤ m then .inl 3 else if canM ws pr st m.toNat = true then walkI ws pr (flip st m.toNat) ms else .inl 4
def excM (c3 c4 : Addr) (k : Nat) : Addr := if k = 3 then c3 else c4
def spWalked (K : Frag) (c3 c4 : Addr) : Sp := fun vs H Q E => ∃ (D b a l : Addr) (ws : List Wd) (pr st : List Bool) (ms : List Int), vs = [.ref D, .ref b, .ref a, .ref l] ∧ Bd K H D b ws pr ∧ BAt H a st ∧ st.length = ws.length ∧ SqL K H l (ms.map V.int) ∧
  match walkI ws pr st ms with
  | .inr st' => ∀ p H', Same H H' → BAt H' p st' → Q (.ref p) H'
  | .inl k => ∀ H', Same H H' → E (.ref (excM c3 c4 k)) none H'
def spLList (K : Frag) : Sp := fun vs H Q _ => ∃ (l d : Addr) (ks : List Nat), vs = [.ref l, .ref d] ∧ H l = some (.lst (nats ks)) ∧ SqL K H d (nats ks) ∧ ks.length ≤ 1000 ∧ Q (.bl true) H
/-- what is seen of a raised class -/
structure MarkE (K : PySem.W.Frag) (c c0 c1 c2 c3 c4 c5 cr : Addr) (k : Nat) : Prop where
  ex : PySem.W.excIn K c VErr "ValueError.__new__" = true
  get : ExcGet K c
  m : PySem.W.mroIn K c (.ref cr) = some true
  j0 : PySem.W.kitOne K (.ref c) (.ref c0) = some (decide (0 = k))
  j1 : PySem.W.kitOne K (.ref c) (.ref c1) = some (decide (1 = k))
  j2 : PySem.W.kitOne K (.ref c) (.ref c2) = some (decide (2 = k))
  j3 : PySem.W.kitOne K (.ref c) (.ref c3) = some (decide (3 = k))
  j4 : PySem.W.kitOne K (.ref c) (.ref c4) = some (decide (4 = k))
  j5 : PySem.W.kitOne K (.ref c) (.ref c5) = some (decide (5 = k))
  jv : PySem.W.kitOne K (.ref c) (.type "ValueError") = some true
def spToldW (K : Frag) : Sp := fun vs H Q _ => ∃ (D b a l : Addr) (ws : List Wd) (pr st : List Bool) (ms : List Int), vs = [.ref D, .ref b, .ref a, .ref l] ∧ Bd K H D b ws pr ∧ BAt H a st ∧ st.length = ws.length ∧ SqL K H l (ms.map V.int) ∧
  ∀ p v m bs H', Same H H' → H' p = some (.tup [v, .ref m]) → H' m = some (.lst (bs.map V.bl)) → (match walkI ws pr st ms with
    | .inr st' => bs = [] ∧ ∃ x, v = .ref x ∧ BAt H' x st'
    | .inl k => bs = marksOf k) → Q (.ref p) H'
end RR

end
section
set_option Elab.async false
set_option linter.all false
set_option maxRecDepth 100000
set_option maxHeartbeats 4000000
namespace L2
open PySem PySem.Spec PyProof.Rows
/-- a dict by its raw entries -/
def RawD (h : Heap) (d : Addr) (es : Array DictEntry) (ep : Nat) : Prop := ∃ o, h.get? d = some o ∧ o.ExactDict ∧ o.data = .dict es ep
section
variable {prog : Program} {w : World} {A : Around} {E : Value → Shared → Prop} {s : Shared} {d it : Addr} {es : Array DictEntry} {ep i : Nat}
theorem RawD.ty (r : RawD s.heap d es ep) : s.TypeIs (.ref d) "dict" := let ⟨o, e, x, _⟩ := r; ⟨o, e, x.1⟩
theorem raw_iter {Q : Value → Shared → Prop} (lo : (d == sysModules) = false) (r : RawD s.heap d es ep)
    (q : Q (.ref s.heap.objs.size) { s with heap := s.heap.push { cls := .type "dict_keyiterator", data := .fields #[.ref d, .int 0 0, .int es.size 0, .int ep 0] } }) :
    wpAny (model prog w) A (pyIter (.ref d)) Q E s := by
  obtain ⟨ob, e1, e2, e3⟩ := id r
  refine wpAny_pyIter_slot r.ty F.slot_dict_iter (wpAny_call_entry F.slot_dict_iter r.ty F.entry_dict_iter ?_ (F.args_dict_iter_1 _))
  unfold Builtin.«dict.__iter__»; refine wpAny_bind ?_
  unfold Builtin.Dict.dictSlotNone; refine wpAny_bind (wpAny_notOrdered_dict r.ty ?_)
  show wpAny _ _ (pure (Value.ref d)) _ _ s; refine wpAny_pure ?_
  show wpAny _ _ (Builtin.Dict.showsAll d >>= _) _ _ s; unfold Builtin.Dict.showsAll
  rw [if_neg (by rw [lo]; exact Bool.false_ne_true)]; refine wpAny_bind (wpAny_pure (wpAny_bind (wpAny_dictEntries e1 e3 (wpAny_bind (wpAny_dictEpoch e1 e3 ?_)))))
  refine wpAny_bind (wpAny_newObj_type (wpAny_pure ⟨_, rfl, "dict_keyiterator", _, ⟨_, Heap.get?_push_size _ rfl, rfl⟩, F.slot_dict_keyiterator_next.lookup, ?_⟩)); simpa [rawInt] using q
theorem raw_next {Q : Option Value → Shared → Prop} (t : s.heap.IsKeyIter it d i es.size ep) (r : RawD s.heap d es ep) (hi : i < es.size)
    (q : ∀ h', h'.IsKeyIter it d (i + 1) es.size ep → Heap.SameBut it s.heap h' → Q (some es[i].key) { s with heap := h' }) : wpAny (model prog w) A (pyNext (.ref it)) Q E s := by
  obtain ⟨oi, i1, i2, i3⟩ := id t
  obtain ⟨ob, e1, e2, e3⟩ := id r
  unfold pyNext; refine wpAny_bind (wpAny_attempt (wpAny_callSpecial?_slot (name := Str.ofString "__next__") t.typeIs F.slot_dict_keyiterator_next (wpAny_call_entry F.slot_dict_keyiterator_next t.typeIs F.entry_dict_keyiterator_next ?_ (F.args_dict_keyiterator_next_1 _))))
  refine wpAny_bind (wpAny_pure (wpAny_bind (wpAny_bind ?_)))
  first | refine wpAny_bind (wpAny_typeNameOfWhole_keyiter t.typeIs (wpAny_pure ?_)) | refine wpAny_bind (wpAny_typeNameOf_keyiter t.typeIs (wpAny_pure ?_))
  refine wpAny_bind (wpAny_fieldsOf i1 i3 ?_)
  simp only [show Builtin.Dict_items.ownsTuple "dict_keyiterator" = false from by decide, Bool.false_eq_true, if_false]
  show wpAny _ _ (if (Value.ref d == Value.none) = true then _ else _) _ _ s; rw [if_neg (show ¬ ((Value.ref d == Value.none) = true) from Bool.false_ne_true)]
  refine wpAny_bind (wpAny_pure (wpAny_bind (wpAny_dictEntries e1 e3 ?_)))
  rw [if_neg (by simp)]; refine wpAny_bind (wpAny_pure (wpAny_bind (wpAny_dictEpoch e1 e3 ?_)))
  rw [if_neg (by simp)]; refine wpAny_pure ?_
  simp only [show ¬ ((i : Int) < 0) from by omega, if_false, Int.toNat_natCast, Array.getElem?_eq_getElem hi]; refine wpAny_bind ?_
  first | refine wpAny_bind (wpAny_typeNameOfWhole_keyiter t.typeIs (wpAny_pure ?_)) | refine wpAny_bind (wpAny_typeNameOf_keyiter t.typeIs (wpAny_pure ?_))
  refine wpAny_bind (wpAny_isOneOf_keyiter t.typeIs ?_)
  show wpAny _ _ (setField (.ref it) 1 (rawInt ((i : Int) + 1)) >>= _) _ _ s; refine wpAny_bind (wpAny_setField i1 i3 (by simp) ?_)
  have t2 : (s.heap.update it (Obj.mapFields (·.setIfInBounds 1 (rawInt ((i : Int) + 1))))).IsKeyIter it d (i + 1) es.size ep :=
    ⟨_, Heap.get?_update_self _ i1 (Obj.isFreed_of_fields (Obj.data_mapFields i3 _)), (Obj.cls_mapFields ..).trans i2, by rw [Obj.data_mapFields i3]; simp [rawInt]⟩
  refine wpAny_bind (wpAny_holding (wpAny_bind (wpAny_isOneOf_keyiter (s := { s with heap := s.heap.update it (Obj.mapFields (·.setIfInBounds 1 (rawInt ((i : Int) + 1)))) }) t2.typeIs ?_)))
  show wpAny _ _ (pure es[i].key) _ _ _; exact wpAny_pure (wpAny_pure ⟨_, rfl, wpAny_pure (q _ t2 (Heap.SameBut.update ..))⟩)
theorem raw_end {Q : Option Value → Shared → Prop} (hh : A.handled = none) (t : s.heap.IsKeyIter it d i es.size ep) (r : RawD s.heap d es ep) (hi : es.size ≤ i)
    (q : ∀ h', Heap.ExtBut it s.heap h' → Q none { s with heap := h' }) : wpAny (model prog w) A (pyNext (.ref it)) Q E s := by
  obtain ⟨oi, i1, i2, i3⟩ := id t
  obtain ⟨ob, e1, e2, e3⟩ := id r
  unfold pyNext; refine wpAny_bind (wpAny_attempt (wpAny_callSpecial?_slot (name := Str.ofString "__next__") t.typeIs F.slot_dict_keyiterator_next (wpAny_call_entry F.slot_dict_keyiterator_next t.typeIs F.entry_dict_keyiterator_next ?_ (F.args_dict_keyiterator_next_1 _))))
  refine wpAny_bind (wpAny_pure (wpAny_bind (wpAny_bind ?_)))
  first | refine wpAny_bind (wpAny_typeNameOfWhole_keyiter t.typeIs (wpAny_pure ?_)) | refine wpAny_bind (wpAny_typeNameOf_keyiter t.typeIs (wpAny_pure ?_))
  refine wpAny_bind (wpAny_fieldsOf i1 i3 ?_)
  simp only [show Builtin.Dict_items.ownsTuple "dict_keyiterator" = false from by decide, Bool.false_eq_true, if_false]
  show wpAny _ _ (if (Value.ref d == Value.none) = true then _ else _) _ _ s; rw [if_neg (show ¬ ((Value.ref d == Value.none) = true) from Bool.false_ne_true)]
  refine wpAny_bind (wpAny_pure (wpAny_bind (wpAny_dictEntries e1 e3 ?_)))
  rw [if_neg (by simp)]; refine wpAny_bind (wpAny_pure (wpAny_bind (wpAny_dictEpoch e1 e3 ?_)))
  rw [if_neg (by simp)]; refine wpAny_pure ?_
  simp only [show ¬ ((i : Int) < 0) from by omega, if_false, Int.toNat_natCast, Array.getElem?_eq_none hi]; refine wpAny_bind ?_
  first | refine wpAny_bind (wpAny_typeNameOfWhole_keyiter t.typeIs (wpAny_pure ?_)) | refine wpAny_bind (wpAny_typeNameOf_keyiter t.typeIs (wpAny_pure ?_))
  show wpAny _ _ (setField (.ref it) 0 .none >>= _) _ _ s; refine wpAny_bind (wpAny_setField i1 i3 (by simp) ?_)
  show wpAny _ _ (newExc (.type "StopIteration") [] >>= _) _ _ _; refine wpAny_bind ?_
  simp only [newExc, newTuple]; refine wpAny_bind (wpAny_newObj_type ?_ (by size_fits))
  refine wpAny_bind (m := firstArgMember _ _) (wpAny_of_eq (a := Value.none) (by first | rfl | (simp only [firstArgMember]; rfl)) (wpAny_newObj_type ?_ (by size_fits)))
  simp only [raiseNew]; refine wpAny_bind (wpAny_handled ?_)
  rw [show A.in1.handled = none from hh]; refine wpAny_bind (wpAny_pure (wpAny_throw ?_)); refine wpAny_bind (wpAny_isInstance (T := "StopIteration") (b := true) ⟨_, Heap.get?_push_size _ rfl, rfl⟩ isSubtype_stop ?_)
  exact wpAny_pure (q _ (((Heap.SameBut.update ..).extBut.push _).push _))
end
end L2

end
section
set_option Elab.async false
set_option linter.all false
set_option maxRecDepth 100000
set_option maxHeartbeats 4000000
namespace L2
open PySem PySem.Spec PyProof.Rows
section
variable {prog : Program} {w : World} {A : Around} {E : Value → Shared → Prop} {s : Shared} {d : Addr} {es : Array DictEntry} {ep : Nat}
theorem raw_len_meets (lo : (d == sysModules) = false) : MeetsIn prog w (Builtin.«dict.__len__» ⟨[.ref d], []⟩) (fun _ R s => ∃ es ep, RawD s.heap d es ep ∧ R (.ok (.ret (.int es.size s.toks))) { s with toks := s.toks + 1 }) :=
  .of_wp fun A R s ⟨es, ep, r, q⟩ => by
    obtain ⟨ob, e1, _, e3⟩ := r
    show wpAny _ _ (dictSize d >>= _) _ _ s; unfold dictSize
    refine wpAny_bind (wpAny_bind (wpAny_dictEntries e1 e3 (wpAny_pure ?_)))
    show wpAny _ _ (Builtin.Dict.pendingCount d >>= _) _ _ s; refine wpAny_bind (wpAny_pendingCount_other lo (wpAny_ret_mkInt ?_))
    rw [Nat.add_zero]; exact q
theorem raw_len {Q : Value → Shared → Prop} (lo : (d == sysModules) = false) (r : RawD s.heap d es ep) (fit : (es.size : Int) < 2 ^ 63) (q : ∀ t t', Q (.int es.size t) { s with toks := t' }) : wpAny (model prog w) A (call (.builtin "len") [.ref d]) Q E s := by
  refine Calls.call_function_entry kind_len plain_len entry_len (args_len1 _) ?_
  unfold Builtin.«len»; refine wpAny_bind (m := oneArg "len" _) (wpAny_pure ?_)
  refine wpAny_bind (m := callSpecial? (.ref d) (Str.ofString "__len__")) (wpAny_callSpecial?_slot (name := Str.ofString "__len__") r.ty F.slot_dict_len (call_meetsIn F.slot_dict_len r.ty F.entry_dict_len (F.args_dict_len_1 _) (raw_len_meets lo) ⟨es, ep, r, ?_⟩))
  show wpAny _ _ _ _ _ { s with toks := s.toks + 1 }; refine wpAny_bind (wpAny_holding (wpAny_pure (wpAny_bind (wpAny_letGo ?_))))
  show wpAny _ _ (if ((es.size : Nat) : Int) < 0 then _ else _) _ _ _; rw [if_neg (by omega)]
  show wpAny _ _ (if ((es.size : Nat) : Int) ≥ 2 ^ 63 then _ else _) _ _ _; rw [if_neg (by omega)]
  exact wpAny_bind (wpAny_mkInt (wpAny_pure ⟨_, rfl, q _ _⟩))
theorem raw_src (lo : (d == sysModules) = false) : PySem.W.KdlSrc prog w "dict" d d es.size (fun i v => ∃ e, es[i]? = some e ∧ v = e.key) (fun h => RawD h d es ep) where
  type := fun _ r => r.ty
  there := fun _ ⟨o, e, _⟩ => ⟨Heap.lt_size e, Heap.lt_size e⟩
  keep := fun _ _ ⟨o, e, x⟩ k => ⟨o, k d (.inl rfl) o e, x⟩
  notList := by decide
  notTuple := by decide
  hint := fun _ _ _ _ r q => PySem.W.kdl_hint_dict r.ty q
  iter := fun A s hh r => ⟨_, fun i h => h.IsKeyIter s.heap.objs.size d i es.size ep ∧ RawD h d es ep, (fun _ _ q => raw_iter lo r q), {
    sub := fun b hb => by simp at hb; simp [hb]
    frame := fun _ _ _ st k => ⟨st.1.at fun o e => k s.heap.objs.size (by simp) o e, let ⟨o, e, x⟩ := st.2; ⟨o, k d (by simp) o e, x⟩⟩
    item := fun i s2 Q E hi st q => raw_next st.1 st.2 hi fun h' t' sb => q _ h' s2.toks ⟨es[i], by simp [hi], rfl⟩ ⟨t', let ⟨o, e, x⟩ := st.2; ⟨o, sb.extBut d o (Nat.ne_of_lt (by obtain ⟨o, e, _⟩ := r; exact Heap.lt_size e)) e, x⟩⟩ fun b o hb e => sb.extBut b o (fun z => hb (by simp [z])) e
    done := fun s2 Q E st q => raw_end hh st.1 st.2 (Nat.le_refl _) fun h' eb => q h' s2.toks fun b o hb e => eb b o (fun z => hb (by simp [z])) e
    self := fun i s2 Q E st q => wpAny_pyIter_keyiter st.1 q }, ⟨⟨_, Heap.get?_push_size _ rfl, rfl, rfl⟩, let ⟨o, e, x⟩ := r; ⟨o, Heap.get?_push_of_some _ e, x⟩⟩⟩
end
/-! ### over the layer -/
section
variable {X : Cx} {pins : List (Addr × Obj)} {σ : St} {H : Hp} {s : Shared} {a : Addr} {kvs : List (List Key × V)}
/-- the raw entries of a dict with tuples as keys -/
theorem dt_raw (I : Inv X pins σ H s) (e : Rd H a (.dT kvs)) : kvs.length ≤ sizeLine ∧ (a == sysModules) = false ∧ ∃ es ep xs, RawD s.heap a es ep ∧ KT H kvs xs ∧ es.toList = xs.map (entryOfKey (tupleKind (mixKind X.prog X.w))) ∧ es.size = kvs.length := by
  obtain ⟨z, y, xs, r, o, es, ep, h1, h2, h3, h4, h5⟩ := (show ObjOk X.prog X.w H s.heap a (.dT kvs) from e.ok I.hok)
  refine ⟨z, y, es, ep, xs, ⟨o, h1, h2, h3⟩, r, h4, ?_⟩
  have q1 := congrArg List.length h4
  have q2 := Paired.length r
  simp at q1
  omega
theorem kt_key {xs : List (List Key × Addr × Value)} {P : Program} {w : World} {es : Array DictEntry} (r : KT H kvs xs) (he : es.toList = xs.map (entryOfKey (tupleKind (mixKind P w)))) {i : Nat} (hi : i < es.size) :
    ∃ kv b, kvs[i]? = some kv ∧ es[i].key = .ref b ∧ H b = some (.tup (kv.1.map kV)) := by
  have e1 : es.toList[i]? = some es[i] := by simp [hi]
  rw [he, List.getElem?_map] at e1
  cases hx : xs[i]? with
  | none => rw [hx] at e1; cases e1
  | some x =>
    rw [hx] at e1
    obtain ⟨kv, k1, k2, k3, _⟩ := RR.paired_get r hx
    refine ⟨kv, x.2.1, k1, ?_, k3⟩
    have e2 := Option.some.inj e1
    rw [← e2]
    rfl
/-- len(d) -/
theorem call_lenT : CallR X (.builtin "len") (fun xs H Q => ∃ a kvs, xs = [.ref a] ∧ Rd H a (.dT kvs) ∧ Q (.int kvs.length) H) := by
  intro pins s σ H xs us Q I r h
  obtain ⟨a, kvs, rfl, e, q⟩ := h
  obtain ⟨u, rfl, rx⟩ := vals1 r
  cases rx
  obtain ⟨z, lo, es, ep, xs, raw, kt, he, hs⟩ := dt_raw I e
  rw [sizeLine_eq] at z
  refine raw_len lo raw (by omega) fun t t' => ⟨.int kvs.length, H, I.tok _, ⟨t, ?_⟩, q⟩
  rw [hs]
theorem refs_of {H : Hp} : ∀ (kvs : List (List Key × V)) (l : List Value), (∀ i, i < kvs.length → ∃ b kv, kvs[i]? = some kv ∧ l[i]? = some (Value.ref b) ∧ H b = some (.tup (kv.1.map kV))) → l.length = kvs.length →
    ∃ bs : List Addr, l = bs.map Value.ref ∧ Paired (fun (kv : List Key × V) b => H b = some (.tup (kv.1.map kV))) kvs bs
  | [], l, _, hl => ⟨[], by simpa using hl, .nil⟩
  | kv :: kvs, [], _, hl => by simp at hl
  | kv :: kvs, v :: l, get, hl => by
    obtain ⟨b, kv', g1, g2, g3⟩ := get 0 (by simp)
    simp at g1 g2
    subst g1 g2
    obtain ⟨bs, i1, i2⟩ := refs_of kvs l (fun i hi => by
      obtain ⟨b, kv', g1, g2, g3⟩ := get (i + 1) (by simpa using hi)
      exact ⟨b, kv', by simpa using g1, by simpa using g2, g3⟩) (by simpa using hl)
    exact ⟨b :: bs, by rw [i1]; rfl, .cons g3 i2⟩
theorem refs_paired {H : Hp} : ∀ {kvs : List (List Key × V)} {bs : List Addr}, Paired (fun (kv : List Key × V) b => H b = some (.tup (kv.1.map kV))) kvs bs → Paired (fun (kv : List Key × V) y => ∃ b, y = V.ref b ∧ H b = some (.tup (kv.1.map kV))) kvs (bs.map V.ref)
  | _, _, .nil => .nil
  | _, _, .cons h t => .cons ⟨_, rfl, h⟩ (refs_paired t)
/-- list(d) -/
theorem call_listT (hc : X.calm = true) : CallR X (.type "list") (fun xs H Q => ∃ a kvs, xs = [.ref a] ∧ Rd H a (.dT kvs) ∧ ∀ l ys, H l = none → Paired (fun (kv : List Key × V) y => ∃ b, y = V.ref b ∧ H b = some (.tup (kv.1.map kV))) kvs ys → Q (.ref l) (upd H l (.lst ys))) := by
  intro pins s σ H xs us Q I r h
  obtain ⟨a, kvs, rfl, e, q⟩ := h
  obtain ⟨u, rfl, rx⟩ := vals1 r
  cases rx
  obtain ⟨z, lo, es, ep, xs, raw, kt, he, hs⟩ := dt_raw I e
  refine PySem.W.kdl_call (raw_src lo) (I.ok.hd hc) raw (by omega) fun h' tk acc c kp hl hit => ?_
  have get : ∀ i, i < kvs.length → ∃ b kv, kvs[i]? = some kv ∧ acc.toList[i]? = some (.ref b) ∧ H b = some (.tup (kv.1.map kV)) := fun i hi => by
    obtain ⟨kv, b, k1, k2, k3⟩ := kt_key kt he (i := i) (by omega)
    have hacc : i < acc.size := by rw [hit.1]; omega
    obtain ⟨e', h1, h2⟩ := hit.2 i acc[i] (by simp [hacc])
    have e3 : e' = es[i] := by
      have : es[i]? = some es[i] := by simp
      rw [this] at h1
      exact (Option.some.inj h1).symm
    exact ⟨b, kv, k1, by rw [Array.getElem?_toList]; simp [hacc, h2, e3, k2], k3⟩
  obtain ⟨bs, hb1, hb2⟩ := refs_of kvs acc.toList get (by rw [Array.length_toList, hit.1]; omega)
  have hv : Vals (bs.map V.ref) acc.toList := by
    rw [hb1]
    clear hb2 hb1
    induction bs with
    | nil => exact .nil
    | cons b bs ih => exact .cons rfl ih
  have hlen : (bs.map V.ref).length ≤ sizeLine := by rw [List.length_map, ← Paired.length hb2]; exact z
  refine ⟨.ref s.heap.objs.size, _, I.laid (a := s.heap.objs.size) (o := .lst (bs.map V.ref)) kp (Nat.le_refl _) ⟨hlen, acc.toList, c, hv, by simpa using hl⟩, rfl, q _ _ (I.hok.fresh (Nat.le_refl _)) ?_⟩
  exact refs_paired hb2
/-- d.clear() -/
def rClearT : V → List V → Hp → VK → Prop := fun x vs H Q => ∃ d kvs, x = .ref d ∧ vs = [] ∧ H d = some (.dT kvs) ∧ Q .non (upd H d (.dT []))
/-- from here on the dict stays as it is: it may be walked -/
theorem Inv.freeze (I : Inv X pins σ H s) (e : H a = some (.dT kvs)) : ∃ o, Inv X pins σ (upd H a (.frz o (.dT kvs))) s := by
  obtain ⟨z, y, xs, r, o, es, ep, h1, h2, h3, h4, h5⟩ := (show ObjOk X.prog X.w H s.heap a (.dT kvs) from I.hok a _ e)
  refine ⟨o, ?_⟩
  have := I.write (x := a) (e := a) (o := .frz o (.dT kvs)) (h' := s.heap) (t' := s.toks) (by rw [e]; exact True.intro) (.inl rfl) (fun b u _ q => q) ⟨o, h1⟩ ⟨h1, z, y, xs, KT.keeps r fun c ys ec => ?_, o, es, ep, h1, h2, h3, h4, h5⟩
  · exact this
  · rw [upd_ne (ne_of ec e (fun z => nomatch z))]
    exact ec
def tFrz (t : TE) : TE := fun σ H Q => t σ H fun x H1 => ∃ a kvs, x = .ref a ∧ H1 a = some (.dT kvs) ∧ ∀ o, Q x (upd H1 a (.frz o (.dT kvs)))
theorem pe_frz {e : Expr} {t : TE} (h : PE X e t) : PE X e (tFrz t) := by
  intro pins s σ H Q I q
  refine thn (h pins s σ H _ I q) fun v s1 ⟨x, H1, I1, r1, a, kvs, ex, e1, q1⟩ => ?_
  obtain ⟨o, I2⟩ := I1.freeze e1
  exact ⟨x, _, I2, r1, q1 o⟩
/-- the dict at a, kept as o, by its keys -/
def Itd (a : Addr) (o : Obj) : It :=
  ⟨fun i H => ∃ kvs, H a = some (.frz o (.dT kvs)) ∧ i < kvs.length, fun i H x H' => H' = H ∧ ∀ kvs, H a = some (.frz o (.dT kvs)) → ∃ kv b, kvs[i]? = some kv ∧ x = .ref b ∧ H b = some (.tup (kv.1.map kV)), fun i H => ∃ kvs, H a = some (.frz o (.dT kvs)) ∧ kvs.length ≤ i⟩
theorem turn_dict {P : Program} {w : World} {K : PySem.W.Frag} {tg : Expr} (a it : Addr) (o : Obj) (es : Array DictEntry) (ep : Nat) (ho : o.data = .dict es ep) : Turn P w K tg (Itd a o) [it] it (fun i h => h.IsKeyIter it a i es.size ep) where
  mem := by simp
  obj := fun i h st b hb => by
    have e : b = it := by simpa using hb
    subst e
    obtain ⟨o, e, c, d⟩ := st
    exact ⟨o, e, fun v z => by rw [d] at z; cases z⟩
  keep := fun i h h' st k => st.at fun o e => k it (by simp) o e
  item := by
    intro X hP hw hK hc i pins s σ H E I hf st hg
    subst hP hw hK
    obtain ⟨kvs, hq, hi⟩ := hg
    obtain ⟨z, lo, es', ep', xs, raw, kt, he, hs⟩ := dt_raw I (.inr ⟨o, hq⟩)
    have same : es' = es ∧ ep' = ep := by
      obtain ⟨o2, g1, _, g3⟩ := raw
      have g4 : s.heap.get? a = some o := (show ObjOk X.prog X.w H s.heap a (.frz o (.dT kvs)) from I.hok a _ hq).1
      rw [g4] at g1
      cases g1
      rw [ho] at g3
      cases g3
      exact ⟨rfl, rfl⟩
    obtain ⟨rfl, rfl⟩ := same
    obtain ⟨f0, f1, f2, f3, f4, f5⟩ := hf it (by simp)
    obtain ⟨kv, b, k1, k2, k3⟩ := kt_key kt he (i := i) (by omega)
    refine raw_next st raw (by omega) fun h' st' sb => ?_
    have I1 : Inv X pins σ H { s with heap := h' } := I.turned (t' := s.toks) (fun b o hb e => (sb.2 b hb).trans e) f0 f1 f3 f4 f5
    obtain ⟨o2, e2, c2, d2⟩ := id st'
    refine ⟨_, rfl, go_of (s := { s with heap := h' }) e2 c2 d2 (by decide) ⟨.ref b, H, I1, k2, ⟨rfl, fun kvs' hq' => ?_⟩, st', fun b hb => (hf b hb).1⟩⟩
    rw [hq] at hq'
    cases hq'
    exact ⟨kv, b, k1, rfl, k3⟩
  done := by
    intro X hP hw hK hc i pins s σ H E I hf st hg
    subst hP hw hK
    obtain ⟨kvs, hq, hi⟩ := hg
    obtain ⟨z, lo, es', ep', xs, raw, kt, he, hs⟩ := dt_raw I (.inr ⟨o, hq⟩)
    have same : es' = es ∧ ep' = ep := by
      obtain ⟨o2, g1, _, g3⟩ := raw
      have g4 : s.heap.get? a = some o := (show ObjOk X.prog X.w H s.heap a (.frz o (.dT kvs)) from I.hok a _ hq).1
      rw [g4] at g1
      cases g1
      rw [ho] at g3
      cases g3
      exact ⟨rfl, rfl⟩
    obtain ⟨rfl, rfl⟩ := same
    obtain ⟨f0, f1, f2, f3, f4, f5⟩ := hf it (by simp)
    exact raw_end (I.ok.hd hc) st raw (by omega) fun h' eb => ⟨rfl, I.turned (t' := s.toks) (fun b o hb e => eb b o hb e) f0 f1 f3 f4 f5⟩
  self := fun _ _ _ _ _ st h => wpAny_pyIter_keyiter st h
def iDict (td : TE) : TI := fun σ H R => td σ H fun x H1 => ∃ a o kvs, x = .ref a ∧ H1 a = some (.frz o (.dT kvs)) ∧ R (Itd a o) H1
theorem pi_dict {tg l : Expr} {td : TE} (hl : PE X l td) : PI X tg l (iDict td) := by
  intro pins s σ H R I h
  refine thn (hl pins s σ H _ I h) fun v s1 ⟨x, H1, I1, r1, a, o, kvs, ex, hq, q⟩ => ?_
  subst ex
  cases r1
  obtain ⟨z, lo, es, ep, xs, raw, kt, he, hs⟩ := dt_raw I1 (.inr ⟨o, hq⟩)
  refine raw_iter lo raw ?_
  have ho : o.data = .dict es ep := by
    obtain ⟨o2, g1, _, g3⟩ := raw
    have g4 : s1.heap.get? a = some o := (show ObjOk X.prog X.w H1 s1.heap a (.frz o (.dT kvs)) from I1.hok a _ hq).1
    rw [g4] at g1
    cases g1
    exact g3
  refine ⟨s1.heap.objs.size, [s1.heap.objs.size], _, _, H1, rfl, I1.kept (t' := s1.toks) fun b o e => Heap.get?_push_of_some _ e, turn_dict a _ o es ep ho, ⟨_, Heap.get?_push_size _ rfl, rfl, rfl⟩, fun b hb => ?_, q⟩
  have e : b = s1.heap.objs.size := by simpa using hb
  subst e
  exact I1.fpOk (Nat.le_refl _) (I1.hok.fresh (Nat.le_refl _))
/-- {k: v}, k a tuple -/
def tDisp1 (tk tv : TE) : TE := fun σ H Q => ∀ p, H p = none → tk σ (upd H p (.dT [])) fun x H1 => tv σ H1 fun y H2 => H2 p = some (.dT []) ∧ ∃ b ks, x = .ref b ∧ H2 b = some (.tup (ks.map kV)) ∧ Q (.ref p) (upd H2 p (.dT [(ks, y)]))
theorem pe_disp1 {k v : Expr} {tk tv : TE} {pos : Pos} (hu : X.A.units + 1 < cLine) (hk : PE X k tk) (hv : PE X v tv) : PE X (.Dict [some k] [v] pos) (tDisp1 tk tv) := by
  intro pins s σ H Q I q
  have hn := I.hok.fresh (Nat.le_refl s.heap.objs.size)
  have I1 := I.laid (a := s.heap.objs.size) (o := .dT []) (h' := s.heap.push { cls := .type "dict", data := .dict #[] }) (t' := s.toks) (fun _ _ q => Heap.get?_push_of_some _ q) (Nat.le_refl _) (dt_empty s.heap I.big)
  refine wpAny_Dict_any rfl rfl (by simp) (by simp) ?_
  refine pairTrees_cons_walk (thn (hk pins _ σ _ _ I1 (q _ hn)) fun u s2 ⟨x, H1, I2, rx, q2⟩ => thn (hv pins s2 σ H1 _ I2 q2) fun v2 s3 ⟨y, H2, I3, ry, e, b, ks, ex, eb, q3⟩ => pairTrees_nil_walk ?_)
  subst ex
  cases rx
  unfold storeAll
  rw [List.forIn_cons]
  obtain ⟨z, hd, xs, rel, dd⟩ := dt_of I3.hok e
  cases rel
  refine wpAny_bind (wpAny_bind (wpAny_dictSet_heap (hsz := Nat.zero_le _) (knd := tupleKind (mixKind X.prog X.w)) (Nat.lt_of_succ_lt hu) (key_of I3.hok eb) dd fun h' dd' hs => wpAny_pure ?_))
  dsimp only
  rw [List.forIn_nil]
  refine wpAny_pure ?_
  obtain ⟨o2, es, ep, hq, h2, h3, h4, _, h5⟩ := dd'
  refine ⟨.ref s.heap.objs.size, _, d_write (ob := .dT [(ks, y)]) I3 (by rw [e]; exact True.intro) hs ⟨o2, hq⟩ ⟨by show 1 ≤ sizeLine; rw [sizeLine_eq]; decide, hd, _, .cons ⟨rfl, ?_, ry⟩ .nil, o2, es, ep, hq, h2, h3, h4, h5⟩, rfl, q3⟩
  rw [upd_ne (ne_of eb e (fun z => nomatch z))]
  exact eb
end
end L2

end
section
set_option Elab.async false
set_option linter.all false
set_option maxRecDepth 100000
set_option maxHeartbeats 4000000
namespace RR
open PySem PySem.W L2
/-! ### dicts keyed by stands -/
def kst (s : List Bool) : List Key := s.map Sum.inl
theorem kst_kV (s : List Bool) : (kst s).map kV = s.map V.bl := by unfold kst; rw [List.map_map]; rfl
theorem kst_inj {a b : List Bool} (h : kst a = kst b) : a = b := by
  have := kst_kV a
  rw [h, kst_kV] at this
  exact (List.map_inj_right (f := V.bl) (fun x y e => by injection e)).mp this.symm
def sP (m : List (List Bool × V)) : List (List Key × V) := m.map fun p => (kst p.1, p.2)
def sD (m : List (List Bool × V)) : HO := .dT (sP m)
theorem sP_len (m : List (List Bool × V)) : (sP m).length = m.length := List.length_map _
theorem valV_kst (s : List Bool) : ∀ m : List (List Bool × V), valV (sP m) (kst s) = valV m s
  | [] => rfl
  | p :: m => by
    have ih := valV_kst s m
    unfold sP at ih ⊢
    rw [List.map_cons]
    by_cases e : p.1 = s
    · rw [valV_pos (p := (kst p.1, p.2)) (by rw [e]), valV_pos e]
    · rw [valV_neg (p := (kst p.1, p.2)) (fun z => e (kst_inj z)), valV_neg e, ih]
theorem putK_kst (m : List (List Bool × V)) (s : List Bool) (v : V) : putK (sP m) (kst s) v = sP (putK m s v) := by
  unfold putK
  rw [valV_any, valV_any, valV_kst]
  split
  · unfold sP
    rw [List.map_map, List.map_map]
    refine List.map_congr_left fun p _ => ?_
    by_cases e : p.1 = s
    · simp [e]
    · have : ¬ kst p.1 = kst s := fun z => e (kst_inj z)
      simp [e, this]
  · unfold sP; simp
theorem getS {H : Hp} {d b : Addr} {m : List (List Bool × V)} {s : List Bool} (e : Rd H d (sD m)) (eb : BAt H b s) : DGet H d (.ref b) (valV m s) :=
  .inr ⟨sP m, kst s, b, e, rfl, by rw [kst_kV]; exact eb, (valV_kst s m).symm⟩
theorem putS {H : Hp} {d b : Addr} {m : List (List Bool × V)} {s : List Bool} {v : V} (e : H d = some (sD m)) (eb : BAt H b s) (hl : m.length < sizeLine) : DPut H d (.ref b) v (upd H d (sD (putK m s v))) := by
  have := DPut.t (v := v) e (show H b = some (.tup ((kst s).map kV)) by rw [kst_kV]; exact eb) (by rw [sP_len]; exact hl)
  rw [putK_kst] at this
  exact this
def keysS (m : List (List Bool × V)) : List (List Bool) := m.map (·.1)
theorem valV_some {m : List (List Bool × V)} {s : List Bool} {v : V} (h : valV m s = some v) : (s, v) ∈ m := by
  unfold valV at h
  obtain ⟨p, h1, h2⟩ := Option.map_eq_some_iff.mp h
  have h3 := List.find?_some h1
  have h4 : p.1 = s := of_decide_eq_true h3
  have := List.mem_of_find?_eq_some h1
  rw [← h4, ← h2]
  exact this
theorem valV_none {m : List (List Bool × V)} {s : List Bool} : valV m s = none ↔ s ∉ keysS m := by
  unfold valV keysS
  rw [Option.map_eq_none_iff, List.find?_eq_none]
  constructor
  · intro h hm
    obtain ⟨p, h1, h2⟩ := List.mem_map.mp hm
    exact h p h1 (decide_eq_true h2)
  · intro h p hp hd
    exact h (List.mem_map.mpr ⟨p, hp, of_decide_eq_true hd⟩)
theorem valV_isSome {m : List (List Bool × V)} {s : List Bool} : (valV m s).isSome = true ↔ s ∈ keysS m := by
  cases e : valV m s with
  | none => have := valV_none.mp e; simp [this]
  | some v => simp; exact List.mem_map.mpr ⟨_, valV_some e, rfl⟩
theorem valV_mem {m : List (List Bool × V)} (nd : (keysS m).Nodup) {s : List Bool} {v : V} (h : (s, v) ∈ m) : valV m s = some v := by
  induction m with
  | nil => cases h
  | cons p m ih =>
    unfold keysS at nd
    rw [List.map_cons, List.nodup_cons] at nd
    rcases List.mem_cons.mp h with e | h
    · rw [← e, valV_pos rfl]
    · have hne : ¬ p.1 = s := fun z => nd.1 (by rw [z]; exact List.mem_map.mpr ⟨_, h, rfl⟩)
      rw [valV_neg hne]
      exact ih nd.2 h
theorem keys_put_new {m : List (List Bool × V)} {s : List Bool} {v : V} (h : s ∉ keysS m) : putK m s v = m ++ [(s, v)] := putK_new v (valV_none.mpr h)
theorem keys_snoc (m : List (List Bool × V)) (s : List Bool) (v : V) : keysS (m ++ [(s, v)]) = keysS m ++ [s] := by unfold keysS; simp
theorem nodup_snoc {α : Type} {l : List α} {x : α} (h : l.Nodup) (hx : x ∉ l) : (l ++ [x]).Nodup := by
  rw [List.nodup_append]
  exact ⟨h, by simp, fun a ha b hb => by simp at hb; subst hb; exact fun z => hx (z ▸ ha)⟩
theorem length_le_of_nodup {α : Type} [DecidableEq α] : ∀ {l r : List α}, l.Nodup → (∀ x ∈ l, x ∈ r) → l.length ≤ r.length
  | [], r, _, _ => Nat.zero_le _
  | x :: l, r, nd, h => by
    rw [List.nodup_cons] at nd
    have hx := h x (by simp)
    have := length_le_of_nodup (l := l) (r := r.erase x) nd.2 fun y hy => by
      have hne : y ≠ x := fun z => nd.1 (z ▸ hy)
      exact (List.mem_erase_of_ne hne).mpr (h y (by simp [hy]))
    rw [List.length_erase_of_mem hx] at this
    have : 0 < r.length := List.length_pos_of_mem hx
    simp only [List.length_cons]
    omega
theorem mem_allRows {n : Nat} : ∀ {st : List Bool}, st.length = n → st ∈ allRows n := by
  induction n with
  | zero => intro st h; have : st = [] := List.length_eq_zero_iff.mp h; subst this; simp [allRows]
  | succ n ih =>
    intro st h
    have hne : st ≠ [] := fun z => by rw [z] at h; simp at h
    have e := List.dropLast_concat_getLast hne
    have hl : st.dropLast.length = n := by simp [h]
    have hm := ih hl
    show st ∈ (allRows n).map (· ++ [false]) ++ (allRows n).map (· ++ [true])
    rw [← e, List.mem_append]
    cases hb : st.getLast hne with
    | false => exact .inl (List.mem_map.mpr ⟨_, hm, rfl⟩)
    | true => exact .inr (List.mem_map.mpr ⟨_, hm, rfl⟩)
theorem stands_le {n : Nat} {l : List (List Bool)} (nd : l.Nodup) (h : ∀ s ∈ l, s.length = n) : l.length ≤ 2 ^ n := by
  rw [← allRows_len]
  exact length_le_of_nodup nd fun s hs => mem_allRows (h s hs)
/-! ### what can be come to -/
inductive Reach (ws : List Wd) (pr st : List Bool) : List Bool → Prop
  | refl : Reach ws pr st st
  | step {s : List Bool} {k : Nat} : Reach ws pr st s → k ∈ movs ws pr s → Reach ws pr st (flip s k)
theorem Reach.len {ws : List Wd} {pr st s : List Bool} (h : Reach ws pr st s) : s.length = st.length := by
  induction h with
  | refl => rfl
  | step _ _ ih => rw [flip_len, ih]
/-- moves walked, all of relays that can move -/
def walkN (ws : List Wd) (pr : List Bool) : List Bool → List Nat → Option (List Bool)
  | st, [] => some st
  | st, k :: ks => if k ∈ movs ws pr st then walkN ws pr (flip st k) ks else none
/-- a paper that shows that st settles at rest -/
structure Paper (ws : List Wd) (pr st : List Bool) (N : List (List Bool × V)) (rest : List Bool) : Prop where
  nd : (keysS N).Nodup
  all : ∀ s, s ∈ keysS N ↔ Reach ws pr st s
  num : ∀ s v, (s, v) ∈ N → ∃ n : Nat, v = .int n
  falls : ∀ s n, (s, V.int n) ∈ N → ∀ k ∈ movs ws pr s, ∃ j : Int, (flip s k, V.int j) ∈ N ∧ j < n
  only : ∀ s, Reach ws pr st s → (movs ws pr s = [] ↔ s = rest)
  has : Reach ws pr st rest
end RR

end
section
set_option Elab.async false
set_option linter.all false
set_option maxRecDepth 100000
set_option maxHeartbeats 4000000
namespace L2
open PySem
/-- the turns of a loop over a dict that is kept -/
theorem for_dict {a : Addr} {o : Obj} {kvs : List (List Key × V)} {g : TG} {tb : TS} {D : Ends} {σ : St} {H : Hp} (Pv : Nat → St → Hp → Prop) (h0 : Pv 0 σ H) (hl : ∀ i σ H, i ≤ kvs.length → Pv i σ H → H a = some (.frz o (.dT kvs)))
    (hs : ∀ i kv b σ H, kvs[i]? = some kv → H b = some (.tup (kv.1.map kV)) → Pv i σ H → g (.ref b) σ H fun σ2 H2 => tb { D with nx := Pv (i + 1), ct := Pv (i + 1), bk := D.nx } σ2 H2) (hd : ∀ σ H, Pv kvs.length σ H → D.nx σ H) :
    ∃ W : Nat → Nat → St → Hp → Prop, (∃ m, W 0 m σ H) ∧ ∀ i m σ H, W i m σ H →
      ((Itd a o).stop i H ∧ D.nx σ H) ∨ ((Itd a o).go i H ∧ ∃ N : St → Hp → Prop, (∀ σ' H', N σ' H' → ∃ m', m' < m ∧ W (i + 1) m' σ' H') ∧ ∀ x H', (Itd a o).yld i H x H' → g x σ H' fun σ2 H2 => tb { D with nx := N, ct := N, bk := D.nx } σ2 H2) := by
  refine ⟨fun i m σ H => m = kvs.length - i ∧ i ≤ kvs.length ∧ Pv i σ H, ⟨kvs.length, by simp, Nat.zero_le _, h0⟩, ?_⟩
  rintro i m σ H ⟨rfl, hi, hP⟩
  have hq := hl i σ H hi hP
  by_cases hlt : i < kvs.length
  · refine .inr ⟨⟨kvs, hq, hlt⟩, Pv (i + 1), fun σ' H' h => ⟨kvs.length - (i + 1), by omega, rfl, hlt, h⟩, ?_⟩
    rintro x H' ⟨e1, e2⟩
    subst e1
    obtain ⟨kv, b, k1, rfl, k3⟩ := e2 kvs hq
    exact hs i kv b σ _ k1 k3 hP
  · have e : i = kvs.length := by omega
    subst e
    exact .inl ⟨⟨kvs, hq, Nat.le_refl _⟩, hd σ H hP⟩
theorem paired_snoc_inv {α β : Type} {R : α → β → Prop} : ∀ {l : List α} {r : List β} {y : β}, Paired R l (r ++ [y]) → ∃ l' x, l = l' ++ [x] ∧ Paired R l' r ∧ R x y
  | l, [], y, h => by
    cases h with
    | cons h t => cases t; exact ⟨[], _, rfl, .nil, h⟩
  | l, z :: r, y, h => by
    cases h with
    | cons h t =>
      obtain ⟨l', x, rfl, a, b⟩ := paired_snoc_inv t
      exact ⟨_ :: l', x, rfl, .cons h a, b⟩
/-- by its places -/
theorem paired_of_get {α β : Type} {R : α → β → Prop} : ∀ {l : List α} {r : List β}, r.length = l.length → (∀ (i : Nat) (x : α) (y : β), l[i]? = some x → r[i]? = some y → R x y) → Paired R l r
  | [], [], _, _ => .nil
  | [], _ :: _, h, _ => by simp at h
  | _ :: _, [], h, _ => by simp at h
  | x :: l, y :: r, h, g => .cons (g 0 x y rfl rfl) (paired_of_get (by simpa using h) fun i a b ha hb => g (i + 1) a b (by simpa using ha) (by simpa using hb))
end L2
namespace RR
open PySem PySem.W L2
/-- the steps from a stand, each with the relay -/
def SAt (H : Hp) (ws : List Wd) (pr s : List Bool) (v : V) : Prop := ∃ l us, v = .ref l ∧ H l = some (.lst us) ∧ Paired (fun (k : Nat) u => ∃ p q, u = V.ref p ∧ H p = some (.tup [.int k, .ref q]) ∧ BAt H q (flip s k)) (movs ws pr s) us
structure StepsOk (H : Hp) (ws : List Wd) (pr st : List Bool) (m : List (List Bool × V)) : Prop where
  nd : (keysS m).Nodup
  all : ∀ s, s ∈ keysS m ↔ Reach ws pr st s
  val : ∀ s v, (s, v) ∈ m → SAt H ws pr s v
  ord : ∀ (j : Nat) s, (keysS m)[j]? = some s → (s = st) ∨ ∃ i t k, i < j ∧ (keysS m)[i]? = some t ∧ k ∈ movs ws pr t ∧ s = flip t k
def spSteps (K : PySem.W.Frag) : Sp := fun vs H Q _ => ∃ (D b a : Addr) (ws : List Wd) (pr st : List Bool), vs = [.ref D, .ref b, .ref a] ∧ Bd K H D b ws pr ∧ BAt H a st ∧ st.length = ws.length ∧
  ∀ d m o H', H d = none → Same H H' → H' d = some (.frz o (sD m)) → StepsOk H' ws pr st m → Q (.ref d) H'
theorem pow64 {n : Nat} (h : n ≤ 6) : 2 ^ n ≤ 64 := Nat.le_trans (Nat.pow_le_pow_right (by decide) h) (by decide)
/-- the walk that finds the steps, between two turns -/
structure Grow (ws : List Wd) (pr st : List Bool) (m : List (List Bool × V)) (dl : List (List Bool)) : Prop where
  nd : (keysS m).Nodup
  rch : ∀ s ∈ keysS m, Reach ws pr st s
  due : (m = [] ∧ dl = [st]) ∨ ∀ s ∈ dl, ∃ t ∈ keysS m, ∃ k ∈ movs ws pr t, s = flip t k
  done : ∀ t ∈ keysS m, ∀ k ∈ movs ws pr t, flip t k ∈ keysS m ∨ flip t k ∈ dl
  start : st ∈ keysS m ∨ st ∈ dl
  ord : ∀ (j : Nat) s, (keysS m)[j]? = some s → (s = st) ∨ ∃ i t k, i < j ∧ (keysS m)[i]? = some t ∧ k ∈ movs ws pr t ∧ s = flip t k
end RR

end
section
set_option Elab.async false
set_option linter.all false
set_option maxRecDepth 100000
set_option maxHeartbeats 4000000
namespace RR
open PySem PySem.W L2
/-- a road to s -/
def RAt (H0 H : Hp) (ws : List Wd) (pr st s : List Bool) (n : Nat) (v : V) : Prop := ∃ l ks, v = V.ref l ∧ H0 l = none ∧ H l = some (.lst (nats ks)) ∧ walkN ws pr st ks = some s ∧ ks.length < n
structure RoadsOk (H0 H : Hp) (ws : List Wd) (pr st : List Bool) (mr : List (List Bool × V)) : Prop where
  all : ∀ s, Reach ws pr st s → s ∈ keysS mr
  val : ∀ s v, (s, v) ∈ mr → RAt H0 H ws pr st s 65 v
def spRoads : Sp := fun vs H Q _ => ∃ (d a : Addr) (o : Obj) (ws : List Wd) (pr st : List Bool) (m : List (List Bool × V)), vs = [.ref d, .ref a] ∧ H d = some (.frz o (sD m)) ∧ StepsOk H ws pr st m ∧ BAt H a st ∧ st.length ≤ 6 ∧
  ∀ r mr H', H r = none → Same H H' → H' r = some (sD mr) → RoadsOk H H' ws pr st mr → Q (.ref r) H'
theorem sP_get {m : List (List Bool × V)} {i : Nat} {kv : List Key × V} (h : (sP m)[i]? = some kv) : ∃ s v, m[i]? = some (s, v) ∧ kv = (kst s, v) ∧ (keysS m)[i]? = some s := by
  unfold sP at h
  rw [List.getElem?_map] at h
  cases e : m[i]? with
  | none => rw [e] at h; cases h
  | some p => rw [e] at h; cases h; exact ⟨p.1, p.2, rfl, rfl, by unfold keysS; rw [List.getElem?_map, e]; rfl⟩
theorem kst_at {H : Hp} {b : Addr} {s : List Bool} {v : V} (h : H b = some (.tup ((kst s, v).1.map kV))) : BAt H b s := by
  unfold BAt
  rw [h]
  show some (HO.tup ((kst s).map kV)) = _
  rw [kst_kV]
end RR
namespace RR
open PySem PySem.W L2
/-- stands numbered from the rests upwards -/
structure NumOk (ws : List Wd) (pr : List Bool) (m N : List (List Bool × V)) : Prop where
  nd : (keysS N).Nodup
  sub : ∀ s ∈ keysS N, s ∈ keysS m
  num : ∀ s v, (s, v) ∈ N → ∃ n : Nat, v = V.int n
  falls : ∀ s n, (s, V.int n) ∈ N → ∀ k ∈ movs ws pr s, ∃ j : Int, (flip s k, V.int j) ∈ N ∧ j < n
def Stuck (ws : List Wd) (pr : List Bool) (N : List (List Bool × V)) (s : List Bool) : Prop := s ∉ keysS N → ∃ k ∈ movs ws pr s, flip s k ∉ keysS N
def spNumbered : Sp := fun vs H Q _ => ∃ (d : Addr) (o : Obj) (ws : List Wd) (pr st : List Bool) (m : List (List Bool × V)), vs = [.ref d] ∧ H d = some (.frz o (sD m)) ∧ StepsOk H ws pr st m ∧ st.length ≤ 6 ∧ ws.length ≤ 6 ∧
  ∀ d' N H', H d' = none → Same H H' → H' d' = some (sD N) → NumOk ws pr m N → (∀ s ∈ keysS m, Stuck ws pr N s) → Q (.ref d') H'
end RR
namespace RR
open PySem PySem.W L2
/-! ### rings -/
def keepI (ws : List Wd) (pr : List Bool) (N : List (List Bool × V)) (s : List Bool) (i : Nat) : Bool := match (movs ws pr s)[i]? with
  | some k => !(valV N (flip s k)).isSome
  | none => false
/-- the first move that leads to a stand without a number -/
def nxK (ws : List Wd) (pr : List Bool) (N : List (List Bool × V)) (s : List Bool) : Option Nat := (((List.range (movs ws pr s).length).filter (keepI ws pr N s)).head?).bind fun i => (movs ws pr s)[i]?
def nxS (ws : List Wd) (pr : List Bool) (N : List (List Bool × V)) (s : List Bool) : List Bool := match nxK ws pr N s with
  | some k => flip s k
  | none => s
def itN (f : List Bool → List Bool) : Nat → List Bool → List Bool
  | 0, s => s
  | n + 1, s => f (itN f n s)
/-- a stand without a number, of the steps -/
def Free (m N : List (List Bool × V)) (s : List Bool) : Prop := s ∈ keysS m ∧ s ∉ keysS N
def OnRing (ws : List Wd) (pr : List Bool) (N : List (List Bool × V)) (s : List Bool) : Prop := ∃ J, 1 ≤ J ∧ J ≤ 64 ∧ itN (nxS ws pr N) J s = s
def spEndless : Sp := fun vs H Q _ => ∃ (d e b : Addr) (o : Obj) (ws : List Wd) (pr st s : List Bool) (m N : List (List Bool × V)), vs = [.ref d, .ref e, .ref b] ∧ H d = some (.frz o (sD m)) ∧ StepsOk H ws pr st m ∧ ws.length ≤ 6 ∧ H e = some (sD N) ∧ BAt H b s ∧ Free m N s ∧ (∀ s ∈ keysS m, Stuck ws pr N s) ∧
  ∀ p c k H', Same H H' → nxK ws pr N s = some k → H' p = some (.tup [.int (k : Nat), .ref c]) → BAt H' c (flip s k) → Q (.ref p) H'
def spOnRing : Sp := fun vs H Q _ => ∃ (d e : Addr) (o : Obj) (ws : List Wd) (pr st : List Bool) (m N : List (List Bool × V)), vs = [.ref d, .ref e] ∧ H d = some (.frz o (sD m)) ∧ StepsOk H ws pr st m ∧ ws.length ≤ 6 ∧ st.length ≤ 6 ∧ H e = some (sD N) ∧ (∃ s, Free m N s) ∧ (∀ s ∈ keysS m, Stuck ws pr N s) ∧
  ∀ p s H', Same H H' → BAt H' p s → Free m N s → OnRing ws pr N s → Q (.ref p) H'
def spRing : Sp := fun vs H Q _ => ∃ (d e b : Addr) (o : Obj) (ws : List Wd) (pr st s : List Bool) (m N : List (List Bool × V)), vs = [.ref d, .ref e, .ref b] ∧ H d = some (.frz o (sD m)) ∧ StepsOk H ws pr st m ∧ ws.length ≤ 6 ∧ H e = some (sD N) ∧ BAt H b s ∧ Free m N s ∧ (∀ s ∈ keysS m, Stuck ws pr N s) ∧ OnRing ws pr N s ∧
  ∀ l ks H', H l = none → Same H H' → H' l = some (.lst (nats ks)) → ks ≠ [] → walkN ws pr s ks = some s → Q (.ref l) H'
end RR
namespace RR
open PySem PySem.W L2
/-- what is told of a stand -/
inductive Told (H0 H : Hp) (ws : List Wd) (pr st : List Bool) : Str → V → V → Prop
  | settles (c d : Addr) (rest : List Bool) (N : List (List Bool × V)) : BAt H c rest → H0 d = none → H d = some (sD N) → Paper ws pr st N rest → Told H0 H ws pr st "settles" (.ref c) (.ref d)
  | parts (l1 l2 : Addr) (k1 k2 : List Nat) (r1 r2 : List Bool) : H0 l1 = none → H0 l2 = none → H l1 = some (.lst (nats k1)) → H l2 = some (.lst (nats k2)) → walkN ws pr st k1 = some r1 → walkN ws pr st k2 = some r2 → movs ws pr r1 = [] → movs ws pr r2 = [] → r1 ≠ r2 → k1.length < 65 → Told H0 H ws pr st "parts" (.ref l1) (.ref l2)
  | rounds (l1 l2 : Addr) (k1 k2 : List Nat) (r1 : List Bool) : H0 l1 = none → H0 l2 = none → H l1 = some (.lst (nats k1)) → H l2 = some (.lst (nats k2)) → walkN ws pr st k1 = some r1 → walkN ws pr r1 k2 = some r1 → k2 ≠ [] → k1.length < 65 → Told H0 H ws pr st "rounds" (.ref l1) (.ref l2)
def spJudged (K : PySem.W.Frag) : Sp := fun vs H Q _ => ∃ (D b a : Addr) (ws : List Wd) (pr st : List Bool), vs = [.ref D, .ref b, .ref a] ∧ Bd K H D b ws pr ∧ BAt H a st ∧ st.length = ws.length ∧
  ∀ p kd x y H', Same H H' → H' p = some (.tup [.str kd, x, y]) → Told H H' ws pr st kd x y → Q (.ref p) H'
end RR

end
section
set_option Elab.async false
set_option linter.all false
set_option maxRecDepth 100000
set_option maxHeartbeats 4000000
namespace L2
open PySem
end L2
namespace RR
open PySem PySem.W L2
def spReach (K : PySem.W.Frag) : Sp := fun vs H Q _ => ∃ (D b a : Addr) (ws : List Wd) (pr st : List Bool), vs = [.ref D, .ref b, .ref a] ∧ Bd K H D b ws pr ∧ BAt H a st ∧ st.length = ws.length ∧
  ∀ l ss us H', H l = none → Same H H' → H' l = some (.lst us) → RowsAt' H' ss us → ss.Nodup → (∀ s, s ∈ ss ↔ Reach ws pr st s) → Q (.ref l) H'
def spRoad (K : PySem.W.Frag) : Sp := fun vs H Q _ => ∃ (D b a l : Addr) (ws : List Wd) (pr st s : List Bool) (ks : List Nat), vs = [.ref D, .ref b, .ref a, .ref l] ∧ Bd K H D b ws pr ∧ BAt H a st ∧ st.length = ws.length ∧ H l = some (.lst (nats ks)) ∧ walkN ws pr st ks = some s ∧
  ∀ c H', Same H H' → BAt H' c s → Q (.ref c) H'
def spSettles (K : PySem.W.Frag) : Sp := fun vs H Q _ => ∃ (D b a c d : Addr) (ws : List Wd) (pr st rest : List Bool) (N : List (List Bool × V)), vs = [.ref D, .ref b, .ref a, .ref c, .ref d] ∧ Bd K H D b ws pr ∧ BAt H a st ∧ st.length = ws.length ∧ BAt H c rest ∧ H d = some (sD N) ∧ Paper ws pr st N rest ∧
  ∀ H', Same H H' → Q (.bl true) H'
def spRight (K : PySem.W.Frag) : Sp := fun vs H Q _ => ∃ (p D b a : Addr) (H0 : Hp) (kd : Str) (x y : V) (ws : List Wd) (pr st : List Bool), vs = [.ref p, .ref D, .ref b, .ref a] ∧ H p = some (.tup [.str kd, x, y]) ∧ Bd K H D b ws pr ∧ BAt H a st ∧ st.length = ws.length ∧ Told H0 H ws pr st kd x y ∧
  ∀ H', Same H H' → Q (.bl true) H'
/-- the walk that sees all, between two turns -/
structure Seen2 (ws : List Wd) (pr st : List Bool) (m : List (List Bool × V)) (dl : List (List Bool)) : Prop where
  nd : (keysS m).Nodup
  rch : ∀ s ∈ keysS m, Reach ws pr st s
  start : st ∈ keysS m
  left : ∀ s ∈ dl, s ∈ keysS m
  done : ∀ t ∈ keysS m, t ∈ dl ∨ ∀ k ∈ movs ws pr t, flip t k ∈ keysS m
  len : dl.length ≤ m.length
theorem rows_of_list {H : Hp} : ∀ {m : List (List Bool × V)} {ys : List V}, Paired (fun (kv : List Key × V) y => ∃ b, y = V.ref b ∧ H b = some (.tup (kv.1.map kV))) (sP m) ys → RowsAt' H (keysS m) ys
  | [], ys, h => by cases h; exact .nil
  | p :: m, ys, h => by
    cases h with
    | cons h t =>
      obtain ⟨b, e1, e2⟩ := h
      exact .cons ⟨b, e1, by unfold BAt; rw [e2, kst_kV]⟩ (rows_of_list t)
theorem eqv_rows_nil (dl : List (List Bool)) : PyData.eqv (rowsD dl) (natsD []) = dl.isEmpty := by
  have := eqv_rows dl []
  show PyData.eqv (rowsD dl) (rowsD []) = _
  rw [this]
  cases dl <;> simp
theorem Reach.closed {ws : List Wd} {pr st : List Bool} {S : List (List Bool)} (h0 : st ∈ S) (h : ∀ t ∈ S, ∀ k ∈ movs ws pr t, flip t k ∈ S) {s : List Bool} (hs : Reach ws pr st s) : s ∈ S := by
  induction hs with
  | refl => exact h0
  | step _ hk ih => exact h _ ih _ hk
end RR

end
section
set_option Elab.async false
set_option linter.all false
set_option maxRecDepth 100000
set_option maxHeartbeats 4000000
namespace L2
open PySem PyProof.Rows
section
variable {X : Cx}
end
end L2
namespace RR
open PySem PySem.W L2
def spWalkedC (K : Frag) : Sp := fun vs H Q _ => ∃ (D b a l : Addr) (ws : List Wd) (pr st st' : List Bool) (ms : List Int), vs = [.ref D, .ref b, .ref a, .ref l] ∧ Bd K H D b ws pr ∧ BAt H a st ∧ st.length = ws.length ∧ SqL K H l (ms.map V.int) ∧ walkI ws pr st ms = .inr st' ∧ ∀ p H', Same H H' → BAt H' p st' → Q (.ref p) H'
/-! ### showings -/
def numOf (N : List (List Bool × V)) (s : List Bool) : Option Int := match valV N s with
  | some (.int j) => some j
  | _ => none
def lowB (N : List (List Bool × V)) (n : Int) (s : List Bool) : Bool := match numOf N s with
  | some j => decide (j < n)
  | none => false
def okN (ws : List Wd) (pr : List Bool) (N : List (List Bool × V)) (s : List Bool) (n : Int) : Bool := decide (0 ≤ n) && (movs ws pr s).all fun k => lowB N n (flip s k)
def okP (ws : List Wd) (pr : List Bool) (N : List (List Bool × V)) (p : List Bool × V) : Bool := match p.2 with
  | .int n => okN ws pr N p.1 n
  | _ => false
def endsB (ws : List Wd) (pr : List Bool) (N : List (List Bool × V)) : Nat := (N.filter fun p => (movs ws pr p.1).isEmpty).length
def showsB (ws : List Wd) (pr : List Bool) (N : List (List Bool × V)) (st : List Bool) : Bool :=
  decide (st ∈ keysS N) && N.all (okP ws pr N) && decide (endsB ws pr N = 1)
/-- stands of the board, each with a number -/
structure NumsD (n : Nat) (N : List (List Bool × V)) : Prop where
  nd : (keysS N).Nodup
  len : ∀ s ∈ keysS N, s.length = n
  num : ∀ s v, (s, v) ∈ N → ∃ i : Int, v = V.int i
def spLeads (K : Frag) : Sp := fun vs H Q _ => ∃ (d b l : Addr) (n : Int) (N : List (List Bool × V)) (s : List Bool) (rs : List (List Bool)) (us : List V), vs = [.ref d, .ref b, .ref l] ∧ Rd H d (sD N) ∧ (∀ x v, (x, v) ∈ N → ∃ i : Int, v = V.int i) ∧ BAt H b s ∧ valV N s = some (.int n) ∧ H l = some (.lst us) ∧ RowsAt' H rs us ∧ us.length ≤ 1000 ∧
  ∀ H', Same H H' → Q (.bl (rs.all (lowB N n))) H'
def spShows (K : Frag) : Sp := fun vs H Q _ => ∃ (D b a d : Addr) (o : Obj) (ws : List Wd) (pr st : List Bool) (N : List (List Bool × V)), vs = [.ref D, .ref b, .ref a, .ref d] ∧ Bd K H D b ws pr ∧ BAt H a st ∧ H d = some (.frz o (sD N)) ∧ NumsD ws.length N ∧
  ∀ H', Same H H' → Q (.bl (showsB ws pr N st)) H'
end RR

end
section
set_option Elab.async false
set_option linter.all false
set_option maxRecDepth 100000
set_option maxHeartbeats 4000000
namespace L2
open PySem PySem.Spec PyProof.Rows
section
variable {prog : Program} {w : World} {A : Around} {E : Value → Shared → Prop} {s : Shared} {a : Addr}
end
section
variable {prog : Program} {w : World} {A : Around} {E : Value → Shared → Prop} {d it l : Addr}
abbrev tk2 (prog : Program) (w : World) := tupleKind (mixKind prog w)
theorem is_keep {h h' : Heap} {ks : List Key} {b : Addr} (D : (tk2 prog w).is h ks b) (hk : ∀ o, h.get? b = some o → h'.get? b = some o) : (tk2 prog w).is h' ks b := by
  obtain ⟨o', its, n, g1, g2⟩ := D
  exact ⟨o', its, n, hk _ g1, g2⟩
def foldH (kv : List (List Key × Addr × Value)) : List (List Key × Addr × Value) := kv.foldl (fun xs x => storedH xs x.1 x.2.1 x.2.2) []
end
/-- pairs of a key and a value, as they lie -/
def PairAt (H : Hp) (kv : List Key × V) (y : V) : Prop := ∃ p b, y = V.ref p ∧ H p = some (.tup [.ref b, kv.2]) ∧ H b = some (.tup (kv.1.map kV))
section
variable {X : Cx}
end
end L2

end
section
set_option Elab.async false
set_option linter.all false
set_option maxRecDepth 100000
set_option maxHeartbeats 4000000
namespace RR
open PySem L2
/-- a tuple of bools as it is hashed -/
def hB (bs : List Bool) : Int := reduceHash (Builtin.Tuple.tupleHashOf (bs.map fun b => if b = true then 1 else 0))
def rowsB : Nat → List (List Bool)
  | 0 => [[]]
  | n + 1 => (rowsB n).map (false :: ·) ++ (rowsB n).map (true :: ·)
theorem mem_rowsB : ∀ (bs : List Bool), bs ∈ rowsB bs.length
  | [] => by simp [rowsB]
  | false :: r => by
    have := mem_rowsB r
    simp only [List.length_cons, rowsB, List.mem_append, List.mem_map]
    exact .inl ⟨r, this, rfl⟩
  | true :: r => by
    have := mem_rowsB r
    simp only [List.length_cons, rowsB, List.mem_append, List.mem_map]
    exact .inr ⟨r, this, rfl⟩
theorem hashes : ∀ n, n < 7 → ((rowsB n).map hB).Nodup := by decide +kernel
theorem inj_of_nodup {α β : Type} {f : α → β} : ∀ {l : List α}, (l.map f).Nodup → ∀ {x y : α}, x ∈ l → y ∈ l → f x = f y → x = y
  | [], _, _, _, h, _, _ => by cases h
  | a :: l, nd, x, y, hx, hy, e => by
    rw [List.map_cons, List.nodup_cons] at nd
    rcases List.mem_cons.mp hx with h1 | h1
    · rcases List.mem_cons.mp hy with h2 | h2
      · rw [h1, h2]
      · exact absurd (List.mem_map.mpr ⟨y, h2, by rw [← e, h1]⟩) nd.1
    · rcases List.mem_cons.mp hy with h2 | h2
      · exact absurd (List.mem_map.mpr ⟨x, h1, by rw [e, h2]⟩) nd.1
      · exact inj_of_nodup nd.2 h1 h2 e
theorem hB_inj {x y : List Bool} (h : x.length = y.length) (h6 : x.length ≤ 6) (e : hB x = hB y) : x = y :=
  inj_of_nodup (hashes x.length (by omega)) (mem_rowsB x) (h ▸ mem_rowsB y) e
theorem key_hash (P : Program) (w : World) (bs : List Bool) : (tk2 P w).hash (bs.map Sum.inl) = hB bs := by
  show reduceHash (Builtin.Tuple.tupleHashOf (List.map (keyH w) (bs.map Sum.inl))) = _
  rw [List.map_map]
  unfold hB
  congr 2
  refine List.map_congr_left fun b _ => ?_
  cases b <;> rfl
end RR

end
section
set_option Elab.async false
set_option linter.all false
set_option maxRecDepth 100000
set_option maxHeartbeats 4000000
namespace L2
open PySem PySem.Spec PyProof.Rows
section
variable {prog : Program} {w : World} {A : Around} {E : Value → Shared → Prop}
theorem lk_dict_iter : typeLookup (.type "dict") "__iter__" = pure (some (.builtin "dict.__iter__")) := by rw [typeLookup_type, builtinLookup_eq_fast]; kernel_rfl
theorem lk_tuple_eq : typeLookup (.type "tuple") "__eq__" = pure (some (.builtin "tuple.__eq__")) := by rw [typeLookup_type, builtinLookup_eq_fast]; kernel_rfl
theorem sub_dict : isSubtype (.type "dict") (.type "dict") = pure true := by rfl
theorem for_quiet {M : Model} {s : Shared} {f : DictEntry → PUnit → Sem (ForInStep PUnit)} {Q : PUnit → Shared → Prop} : ∀ (l : List DictEntry), (∀ e ∈ l, ∀ (R : ForInStep PUnit → Shared → Prop), R (.yield PUnit.unit) s → wpAny M A (f e PUnit.unit) R E s) → Q PUnit.unit s → wpAny M A (forIn l PUnit.unit f) Q E s
  | [], _, q => by
    rw [List.forIn_nil]
    exact wpAny_pure q
  | e :: l, h, q => by
    rw [List.forIn_cons]
    refine wpAny_bind (h e (by simp) _ ?_)
    exact for_quiet l (fun x hx => h x (List.mem_cons_of_mem _ hx)) q
theorem filter_one {α : Type} {f : α → Int} {c : Int} : ∀ {l : List α}, (l.map f).Nodup → (l.filter fun x => f x == c).length ≤ 1
  | [], _ => by simp
  | a :: l, h => by
    rw [List.map_cons, List.nodup_cons] at h
    rw [List.filter_cons]
    split
    · next e =>
      have e : f a = c := by simpa using e
      have : l.filter (fun x => f x == c) = [] := by
        rw [List.filter_eq_nil_iff]
        intro x hx z
        have z : f x = c := by simpa using z
        exact h.1 (List.mem_map.mpr ⟨x, hx, by rw [z, e]⟩)
      rw [this]
      simp
    · exact filter_one h.2
theorem empty_entries {s : Shared} {l : Addr} {xs : List (List Key × Addr × Value)} {id : String} {Q : Array DictEntry → Shared → Prop} {o : Obj} {es : Array DictEntry} {ep : Nat} (g1 : s.heap.get? l = some o) (g3 : o.data = .dict es ep) (g4 : es.toList = xs.map (entryOfKey (tk2 prog w))) (g5 : ∀ x ∈ xs, (tk2 prog w).is s.heap x.1 x.2.1) (hnd : (xs.map fun x => (tk2 prog w).hash x.1).Nodup)
    (q : Q es s) : wpAny (model prog w) A (Builtin.Dict.entriesForEmpty id l) Q E s := by
  unfold Builtin.Dict.entriesForEmpty
  refine wpAny_bind (wpAny_dictEntries g1 g3 ?_)
  refine wpAny_bind ?_
  rw [← Array.forIn_toList]
  refine for_quiet es.toList (fun e he R hR => ?_) (wpAny_pure q)
  rw [g4] at he
  obtain ⟨x, hx, rfl⟩ := List.mem_map.mp he
  have htt : s.TypeIs (.ref x.2.1) "tuple" := by
    obtain ⟨o', _, _, ho', hc', _⟩ := (show IsTupleKey (mixKind prog w) s.heap x.1 x.2.1 from g5 x hx)
    exact ⟨o', ho', hc'⟩
  refine wpAny_bind ?_
  show wpAny (model prog w) A (Builtin.Dict.quietEq (.ref x.2.1)) _ _ _
  unfold Builtin.Dict.quietEq
  refine wpAny_bind (wpAny_specialOf htt lk_tuple_eq (wpAny_pure ?_))
  rw [if_pos (by decide), if_neg ?_]
  · exact wpAny_pure hR
  have e : (Array.filter (fun x_1 => x_1.hash == (entryOfKey (tk2 prog w) x).hash) es).size = (xs.filter fun y => (tk2 prog w).hash y.1 == (tk2 prog w).hash x.1).length := by
    rw [← Array.length_toList, Array.toList_filter, g4, List.filter_map, List.length_map]
    rfl
  rw [e]
  have := filter_one (c := (tk2 prog w).hash x.1) hnd
  omega
theorem call_dict_copy {s : Shared} {l : Addr} {xs : List (List Key × Addr × Value)} {Q : Value → Shared → Prop} (D : s.heap.DictOfH (tk2 prog w) l xs) (hsys : (l == sysModules) = false) (hnd : (xs.map fun x => (tk2 prog w).hash x.1).Nodup) (h1000 : xs.length ≤ 1000)
    (hQ : ∀ h' tk, (∀ b o, s.heap.get? b = some o → h'.get? b = some o) → h'.DictOfH (tk2 prog w) s.heap.objs.size xs → Q (.ref s.heap.objs.size) { s with heap := h', toks := tk }) : wpAny (model prog w) A (call (.type "dict") [.ref l]) Q E s := by
  refine callType_codes (Q₁ := fun obj s₁ => obj = .ref s.heap.objs.size ∧ s₁ = { s with heap := s.heap.push { cls := .type "dict", data := .dict #[] } }) F.kt_called_dict (F.kt_typeCall_dict_1 _) F.entry_dict_init (PySem.kt_code_dict_new _ ⟨rfl, rfl⟩) ?_
  rintro obj s₁ ⟨rfl, rfl⟩
  have hnew : (s.heap.push { cls := .type "dict", data := .dict #[] }).get? s.heap.objs.size = some { cls := .type "dict", data := .dict #[] } := Heap.get?_push_size _ rfl
  refine ⟨⟨_, hnew, rfl⟩, F.args_dict_init_2 _ _, ?_⟩
  unfold Builtin.«dict.__init__»
  refine wpAny_bind ?_
  unfold Builtin.Dict.selfAndRest
  have hty : ({ s with heap := s.heap.push { cls := .type "dict", data := .dict #[] } } : Shared).TypeIs (.ref s.heap.objs.size) "dict" := ⟨_, hnew, rfl⟩
  refine wpAny_bind (wpAny_notOrdered_dict hty ?_)
  show wpAny _ _ (pure (s.heap.objs.size, [Value.ref l])) _ _ _
  refine wpAny_pure ?_
  have pk : ∀ b o, s.heap.get? b = some o → (s.heap.push { cls := .type "dict", data := .dict #[] }).get? b = some o := fun b o e => Heap.get?_push_of_some _ e
  show wpAny _ _ (Builtin.Dict.updateFrom "dict.__init__" s.heap.objs.size (.ref l) [] .none) _ _ _
  unfold Builtin.Dict.updateFrom
  obtain ⟨o, es, ep, g1, g2, g3, g4, g5, g6⟩ := id D
  have hne : s.heap.objs.size ≠ l := fun e => absurd (Heap.lt_size g1) (by rw [← e]; exact Nat.lt_irrefl _)
  have hty2 : ({ s with heap := s.heap.push { cls := .type "dict", data := .dict #[] } } : Shared).TypeIs (.ref l) "dict" := ⟨_, pk _ _ g1, g2.1⟩
  refine wpAny_bind (wpAny_typeOf hty2 ?_)
  rw [if_neg (by decide)]
  refine wpAny_bind ?_
  unfold Builtin.Dict.merge
  refine wpAny_bind ?_
  unfold Builtin.Dict.readDirectly
  refine wpAny_bind (wpAny_isInstance hty2 sub_dict ?_)
  rw [if_neg (by decide)]
  refine wpAny_bind (wpAny_specialOf hty2 lk_dict_iter (wpAny_pure ?_))
  rw [if_pos (by decide)]
  refine wpAny_bind (wpAny_pure ?_)
  unfold Builtin.Dict.mergeDict
  rw [if_neg (by simpa using hne)]
  refine wpAny_bind ?_
  unfold Builtin.Dict.showsAll
  rw [if_neg (by rw [hsys]; decide)]
  refine wpAny_pure ?_
  refine wpAny_bind (wpAny_dictEntries (pk _ _ g1) g3 ?_)
  cases xs with
  | nil =>
    have he : es = #[] := by
      apply Array.toList_inj.mp
      rw [g4]
      rfl
    subst he
    rw [if_neg (by simp)]
    refine wpAny_bind (wpAny_dictEpoch (pk _ _ g1) g3 ?_)
    refine wpAny_bind (wpAny_dictEntries (pk _ _ g1) g3 ?_)
    have e0 : ∀ (f : Nat → PUnit → Sem (ForInStep PUnit)), (forIn [:(#[] : Array DictEntry).size] PUnit.unit f : Sem PUnit) = pure PUnit.unit := fun f => by first | rfl | simp
    rw [e0]
    refine wpAny_bind (wpAny_pure (wpAny_pure ?_))
    refine wpAny_bind (wpAny_bind (wpAny_pure (wpAny_pure (wpAny_pure ⟨rfl, ?_⟩))))
    exact hQ _ _ pk ⟨_, _, _, hnew, ⟨rfl, rfl, rfl⟩, rfl, rfl, fun x hx => by (cases hx), .nil⟩
  | cons x xs =>
    have hes : es.toList = entryOfKey (tk2 prog w) x :: xs.map (entryOfKey (tk2 prog w)) := g4
    have hfew : (decide (es.size ≤ 8) && es.all fun e => (keyPart e.key).isSome) = false := by
      have : (es.all fun e => (keyPart e.key).isSome) = false := by
        rw [← Array.all_toList, hes, List.all_cons]
        rfl
      rw [this, Bool.and_false]
    have hse : es.size ≤ 1000 := by
      rw [← Array.length_toList, g4, List.length_map]
      exact h1000
    show wpAny (model prog w) A.in1.in1 (if (!(decide (es.size ≤ 8) && es.all fun e => (keyPart e.key).isSome)) = true then _ else _) _ _ _
    rw [hfew, if_pos (by decide)]
    refine wpAny_bind (wpAny_dictEntries hnew rfl ?_)
    rw [if_pos (by rfl)]
    refine wpAny_bind (empty_entries (pk _ _ g1) g3 g4 (fun y hy => is_keep (g5 y hy) fun o e => pk _ _ e) hnd ?_)
    have hne2 : es.isEmpty = false := by
      rw [← Array.isEmpty_toList, hes]
      rfl
    rw [hne2, if_pos (by decide)]
    refine wpAny_bind (wpAny_updateDictKeysTo hnew rfl ?_ (by rw [sizeLine_eq]; omega))
    refine wpAny_pure ?_
    refine wpAny_bind (wpAny_bind (wpAny_pure (wpAny_pure (wpAny_pure ⟨rfl, ?_⟩))))
    refine hQ _ _ (fun b ob e => ?_) ?_
    · have hb : b ≠ s.heap.objs.size := Nat.ne_of_lt (Heap.lt_size e)
      rw [Heap.get?_update_ne _ _ _ _ hb]
      exact pk _ _ e
    · have hup := Heap.get?_update_self (h := s.heap.push { cls := .type "dict", data := .dict #[] }) (Obj.mapDictKeys fun _ => es) hnew rfl
      refine ⟨_, es, 1, hup, ⟨rfl, rfl, rfl⟩, rfl, g4, fun y hy => ?_, g6⟩
      refine is_keep (g5 y hy) fun ob e => ?_
      have hb : y.2.1 ≠ s.heap.objs.size := Nat.ne_of_lt (Heap.lt_size e)
      rw [Heap.get?_update_ne _ _ _ _ hb]
      exact pk _ _ e
end
end L2
namespace L2
open PySem PySem.Spec PyProof.Rows
/-- all keys are rows of n bools -/
def RowKeys (n : Nat) (kvs : List (List Key × V)) : Prop := ∀ kv ∈ kvs, ∃ bs : List Bool, kv.1 = bs.map Sum.inl ∧ bs.length = n
theorem kt_keys {H : Hp} : ∀ {kvs : List (List Key × V)} {xs : List (List Key × Addr × Value)}, KT H kvs xs → xs.map (·.1) = kvs.map (·.1)
  | _, _, .nil => rfl
  | _, _, .cons h t => by rw [List.map_cons, List.map_cons, kt_keys t, h.1]
theorem map_nodup {α β : Type} {f : α → β} : ∀ {l : List α}, (∀ x ∈ l, ∀ y ∈ l, f x = f y → x = y) → l.Nodup → (l.map f).Nodup
  | [], _, _ => .nil
  | a :: l, h, nd => by
    rw [List.nodup_cons] at nd
    rw [List.map_cons, List.nodup_cons]
    refine ⟨fun z => ?_, map_nodup (fun x hx y hy => h x (List.mem_cons_of_mem _ hx) y (List.mem_cons_of_mem _ hy)) nd.2⟩
    obtain ⟨y, hy, e⟩ := List.mem_map.mp z
    have := h y (List.mem_cons_of_mem _ hy) a (by simp) e
    exact nd.1 (this ▸ hy)
section
variable {X : Cx}
/-- dict(d) of a dict with rows as keys -/
theorem call_dictD : CallR X (.type "dict") (fun xs H Q => ∃ a kvs n, xs = [.ref a] ∧ Rd H a (.dT kvs) ∧ RowKeys n kvs ∧ n ≤ 6 ∧ kvs.length ≤ 1000 ∧ ∀ d, H d = none → Q (.ref d) (upd H d (.dT kvs))) := by
  intro pins s σ H xs us Q I r h
  obtain ⟨a, kvs, n, rfl, e, hk, h6, hl, q⟩ := h
  obtain ⟨u, rfl, rx⟩ := vals1 r
  cases rx
  obtain ⟨z, y, xs, k1, D⟩ := dt_rd I.hok e
  have hxl : xs.length = kvs.length := (Paired.length k1).symm
  have hkeys := kt_keys k1
  have hnd : (xs.map (·.1)).Nodup := by
    obtain ⟨_, _, _, _, _, _, _, _, nd⟩ := D
    exact nd
  have hh : (xs.map fun x => (tk2 X.prog X.w).hash x.1).Nodup := by
    have e1 : (xs.map fun x => (tk2 X.prog X.w).hash x.1) = (xs.map (·.1)).map (tk2 X.prog X.w).hash := by rw [List.map_map]; rfl
    rw [e1]
    refine map_nodup (fun p hp r hr e => ?_) hnd
    rw [hkeys] at hp hr
    obtain ⟨kv, hkv, rfl⟩ := List.mem_map.mp hp
    obtain ⟨kw, hkw, rfl⟩ := List.mem_map.mp hr
    obtain ⟨b1, e1, l1⟩ := hk kv hkv
    obtain ⟨b2, e2, l2⟩ := hk kw hkw
    rw [e1, e2] at e ⊢
    rw [RR.key_hash, RR.key_hash] at e
    rw [RR.hB_inj (by omega) (by omega) e]
  refine call_dict_copy D y hh (by omega) fun h' tk kp D' => ?_
  obtain ⟨o, es, ep, g1, g2, g3, g4, _, g6⟩ := D'
  have hn := I.hok.fresh (Nat.le_refl s.heap.objs.size)
  refine ⟨.ref s.heap.objs.size, _, I.laid (a := s.heap.objs.size) (o := .dT kvs) (t' := tk) kp (Nat.le_refl _) ⟨z, beq_eq_false_iff_ne.mpr (Ne.symm (Nat.ne_of_lt I.big)), xs, ?_, o, es, ep, g1, g2, g3, g4, g6⟩, rfl, q _ hn⟩
  exact KT.keeps k1 fun c ys' ec => by rw [upd_ne (fun z => by rw [z, hn] at ec; cases ec)]; exact ec
end
end L2

end
section
set_option Elab.async false
set_option linter.all false
set_option maxRecDepth 100000
set_option maxHeartbeats 4000000
namespace L2
open PySem PySem.Spec PyProof.Rows
section
variable {prog : Program} {w : World} {A : Around} {E : Value → Shared → Prop}
theorem call_dict_pop {s : Shared} {d a : Addr} {xs ys : List (List Key × Addr × Value)} {k : List Key} {p : Addr × Value} {Q : Value → Shared → Prop} (hu : A.units + 1 < cLine) (D : s.heap.DictOfH (tk2 prog w) d (xs ++ (k, p) :: ys)) (hk : (tk2 prog w).is s.heap k a) (h1000 : (xs ++ (k, p) :: ys).length ≤ 1000)
    (hQ : ∀ h' tk, Heap.SameBut d s.heap h' → h'.DictOfH (tk2 prog w) d (xs ++ ys) → Q p.2 { s with heap := h', toks := tk }) : wpAny (model prog w) A (call (.builtin "dict.pop") [.ref d, .ref a]) Q E s := by
  obtain ⟨o, es, ep, g1, g2, g3, g4, g5, g6⟩ := id D
  have hty : s.TypeIs (.ref d) "dict" := ⟨_, g1, g2.1⟩
  refine wpAny_call_entry PySem.F.slot_dict_pop hty PySem.F.entry_dict_pop ?_ (PySem.F.args_dict_pop_2 _ _)
  unfold Builtin.«dict.pop»
  refine wpAny_bind ?_
  unfold Builtin.Dict.keyAndDefault
  refine wpAny_bind (wpAny_notOrdered_dict hty ?_)
  refine wpAny_bind (wpAny_pure ?_)
  refine wpAny_bind (wpAny_pure ?_)
  refine wpAny_bind (wpAny_pure (wpAny_pure ?_))
  have hne : es.isEmpty = false := by
    rw [← Array.isEmpty_toList, g4]
    cases xs <;> rfl
  have hsz : es.size ≤ 1000 := by
    rw [← Array.length_toList, g4, List.length_map]
    exact h1000
  refine wpAny_bind (wpAny_dictEntries g1 g3 ?_)
  refine wpAny_bind (wpAny_pure ?_)
  rw [hne]
  refine wpAny_bind ?_
  unfold Builtin.Dict.takeOut
  refine wpAny_holding ?_
  refine wpAny_bind ((tk2 prog w).pyHash (show A.units + 1 < cLine from hu) hk ?_)
  refine wpAny_bind (wpAny_dictFind_heap (show A.units + 1 < cLine from hu) hk g1 g3 g4 g5 g6 (fun no => ?_) (fun j p2 hj => ?_))
  · exact absurd (show (xs ++ (k, p) :: ys)[xs.length]? = some (k, p) by simp) (no xs.length p)
  have hj' : j = xs.length ∧ p2 = p := by
    have e1 : ((xs ++ (k, p) :: ys).map (·.1))[xs.length]? = some k := by simp
    have e2 : ((xs ++ (k, p) :: ys).map (·.1))[j]? = some k := by rw [List.getElem?_map, hj]; rfl
    have hl : xs.length < ((xs ++ (k, p) :: ys).map (·.1)).length := by simp
    have e : xs.length = j := (List.getElem?_inj hl g6).mp (e1.trans e2.symm)
    subst e
    refine ⟨rfl, ?_⟩
    have : (xs ++ (k, p) :: ys)[xs.length]? = some (k, p) := by simp
    rw [this] at hj
    cases hj
    rfl
  obtain ⟨rfl, rfl⟩ := hj'
  refine wpAny_bind (wpAny_dictEntries g1 g3 ?_)
  have hat : es[xs.length]? = some (entryOfKey (tk2 prog w) (k, p2)) := by
    rw [← Array.getElem?_toList, g4]
    simp
  rw [hat]
  refine wpAny_bind (wpAny_updateDictKeysTo g1 g3 ?_ ?_)
  · refine wpAny_pure ?_
    refine wpAny_bind (wpAny_letGo (wpAny_pure ⟨_, rfl, ?_⟩))
    have hl1 : (es.eraseIdxIfInBounds xs.length).toList = (xs ++ ys).map (entryOfKey (tk2 prog w)) := by
      rw [Array.toList_eraseIdxIfInBounds, g4, List.map_append, List.map_cons, List.eraseIdx_append_of_length_le (by simp)]
      simp
    refine hQ _ _ ⟨Heap.size_update _ _ _, fun b hb => Heap.get?_update_ne _ _ _ _ hb⟩ ?_
    obtain ⟨c, dd, dt, sl⟩ := o
    have g3 : dt = .dict es ep := g3
    subst g3
    have hup := Heap.get?_update_self (h := s.heap) (Obj.mapDictKeys fun x => x.eraseIdxIfInBounds xs.length) g1 rfl
    refine ⟨_, _, _, hup, g2, rfl, hl1, fun y hy => ?_, ?_⟩
    · have hy' : y ∈ xs ++ (k, p2) :: ys := by
        rcases List.mem_append.mp hy with z | z
        · exact List.mem_append_left _ z
        · exact List.mem_append_right _ (List.mem_cons_of_mem _ z)
      exact (tk2 prog w).keeps (g5 y hy') g1 rfl ⟨Heap.size_update _ _ _, fun b hb => Heap.get?_update_ne _ _ _ _ hb⟩
    · rw [List.map_append]
      rw [List.map_append, List.map_cons] at g6
      exact g6.sublist (List.Sublist.append_left (List.sublist_cons_self _ _) _)
  · have hl1 : (es.eraseIdxIfInBounds xs.length).toList.length ≤ es.toList.length := by
      rw [Array.toList_eraseIdxIfInBounds]
      exact List.length_eraseIdx_le _ _
    have a1 : (es.eraseIdxIfInBounds xs.length).toList.length = (es.eraseIdxIfInBounds xs.length).size := Array.length_toList
    have a2 : es.toList.length = es.size := Array.length_toList
    have := sizeLine_eq
    omega
end
end L2
namespace L2
open PySem PySem.Spec PyProof.Rows
theorem kt_split {H : Hp} {kv : List Key × V} {post : List (List Key × V)} : ∀ {pre : List (List Key × V)} {xs : List (List Key × Addr × Value)}, KT H (pre ++ kv :: post) xs → ∃ x1 x x2, xs = x1 ++ x :: x2 ∧ KT H pre x1 ∧ KT H [kv] [x] ∧ KT H post x2
  | [], _, .cons h t => ⟨[], _, _, rfl, .nil, .cons h .nil, t⟩
  | p :: pre, _, .cons h t => by
    obtain ⟨x1, x, x2, rfl, a, b, c⟩ := kt_split (pre := pre) t
    exact ⟨_ :: x1, x, x2, rfl, .cons h a, b, c⟩
theorem kt_append {H : Hp} : ∀ {k1 k2 : List (List Key × V)} {x1 x2 : List (List Key × Addr × Value)}, KT H k1 x1 → KT H k2 x2 → KT H (k1 ++ k2) (x1 ++ x2)
  | _, _, _, _, .nil, h => h
  | _, _, _, _, .cons h t, g => .cons h (kt_append t g)
section
variable {X : Cx}
/-- d.pop(k), the key there -/
def rPopD : V → List V → Hp → VK → Prop := fun x vs H Q => ∃ a p ks v pre post, x = .ref a ∧ vs = [.ref p] ∧ H a = some (.dT (pre ++ (ks, v) :: post)) ∧ H p = some (.tup (ks.map kV)) ∧ (pre ++ (ks, v) :: post).length ≤ 1000 ∧ Q v (upd H a (.dT (pre ++ post)))
theorem mt_popD (hu : X.A.units + 1 < cLine) : MtR X "dict.pop" rPopD := by
  intro pins s σ H x xs v us Q I rx r h
  obtain ⟨a, p, ks, v0, pre, post, rfl, rfl, e, ep, hl, q⟩ := h
  cases rx
  obtain ⟨u, rfl, ru⟩ := vals1 r
  cases ru
  obtain ⟨z, y, xs, k1, D⟩ := dt_of I.hok e
  obtain ⟨x1, ⟨kx, bx, vx⟩, x2, rfl, ka, kb, kc⟩ := kt_split k1
  cases kb with
  | cons hb _ =>
  obtain ⟨hb1, hb2, hb3⟩ := hb
  have hb1 : ks = kx := hb1
  subst hb1
  have hlen := Paired.length k1
  refine call_dict_pop hu D (key_of I.hok ep) (by omega) fun h' tk sb D' => ?_
  obtain ⟨o, es, ep2, g1, g2, g3, g4, _, g6⟩ := D'
  have hn : upd H a (.dT (pre ++ post)) = upd H a (.dT (pre ++ post)) := rfl
  have new : ObjOk X.prog X.w (upd H a (.dT (pre ++ post))) h' a (.dT (pre ++ post)) := by
    refine ⟨?_, y, x1 ++ x2, ?_, o, es, ep2, g1, g2, g3, g4, g6⟩
    · rw [List.length_append] at z ⊢
      simp only [List.length_cons] at z
      omega
    · refine KT.keeps (kt_append ka kc) fun c ys ec => ?_
      rw [upd_ne (fun z => by rw [z, e] at ec; cases ec)]
      exact ec
  exact ⟨v0, _, I.write (x := a) (e := a) (t' := tk) (by rw [e]; exact True.intro) (.inl rfl) (fun b u hb z => (sb.2 b hb).trans z) ⟨o, g1⟩ new, hb3, q⟩
end
end L2

end
section
set_option Elab.async false
set_option linter.all false
set_option maxRecDepth 100000
set_option maxHeartbeats 4000000
namespace L2
open PySem PySem.Spec PyProof.Rows
section
variable {prog : Program} {w : World} {A : Around} {E : Value → Shared → Prop}
theorem for_same {M : Model} {s : Shared} {α : Type} {c : α} {f : Nat → α → Sem (ForInStep α)} {Q : α → Shared → Prop} : ∀ (l : List Nat), (∀ i ∈ l, ∀ (R : ForInStep α → Shared → Prop), R (.yield c) s → wpAny M A (f i c) R E s) → Q c s → wpAny M A (forIn l c f) Q E s
  | [], _, q => by
    rw [List.forIn_nil]
    exact wpAny_pure q
  | e :: l, h, q => by
    rw [List.forIn_cons]
    refine wpAny_bind (h e (by simp) _ ?_)
    exact for_same l (fun x hx => h x (List.mem_cons_of_mem _ hx)) q
theorem dict_eq_same {s : Shared} {a b : Addr} {xs ys : List (List Key × Addr × Value)} {Q : Value → Shared → Prop} (hu : A.units + 1 < cLine) (D1 : s.heap.DictOfH (tk2 prog w) a xs) (D2 : s.heap.DictOfH (tk2 prog w) b ys)
    (ha : (a == sysModules) = false) (hb : (b == sysModules) = false) (hk : xs.map (·.1) = ys.map (·.1)) (hv : ∀ (j : Nat) x y, xs[j]? = some x → ys[j]? = some y → ∃ i t t', x.2.2 = Value.int i t ∧ y.2.2 = Value.int i t')
    (hQ : Q (.bool true) s) : wpAny (model prog w) A (compareOp .Eq (.ref a) (.ref b)) Q E s := by
  obtain ⟨o, es, ep, g1, g2, g3, g4, g5, g6⟩ := id D1
  obtain ⟨o', es', ep', g1', g2', g3', g4', g5', g6'⟩ := id D2
  have hty : s.TypeIs (.ref a) "dict" := ⟨_, g1, g2.1⟩
  have hty' : s.TypeIs (.ref b) "dict" := ⟨_, g1', g2'.1⟩
  show wpAny (model prog w) A (richCompare .Eq (.ref a) (.ref b)) Q E s
  refine wpAny_richCompare_same_or hty hty' PySem.F.slot_dict_eq ?_ (.inr (by omega))
  refine wpAny_call_entry PySem.F.slot_dict_eq hty PySem.F.entry_dict_eq ?_ (PySem.F.args_dict_eq_2 _ _)
  refine wpAny_bind ?_
  unfold Builtin.Dict.dictSlotArgs
  refine wpAny_bind (wpAny_notOrdered_dict hty ?_)
  refine wpAny_bind (wpAny_pure (wpAny_pure ?_))
  refine wpAny_bind (wpAny_isInstance hty' sub_dict ?_)
  rw [if_neg (by decide)]
  refine wpAny_bind (wpAny_pure (wpAny_bind (wpAny_pure (wpAny_bind ?_))))
  unfold Builtin.Dict.samePairs
  refine wpAny_bind ?_
  unfold Builtin.Dict.showsAll
  rw [if_neg (by rw [ha]; decide)]
  refine wpAny_pure (wpAny_bind ?_)
  rw [if_neg (by rw [hb]; decide)]
  refine wpAny_pure (wpAny_bind (wpAny_dictEntries g1 g3 (wpAny_bind (wpAny_dictEntries g1' g3' ?_))))
  have hl : es.size = es'.size := by
    have h1 := congrArg List.length hk
    have h2 := congrArg List.length g4
    have h3 := congrArg List.length g4'
    rw [List.length_map, List.length_map] at h1
    rw [Array.length_toList, List.length_map] at h2 h3
    omega
  rw [if_neg (by rw [hl]; simp)]
  refine wpAny_bind (wpAny_dictEpoch g1 g3 (wpAny_bind ?_))
  rw [Std.Legacy.Range.forIn_eq_forIn_range']
  refine for_same _ (fun i hi R hR => ?_) ?_
  · have hi' : i < es.size := by
      have := List.mem_range'_1.mp hi
      simp at this
      exact this
    have hxl : xs.length = es.size := by
      have h2 := congrArg List.length g4
      rw [Array.length_toList, List.length_map] at h2
      exact h2.symm
    have hyl : ys.length = es.size := by
      have h2 := congrArg List.length g4'
      rw [Array.length_toList, List.length_map] at h2
      omega
    obtain ⟨x, hx⟩ : ∃ x, xs[i]? = some x := ⟨_, List.getElem?_eq_getElem (by omega)⟩
    obtain ⟨y, hy⟩ : ∃ y, ys[i]? = some y := ⟨_, List.getElem?_eq_getElem (by omega)⟩
    have hxy : x.1 = y.1 := by
      have := congrArg (fun l => l[i]?) hk
      simp only [List.getElem?_map, hx, hy, Option.map_some] at this
      exact Option.some.inj this
    have hex : es[i]? = some (entryOfKey (tk2 prog w) x) := by
      rw [← Array.getElem?_toList, g4, List.getElem?_map, hx]
      rfl
    refine wpAny_bind (wpAny_dictEntries g1 g3 ?_)
    rw [hex]
    refine wpAny_bind (wpAny_holding (wpAny_bind ?_))
    refine wpAny_dictFind_heap (knd := tk2 prog w) (show A.units + 1 < cLine from hu) (g5 x (List.mem_of_getElem? hx)) g1' g3' g4' g5' g6' (fun no => ?_) (fun j p2 hj => ?_)
    · exact absurd (show ys[i]? = some (x.1, y.2) by rw [hy, hxy]) (no i y.2)
    have hij : i = j := by
      have e1 : (ys.map (·.1))[i]? = some x.1 := by rw [List.getElem?_map, hy, hxy]; rfl
      have e2 : (ys.map (·.1))[j]? = some x.1 := by rw [List.getElem?_map, hj]; rfl
      exact (List.getElem?_inj (by rw [List.length_map]; omega) g6').mp (e1.trans e2.symm)
    subst hij
    have hey : es'[i]? = some (entryOfKey (tk2 prog w) y) := by
      rw [← Array.getElem?_toList, g4', List.getElem?_map, hy]
      rfl
    refine wpAny_bind (wpAny_dictEntries g1' g3' ?_)
    rw [hey]
    obtain ⟨n, t, t', v1, v2⟩ := hv i x y hx hy
    refine wpAny_holding ?_
    show wpAny (model prog w) A.in1 (eqBool x.2.2 y.2.2) _ _ _
    rw [v1, v2]
    refine wpAny_eqBool_int ?_
    have e : (n == n) = true := by simp
    rw [e, if_neg (by decide)]
    refine wpAny_bind (wpAny_dictEpoch g1 g3 ?_)
    rw [if_neg (by simp)]
    exact wpAny_pure hR
  · exact wpAny_pure (wpAny_pure ⟨_, rfl, by simp, hQ⟩)
end
end L2
namespace L2
open PySem PySem.Spec PyProof.Rows
theorem kt_vals {H : Hp} : ∀ {kvs : List (List Key × V)} {xs ys : List (List Key × Addr × Value)}, KT H kvs xs → KT H kvs ys → (∀ kv ∈ kvs, ∃ i, kv.2 = V.int i) → ∀ (j : Nat) x y, xs[j]? = some x → ys[j]? = some y → ∃ i t t', x.2.2 = Value.int i t ∧ y.2.2 = Value.int i t'
  | _, _, _, .nil, _, _, j, x, y, hx, _ => by simp at hx
  | kv :: _, _, _, .cons h t, .cons g u, hi, 0, x, y, hx, hy => by
    obtain ⟨i, ei⟩ := hi kv (by simp)
    rw [List.getElem?_cons_zero] at hx hy
    have r1 := h.2.2
    have r2 := g.2.2
    rw [Option.some.inj hx] at r1
    rw [Option.some.inj hy] at r2
    rw [ei] at r1 r2
    obtain ⟨t1, e1⟩ := r1
    obtain ⟨t2, e2⟩ := r2
    exact ⟨i, t1, t2, e1, e2⟩
  | _ :: _, _, _, .cons h t, .cons g u, hi, j + 1, x, y, hx, hy => kt_vals t u (fun kv hk => hi kv (List.mem_cons_of_mem _ hk)) j x y (by simpa using hx) (by simpa using hy)
section
variable {X : Cx}
/-- d == d2, the same keys and ints -/
def rEqDT : R2 := fun x y H Q => ∃ a b kvs, x = .ref a ∧ y = .ref b ∧ Rd H a (.dT kvs) ∧ Rd H b (.dT kvs) ∧ (∀ kv ∈ kvs, ∃ i, kv.2 = V.int i) ∧ Q (.bl true) H
theorem op_eqDT (hu : X.A.units + 1 < cLine) : OpR X (compareOp .Eq) rEqDT := by
  intro pins s σ H x y v u Q I rx ry q
  obtain ⟨a, b, kvs, rfl, rfl, e1, e2, hi, q⟩ := q
  cases rx
  cases ry
  obtain ⟨_, y1, xs, k1, D1⟩ := dt_rd I.hok e1
  obtain ⟨_, y2, ys, k2, D2⟩ := dt_rd I.hok e2
  exact dict_eq_same hu D1 D2 y1 y2 ((kt_keys k1).trans (kt_keys k2).symm) (kt_vals k1 k2 hi) ⟨.bl true, H, I, rfl, q⟩
end
end L2

end
section
set_option linter.all false
/-! my own: what is merged so far -/
namespace RS
/-- out holds the first ia of a and the first ib of b -/
def PM {α : Type} (a b out : Array α) (ia ib : Nat) : Prop := out.toList.Perm (a.toList.take ia ++ b.toList.take ib) ∧ ia ≤ a.size ∧ ib ≤ b.size
theorem take_snoc {α : Type} {l : List α} {i : Nat} (h : i < l.length) : l.take (i + 1) = l.take i ++ [l[i]] := List.take_succ_eq_append_getElem h
theorem PM.pushB {α : Type} {a b out : Array α} {ia ib : Nat} (h : PM a b out ia ib) (hb : ib < b.size) : PM a b (out.push b[ib]) ia (ib + 1) := by
  refine ⟨?_, h.2.1, hb⟩
  rw [Array.toList_push, take_snoc (by simpa using hb), ← List.append_assoc]
  exact h.1.append_right _
theorem PM.pushA {α : Type} {a b out : Array α} {ia ib : Nat} (h : PM a b out ia ib) (ha : ia < a.size) : PM a b (out.push a[ia]) (ia + 1) ib := by
  refine ⟨?_, ha, h.2.2⟩
  rw [Array.toList_push, take_snoc (by simpa using ha)]
  refine (h.1.append_right _).trans ?_
  rw [List.append_assoc, List.append_assoc]
  exact List.Perm.append_left _ List.perm_append_comm
theorem take_more {α : Type} (l : List α) (i k : Nat) : l.take (i + k) = l.take i ++ (l.drop i).take k := List.take_add ..
theorem ext_list {α : Type} (a : Array α) (i j : Nat) : (a.extract i j).toList = (a.toList.drop i).take (j - i) := by
  simp [Array.toList_extract, List.extract_eq_take_drop]
theorem PM.extB {α : Type} {a b out : Array α} {ia ib k : Nat} (h : PM a b out ia ib) (hb : ib + k ≤ b.size) : PM a b (out ++ b.extract ib (ib + k)) ia (ib + k) := by
  refine ⟨?_, h.2.1, hb⟩
  rw [Array.toList_append, ext_list, take_more, ← List.append_assoc, show ib + k - ib = k by omega]
  exact h.1.append_right _
theorem PM.extA {α : Type} {a b out : Array α} {ia ib k : Nat} (h : PM a b out ia ib) (ha : ia + k ≤ a.size) : PM a b (out ++ a.extract ia (ia + k)) (ia + k) ib := by
  refine ⟨?_, ha, h.2.2⟩
  rw [Array.toList_append, ext_list, take_more, show ia + k - ia = k by omega]
  refine (h.1.append_right _).trans ?_
  rw [List.append_assoc, List.append_assoc]
  exact List.Perm.append_left _ List.perm_append_comm
theorem PM.done {α : Type} {a b out : Array α} {ia ib : Nat} (h : PM a b out ia ib) : (out ++ a.extract ia ++ b.extract ib).toList.Perm (a.toList ++ b.toList) := by
  rw [Array.toList_append, Array.toList_append, ext_list, ext_list, List.take_of_length_le (by simp), List.take_of_length_le (by simp)]
  refine ((h.1.append_right _).append_right _).trans ?_
  have ea : a.toList = a.toList.take ia ++ a.toList.drop ia := (List.take_append_drop ..).symm
  have eb : b.toList = b.toList.take ib ++ b.toList.drop ib := (List.take_append_drop ..).symm
  conv => rhs; rw [ea, eb]
  rw [List.append_assoc, List.append_assoc, List.append_assoc]
  refine List.Perm.append_left _ ?_
  rw [← List.append_assoc, ← List.append_assoc]
  exact List.Perm.append_right _ List.perm_append_comm
theorem PM.last {α : Type} {a b out : Array α} {ia ib : Nat} (h : PM a b out ia ib) : (out ++ b.extract ib ++ a.extract ia).toList.Perm (a.toList ++ b.toList) := by
  refine List.Perm.trans ?_ h.done
  rw [Array.toList_append, Array.toList_append, Array.toList_append, Array.toList_append, List.append_assoc, List.append_assoc]
  exact List.Perm.append_left _ List.perm_append_comm
end RS
namespace RS
/-- out holds a from na on and b from nb on -/
def PH {α : Type} (a b out : Array α) (na nb : Nat) : Prop := out.toList.Perm (a.toList.drop na ++ b.toList.drop nb) ∧ na ≤ a.size ∧ nb ≤ b.size
theorem drop_cons' {α : Type} {l : List α} {i : Nat} (h : i < l.length) : l.drop i = l[i] :: l.drop (i + 1) := List.drop_eq_getElem_cons h
theorem PH.pushA {α : Type} {a b out : Array α} {na nb : Nat} (h : PH a b out na nb) (h1 : 1 ≤ na) : PH a b (out.push (a[na - 1]'(by have := h.2.1; omega))) (na - 1) nb := by
  have h2 := h.2.1
  refine ⟨?_, by omega, h.2.2⟩
  rw [Array.toList_push, drop_cons' (l := a.toList) (i := na - 1) (by rw [Array.length_toList]; omega), show na - 1 + 1 = na by omega]
  refine (List.perm_append_singleton _ _).trans ?_
  rw [List.cons_append]
  exact List.Perm.cons _ h.1
theorem PH.pushB {α : Type} {a b out : Array α} {na nb : Nat} (h : PH a b out na nb) (h1 : 1 ≤ nb) : PH a b (out.push (b[nb - 1]'(by have := h.2.2; omega))) na (nb - 1) := by
  have h2 := h.2.2
  refine ⟨?_, h.2.1, by omega⟩
  rw [Array.toList_push, drop_cons' (l := b.toList) (i := nb - 1) (by rw [Array.length_toList]; omega), show nb - 1 + 1 = nb by omega]
  refine (List.perm_append_singleton _ _).trans ?_
  refine (List.Perm.cons _ h.1).trans ?_
  exact (List.perm_middle).symm
theorem PH.extA {α : Type} {a b out : Array α} {na nb k : Nat} (h : PH a b out na nb) (hk : k ≤ na) : PH a b (out ++ (a.extract k na).reverse) k nb := by
  refine ⟨?_, by have := h.2.1; omega, h.2.2⟩
  rw [Array.toList_append, Array.toList_reverse, ext_list]
  have e : a.toList.drop k = (a.toList.drop k).take (na - k) ++ a.toList.drop na := by
    conv => lhs; rw [← List.take_append_drop (na - k) (a.toList.drop k)]
    rw [List.drop_drop, show k + (na - k) = na by omega]
  generalize (a.toList.drop k).take (na - k) = X at e
  rw [e, List.append_assoc]
  exact ((List.Perm.append_left _ (List.reverse_perm _)).trans (h.1.append_right _)).trans List.perm_append_comm
theorem PH.extB {α : Type} {a b out : Array α} {na nb k : Nat} (h : PH a b out na nb) (hk : k ≤ nb) : PH a b (out ++ (b.extract k nb).reverse) na k := by
  refine ⟨?_, h.2.1, by have := h.2.2; omega⟩
  rw [Array.toList_append, Array.toList_reverse, ext_list]
  have e : b.toList.drop k = (b.toList.drop k).take (nb - k) ++ b.toList.drop nb := by
    conv => lhs; rw [← List.take_append_drop (nb - k) (b.toList.drop k)]
    rw [List.drop_drop, show k + (nb - k) = nb by omega]
  generalize (b.toList.drop k).take (nb - k) = X at e
  rw [e]
  refine ((List.Perm.append_left _ (List.reverse_perm _)).trans (h.1.append_right _)).trans ?_
  rw [List.append_assoc]
  exact List.Perm.append_left _ List.perm_append_comm
theorem PH.done {α : Type} {a b out : Array α} {na nb : Nat} (h : PH a b out na nb) : (a.extract 0 na ++ b.extract 0 nb ++ out.reverse).toList.Perm (a.toList ++ b.toList) := by
  rw [Array.toList_append, Array.toList_append, Array.toList_reverse, ext_list, ext_list, List.drop_zero, List.drop_zero, Nat.sub_zero, Nat.sub_zero]
  refine (List.Perm.append_left _ ((List.reverse_perm _).trans h.1)).trans ?_
  have ea : a.toList = a.toList.take na ++ a.toList.drop na := (List.take_append_drop ..).symm
  have eb : b.toList = b.toList.take nb ++ b.toList.drop nb := (List.take_append_drop ..).symm
  conv => rhs; rw [ea, eb]
  rw [List.append_assoc, List.append_assoc]
  refine List.Perm.append_left _ ?_
  rw [← List.append_assoc, ← List.append_assoc]
  exact List.Perm.append_right _ List.perm_append_comm
theorem PH.first {α : Type} {a b out : Array α} {na nb : Nat} (h : PH a b out na nb) : (b.extract 0 nb ++ a.extract 0 na ++ out.reverse).toList.Perm (a.toList ++ b.toList) := by
  refine List.Perm.trans ?_ h.done
  rw [Array.toList_append, Array.toList_append, Array.toList_append, Array.toList_append]
  exact List.Perm.append_right _ List.perm_append_comm
end RS

end
section
set_option Elab.async false
set_option linter.all false
set_option maxRecDepth 100000
set_option maxHeartbeats 4000000
/-! my own: sorting, what stays of the items (no order is told) -/
namespace RS
open PySem PyProof.Rows
section
variable {M : Model} {A : Around} {E : Value → Shared → Prop} {s : Shared}
/-- two keys can be asked, and nothing else happens -/
def Ask (M : Model) (A : Around) (s : Shared) (κ : SortKind) (ok : Value → Prop) : Prop := ∀ x y, ok x → ok y → ∀ (R : Bool → Shared → Prop) (E : Value → Shared → Prop), (∀ b, R b s) → wpAny M A (keyLt' κ x y) R E s
theorem lt_any {κ : SortKind} {ok : Value → Prop} {x y : Keyed} {Q : Option Bool → SortSt → Prop} {st : SortSt} (h : Ask M A s κ ok) (hk : kindOf st = κ) (hx : ok x.1) (hy : ok y.1) (q : ∀ b, Q (some b) st) : wpS M A E s (lt' x y) Q st := by
  rw [lt'_eq]
  refine wpS_bind (wpS_get (wpS_bind (wpS_lift ?_)))
  rw [hk]
  exact wpAny_attempt (h x.1 y.1 hx hy _ _ fun b => ⟨rfl, wpS_pure (q b)⟩)
theorem elem_at {arr : Array Keyed} {i : Nat} {Q : Keyed → SortSt → Prop} {st : SortSt} (h : i < arr.size) (q : Q arr[i] st) : wpS M A E s (elem' arr i) Q st := by
  rw [elem'_eq]
  have e : arr[i]? = some arr[i] := Array.getElem?_eq_getElem h
  rw [e]
  exact wpS_pure q
/-- all keys of an array can be asked -/
def Oks (ok : Value → Prop) (a : Array Keyed) : Prop := ∀ x ∈ a, ok x.1
def GalOk (M : Model) (A : Around) (E : Value → Shared → Prop) (s : Shared) (κ : SortKind) (ok : Value → Prop) (g : Bool → Keyed → Array Keyed → Nat → Nat → Nat → StateT SortSt Sem (Option Nat)) : Prop :=
  ∀ (left : Bool) (key : Keyed) (arr : Array Keyed) (b n hint : Nat) (Q : Option Nat → SortSt → Prop) (st : SortSt), kindOf st = κ → ok key.1 → Oks ok arr → b + n ≤ arr.size → hint < n → (∀ k, k ≤ n → Q (some k) st) → wpS M A E s (g left key arr b n hint) Q st
theorem start_gallop {κ : SortKind} {ok : Value → Prop} {g : Bool → Keyed → Array Keyed → Nat → Nat → Nat → StateT SortSt Sem (Option Nat)} {left : Bool} {key : Keyed} {arr : Array Keyed} {b n hint : Nat} {Q : Option Nat → SortSt → Prop} {st : SortSt}
    (H : GalOk M A E s κ ok g) (hs : GalOk M A E s κ ok g → wpS M A E s (g left key arr b n hint) Q st) : wpS M A E s (g left key arr b n hint) Q st := hs H
/-- setIfInBounds, item by item -/
theorem set_all {α : Type} : ∀ (ms : List α) (a : Array α) (b k : Nat), b + k + ms.length ≤ a.size → ((ms.zipIdx k).foldl (fun a x => match x with | (p, j) => a.setIfInBounds (b + j) p) a).toList = a.toList.take (b + k) ++ ms ++ a.toList.drop (b + k + ms.length)
  | [], a, b, k, _ => by simp
  | m :: ms, a, b, k, h => by
    simp only [List.length_cons] at h
    rw [List.zipIdx_cons, List.foldl_cons]
    have := set_all ms (a.setIfInBounds (b + k) m) b (k + 1) (by rw [Array.size_setIfInBounds]; omega)
    rw [show b + (k + 1) = b + k + 1 by omega] at this
    refine this.trans ?_
    rw [Array.toList_setIfInBounds]
    have hl : b + k < a.toList.length := by rw [Array.length_toList]; omega
    rw [List.take_set, List.drop_set_of_lt (by omega), List.length_cons, show b + k + (ms.length + 1) = b + k + 1 + ms.length by omega]
    have hlen : (a.toList.take (b + k)).length = b + k := by rw [List.length_take]; omega
    rw [take_snoc hl, List.set_append_right _ _ (by omega), hlen, Nat.sub_self]
    simp
theorem q_of {Q : Bool → SortSt → Prop} {b : Bool} {st : SortSt} (e : b = true) (h : Q true st) : Q b st := e ▸ h
theorem mem_ext {α : Type} {a : Array α} {i j : Nat} {x : α} (h : x ∈ a.extract i j) : x ∈ a := by
  have h1 : x ∈ (a.extract i j).toList := Array.mem_toList_iff.mpr h
  rw [ext_list] at h1
  exact Array.mem_toList_iff.mp (List.mem_of_mem_drop (List.mem_of_mem_take h1))
/-- nothing but the gallop's number has changed -/
structure SameG (st st' : SortSt) : Prop where
  kind : kindOf st' = kindOf st
  arr : arrOf st' = arrOf st
  pend : pendingOf st' = pendingOf st
  fail : failedOf st' = failedOf st
theorem SameG.refl (st : SortSt) : SameG st st := ⟨rfl, rfl, rfl, rfl⟩
theorem SameG.trans {a b c : SortSt} (x : SameG a b) (y : SameG b c) : SameG a c := ⟨y.kind.trans x.kind, y.arr.trans x.arr, y.pend.trans x.pend, y.fail.trans x.fail⟩
theorem mod_gal {st1 st : SortSt} {f : SortSt → SortSt} {Q : PUnit → SortSt → Prop} (hS : SameG st1 st) (q : ∀ st', SameG st1 st' → Q PUnit.unit st') (e : SameG st (f st) := by exact ⟨rfl, rfl, rfl, rfl⟩) : wpS M A E s (modify f) Q st := wpS_modify (q _ (SameG.trans hS e))
def MergeOk (M : Model) (A : Around) (E : Value → Shared → Prop) (s : Shared) (κ : SortKind) (ok : Value → Prop) (g : Array Keyed → Array Keyed → StateT SortSt Sem (Array Keyed)) : Prop :=
  ∀ (a b : Array Keyed) (Q : Array Keyed → SortSt → Prop) (st : SortSt), kindOf st = κ → Oks ok a → Oks ok b → 0 < a.size → 0 < b.size → (∀ r st', SameG st st' → r.toList.Perm (a.toList ++ b.toList) → Q r st') → wpS M A E s (g a b) Q st
theorem use_merge {κ : SortKind} {ok : Value → Prop} {g : Array Keyed → Array Keyed → StateT SortSt Sem (Array Keyed)} {a b : Array Keyed} {Q : Array Keyed → SortSt → Prop} {st : SortSt} (H : MergeOk M A E s κ ok g) (h1 : kindOf st = κ) (h2 : Oks ok a) (h3 : Oks ok b) (h4 : 0 < a.size) (h5 : 0 < b.size) (q : ∀ r st', SameG st st' → r.toList.Perm (a.toList ++ b.toList) → Q r st') : wpS M A E s (g a b) Q st := H a b Q st h1 h2 h3 h4 h5 q
theorem merge_at {κ : SortKind} {ok : Value → Prop} (h : Ask M A s κ ok) {i sa na pa sb nb pb : Nat} {st : SortSt} {Q : Bool → SortSt → Prop} (hk : kindOf st = κ) (hf : failedOf st = none) (hO : Oks ok (arrOf st)) (h1 : (pendingOf st)[i]? = some (sa, na, pa)) (h2 : (pendingOf st)[i + 1]? = some (sb, nb, pb))
    (hsa : sb = sa + na) (hna : 0 < na) (hnb : 0 < nb) (hsz : sb + nb ≤ (arrOf st).size)
    (q : ∀ st', kindOf st' = κ → failedOf st' = none → (arrOf st').toList.Perm (arrOf st).toList → pendingOf st' = ((pendingOf st).setIfInBounds i (sa, na + nb, pa)).eraseIdxIfInBounds (i + 1) → Q true st') : wpS M A E s (mergeAt' i) Q st := by
  refine wpS_bind (wpS_get ?_)
  have h1' := h1
  have h2' := h2
  unfold pendingOf at h1' h2'
  rw [h1', h2']
  refine wpS_bind (wpS_modify (f := fun _ => _) ?_)
  refine wpS_bind (elem_at (arr := arrOf st) (i := sb) (by omega) ?_)
  have ho : ∀ {i : Nat} (hi : i < (arrOf st).size), ok ((arrOf st)[i]).1 := fun hi => hO _ (Array.getElem_mem _)
  refine wpS_bind ?_
  refine start_gallop (κ := κ) (ok := ok) ?_ (fun G => ?_)
  · intro left key arr b n hint Q st0 hk hkey harr hb hh q
    have byd : ∀ (m : Nat), m < n → ∀ (R : Option Bool → SortSt → Prop), (∀ c, R (some c) st0) → wpS M A E s (do
        let x ← elem' arr (b + m)
        if left = true then lt' x key else do
          let c ← lt' key x
          pure (Option.map (fun x => !x) c)) R st0 := fun m hm R hR => by
      refine wpS_bind (elem_at (i := b + m) (by omega) ?_)
      have hx : ok (arr[b + m]'(by omega)).1 := harr _ (Array.getElem_mem _)
      cases left with
      | true => exact lt_any h hk hx hkey hR
      | false => exact wpS_bind (lt_any h hk hkey hx fun c => wpS_pure (hR _))
    refine wpS_bind (byd hint hh _ fun right => ?_)
    cases right with
    | true =>
      refine wpS_bind (wpS_forRange (fun _ c st' => st' = st0 ∧ c.1 = none) ?_ ?_ ⟨rfl, rfl⟩)
      · rintro i ⟨r, lastofs, ofs⟩ st' _ _ ⟨h0, hr⟩
        have h0 : st0 = st' := h0.symm
        subst h0
        have hr : r = none := hr
        subst hr
        by_cases hc : ofs ≥ n - hint
        · rw [if_pos hc]
          refine wpS_pure ?_
          refine wpS_bind (wpS_forRange (fun _ c st' => st' = st0 ∧ c.1 = none ∧ c.2.2 ≤ n) ?_ ?_ ⟨rfl, rfl, show hint + min ofs (n - hint) ≤ n by omega⟩)
          · rintro i ⟨r, lo, hi⟩ st' _ _ ⟨h0, hr, hhi⟩
            have h0 : st0 = st' := h0.symm
            subst h0
            have hr : r = none := hr
            have hhi : hi ≤ n := hhi
            subst hr
            by_cases hc : lo ≥ hi
            · rw [if_pos hc]
              exact wpS_pure (wpS_pure (q hi hhi))
            · rw [if_neg hc]
              refine wpS_bind (byd (lo + (hi - lo) / 2) (by omega) _ fun c => ?_)
              cases c with
              | true => exact wpS_pure ⟨rfl, rfl, hhi⟩
              | false => exact wpS_pure ⟨rfl, rfl, show lo + (hi - lo) / 2 ≤ n by omega⟩
          · rintro ⟨r, lo, hi⟩ st' ⟨h0, hr, hhi⟩
            have h0 : st0 = st' := h0.symm
            subst h0
            have hr : r = none := hr
            subst hr
            exact wpS_pure (q hi hhi)
        · rw [if_neg hc]
          refine wpS_bind (byd (hint + ofs) (by omega) _ fun c => ?_)
          cases c with
          | true => exact wpS_pure ⟨rfl, rfl⟩
          | false =>
            refine wpS_pure ?_
            refine wpS_bind (wpS_forRange (fun _ c st' => st' = st0 ∧ c.1 = none ∧ c.2.2 ≤ n) ?_ ?_ ⟨rfl, rfl, show hint + min ofs (n - hint) ≤ n by omega⟩)
            · rintro i ⟨r, lo, hi⟩ st' _ _ ⟨h0, hr, hhi⟩
              have h0 : st0 = st' := h0.symm
              subst h0
              have hr : r = none := hr
              have hhi : hi ≤ n := hhi
              subst hr
              by_cases hc : lo ≥ hi
              · rw [if_pos hc]
                exact wpS_pure (wpS_pure (q hi hhi))
              · rw [if_neg hc]
                refine wpS_bind (byd (lo + (hi - lo) / 2) (by omega) _ fun c => ?_)
                cases c with
                | true => exact wpS_pure ⟨rfl, rfl, hhi⟩
                | false => exact wpS_pure ⟨rfl, rfl, show lo + (hi - lo) / 2 ≤ n by omega⟩
            · rintro ⟨r, lo, hi⟩ st' ⟨h0, hr, hhi⟩
              have h0 : st0 = st' := h0.symm
              subst h0
              have hr : r = none := hr
              subst hr
              exact wpS_pure (q hi hhi)
      · rintro ⟨r, lastofs, ofs⟩ st' ⟨h0, hr⟩
        have h0 : st0 = st' := h0.symm
        subst h0
        have hr : r = none := hr
        subst hr
        refine wpS_bind (wpS_forRange (fun _ c st' => st' = st0 ∧ c.1 = none ∧ c.2.2 ≤ n) ?_ ?_ ⟨rfl, rfl, show hint + min ofs (n - hint) ≤ n by omega⟩)
        · rintro i ⟨r, lo, hi⟩ st' _ _ ⟨h0, hr, hhi⟩
          have h0 : st0 = st' := h0.symm
          subst h0
          have hr : r = none := hr
          have hhi : hi ≤ n := hhi
          subst hr
          by_cases hc : lo ≥ hi
          · rw [if_pos hc]
            exact wpS_pure (wpS_pure (q hi hhi))
          · rw [if_neg hc]
            refine wpS_bind (byd (lo + (hi - lo) / 2) (by omega) _ fun c => ?_)
            cases c with
            | true => exact wpS_pure ⟨rfl, rfl, hhi⟩
            | false => exact wpS_pure ⟨rfl, rfl, show lo + (hi - lo) / 2 ≤ n by omega⟩
        · rintro ⟨r, lo, hi⟩ st' ⟨h0, hr, hhi⟩
          have h0 : st0 = st' := h0.symm
          subst h0
          have hr : r = none := hr
          subst hr
          exact wpS_pure (q hi hhi)
    | false =>
      refine wpS_bind (wpS_forRange (fun _ c st' => st' = st0 ∧ c.1 = none) ?_ ?_ ⟨rfl, rfl⟩)
      · rintro i ⟨r, lastofs, ofs⟩ st' _ _ ⟨h0, hr⟩
        have h0 : st0 = st' := h0.symm
        subst h0
        have hr : r = none := hr
        subst hr
        by_cases hc : ofs ≥ hint + 1
        · rw [if_pos hc]
          refine wpS_pure ?_
          refine wpS_bind (wpS_forRange (fun _ c st' => st' = st0 ∧ c.1 = none ∧ c.2.2 ≤ n) ?_ ?_ ⟨rfl, rfl, show hint - lastofs ≤ n by omega⟩)
          · rintro i ⟨r, lo, hi⟩ st' _ _ ⟨h0, hr, hhi⟩
            have h0 : st0 = st' := h0.symm
            subst h0
            have hr : r = none := hr
            have hhi : hi ≤ n := hhi
            subst hr
            by_cases hc : lo ≥ hi
            · rw [if_pos hc]
              exact wpS_pure (wpS_pure (q hi hhi))
            · rw [if_neg hc]
              refine wpS_bind (byd (lo + (hi - lo) / 2) (by omega) _ fun c => ?_)
              cases c with
              | true => exact wpS_pure ⟨rfl, rfl, hhi⟩
              | false => exact wpS_pure ⟨rfl, rfl, show lo + (hi - lo) / 2 ≤ n by omega⟩
          · rintro ⟨r, lo, hi⟩ st' ⟨h0, hr, hhi⟩
            have h0 : st0 = st' := h0.symm
            subst h0
            have hr : r = none := hr
            subst hr
            exact wpS_pure (q hi hhi)
        · rw [if_neg hc]
          refine wpS_bind (byd (hint - ofs) (by omega) _ fun c => ?_)
          cases c with
          | false => exact wpS_pure ⟨rfl, rfl⟩
          | true =>
            refine wpS_pure ?_
            refine wpS_bind (wpS_forRange (fun _ c st' => st' = st0 ∧ c.1 = none ∧ c.2.2 ≤ n) ?_ ?_ ⟨rfl, rfl, show hint - lastofs ≤ n by omega⟩)
            · rintro i ⟨r, lo, hi⟩ st' _ _ ⟨h0, hr, hhi⟩
              have h0 : st0 = st' := h0.symm
              subst h0
              have hr : r = none := hr
              have hhi : hi ≤ n := hhi
              subst hr
              by_cases hc : lo ≥ hi
              · rw [if_pos hc]
                exact wpS_pure (wpS_pure (q hi hhi))
              · rw [if_neg hc]
                refine wpS_bind (byd (lo + (hi - lo) / 2) (by omega) _ fun c => ?_)
                cases c with
                | true => exact wpS_pure ⟨rfl, rfl, hhi⟩
                | false => exact wpS_pure ⟨rfl, rfl, show lo + (hi - lo) / 2 ≤ n by omega⟩
            · rintro ⟨r, lo, hi⟩ st' ⟨h0, hr, hhi⟩
              have h0 : st0 = st' := h0.symm
              subst h0
              have hr : r = none := hr
              subst hr
              exact wpS_pure (q hi hhi)
      · rintro ⟨r, lastofs, ofs⟩ st' ⟨h0, hr⟩
        have h0 : st0 = st' := h0.symm
        subst h0
        have hr : r = none := hr
        subst hr
        refine wpS_bind (wpS_forRange (fun _ c st' => st' = st0 ∧ c.1 = none ∧ c.2.2 ≤ n) ?_ ?_ ⟨rfl, rfl, show hint - lastofs ≤ n by omega⟩)
        · rintro i ⟨r, lo, hi⟩ st' _ _ ⟨h0, hr, hhi⟩
          have h0 : st0 = st' := h0.symm
          subst h0
          have hr : r = none := hr
          have hhi : hi ≤ n := hhi
          subst hr
          by_cases hc : lo ≥ hi
          · rw [if_pos hc]
            exact wpS_pure (wpS_pure (q hi hhi))
          · rw [if_neg hc]
            refine wpS_bind (byd (lo + (hi - lo) / 2) (by omega) _ fun c => ?_)
            cases c with
            | true => exact wpS_pure ⟨rfl, rfl, hhi⟩
            | false => exact wpS_pure ⟨rfl, rfl, show lo + (hi - lo) / 2 ≤ n by omega⟩
        · rintro ⟨r, lo, hi⟩ st' ⟨h0, hr, hhi⟩
          have h0 : st0 = st' := h0.symm
          subst h0
          have hr : r = none := hr
          subst hr
          exact wpS_pure (q hi hhi)
  refine G _ _ _ _ _ _ _ _ hk (ho _) hO (show sa + na ≤ (arrOf st).size by omega) hna fun k hkn => ?_
  show wpS M A E s (if (na - k == 0) = true then _ else _) Q _
  by_cases hz : na - k = 0
  · rw [if_pos (by simp [hz])]
    exact wpS_pure (q _ hk hf (List.Perm.refl _) rfl)
  rw [if_neg (by simpa using hz)]
  refine wpS_bind (elem_at (arr := arrOf st) (i := sa + k + (na - k) - 1) (by omega) ?_)
  refine wpS_bind (G _ _ _ _ _ _ _ _ hk (ho _) hO (show sb + nb ≤ (arrOf st).size by omega) (show nb - 1 < nb by omega) fun nb2 hnb2 => ?_)
  show wpS M A E s (if (nb2 == 0) = true then _ else _) Q _
  by_cases hz2 : nb2 = 0
  · rw [if_pos (by simp [hz2])]
    exact wpS_pure (q _ hk hf (List.Perm.refl _) rfl)
  rw [if_neg (by simpa using hz2)]
  -- the two parts
  have hx : ((arrOf st).extract (sa + k) sb).size = na - k := by
    rw [Array.size_extract]
    omega
  have hy : ((arrOf st).extract sb (sb + nb2)).size = nb2 := by
    rw [Array.size_extract]
    omega
  have oX : Oks ok ((arrOf st).extract (sa + k) sb) := fun z hz => hO z (mem_ext hz)
  have oY : Oks ok ((arrOf st).extract sb (sb + nb2)) := fun z hz => hO z (mem_ext hz)
  have back : ∀ (merged : Array Keyed) (st2 : SortSt), kindOf st2 = κ → failedOf st2 = none → arrOf st2 = arrOf st → pendingOf st2 = ((pendingOf st).setIfInBounds i (sa, na + nb, pa)).eraseIdxIfInBounds (i + 1) → merged.toList.Perm (((arrOf st).extract (sa + k) sb).toList ++ ((arrOf st).extract sb (sb + nb2)).toList) →
      ∀ st3, kindOf st3 = kindOf st2 → failedOf st3 = failedOf st2 → pendingOf st3 = pendingOf st2 → arrOf st3 = merged.toList.zipIdx.foldl (fun a x => match x with | (p, j) => a.setIfInBounds (sa + k + j) p) (arrOf st2) → Q true st3 := fun merged st2 e1 e2 e3 e4 hp st3 f1 f2 f3 f4 => by
    have hml : merged.toList.length = na - k + nb2 := by
      have := hp.length_eq
      rw [List.length_append, Array.length_toList, Array.length_toList, Array.length_toList, hx, hy] at this
      rw [Array.length_toList]
      exact this
    refine q st3 (f1.trans e1) (f2.trans e2) ?_ (f3.trans e4)
    rw [f4, e3, set_all _ _ _ 0 (by rw [hml]; omega)]
    have eA : (arrOf st).toList = (arrOf st).toList.take (sa + k) ++ (((arrOf st).extract (sa + k) sb).toList ++ ((arrOf st).extract sb (sb + nb2)).toList) ++ (arrOf st).toList.drop (sa + k + 0 + merged.toList.length) := by
      rw [ext_list, ext_list, hml]
      conv => lhs; rw [← List.take_append_drop (sa + k) (arrOf st).toList]
      rw [List.append_assoc]
      congr 1
      conv => lhs; rw [← List.take_append_drop (sb - (sa + k)) ((arrOf st).toList.drop (sa + k))]
      rw [List.append_assoc]
      congr 1
      rw [List.drop_drop, show sa + k + (sb - (sa + k)) = sb by omega]
      conv => lhs; rw [← List.take_append_drop (sb + nb2 - sb) ((arrOf st).toList.drop sb)]
      congr 1
      rw [List.drop_drop]
      congr 1
      omega
    conv => rhs; rw [eA]
    rw [Nat.add_zero]
    exact (hp.append_left _).append_right _
  show wpS M A E s (if na - k ≤ nb2 then _ else _) Q _
  by_cases hle : na - k ≤ nb2
  · rw [if_pos hle]
    refine wpS_bind ?_
    refine use_merge (κ := κ) (ok := ok) ?_ hk oX oY (by rw [hx]; omega) (by rw [hy]; omega) (fun r st2 hs hp => ?_)
    · intro a b Q st1 hk1 oA oB ha hb q1
      have oa : ∀ {i : Nat} (hi : i < a.size), ok (a[i]).1 := fun hi => oA _ (Array.getElem_mem _)
      have ob : ∀ {i : Nat} (hi : i < b.size), ok (b[i]).1 := fun hi => oB _ (Array.getElem_mem _)
      refine wpS_bind (wpS_lift (wpAny_rule ⟨rfl, ?_⟩))
      refine wpS_bind (elem_at (arr := b) (i := 0) hb ?_)
      have pm1 : PM a b #[b[0]] 0 1 := by
        have p0 : PM a b #[] 0 0 := ⟨by simp, Nat.zero_le _, Nat.zero_le _⟩
        exact p0.pushB hb
      show wpS M A E s (if (1 == b.size) = true then _ else _) Q _
      by_cases hb1 : 1 = b.size
      · rw [if_pos (by simpa using hb1)]
        exact wpS_pure (q1 _ _ (SameG.refl _) pm1.done)
      rw [if_neg (by simpa using hb1)]
      show wpS M A E s (if (0 + 1 == a.size) = true then _ else _) Q _
      by_cases ha1 : 0 + 1 = a.size
      · rw [if_pos (by simpa using ha1)]
        exact wpS_pure (q1 _ _ (SameG.refl _) pm1.last)
      rw [if_neg (by simpa using ha1)]
      refine wpS_bind (wpS_get ?_)
      refine wpS_bind (wpS_mono (Q := fun c st' => SameG st1 st' ∧ ∃ r, c.1 = some r ∧ r.toList.Perm (a.toList ++ b.toList)) (wpS_forRange (fun i c st' => SameG st1 st' ∧ c.1 = none ∧ PM a b c.2.1 c.2.2.1 c.2.2.2.1 ∧ c.2.2.1 + 1 < a.size ∧ c.2.2.2.1 < b.size ∧ i + 1 ≤ c.2.2.1 + c.2.2.2.1) ?_ ?_ ⟨SameG.refl _, rfl, pm1, by show 0 + 1 < _; omega, by show 1 < _; omega, Nat.le_refl _⟩) ?_)
      · rintro i ⟨r0, out, ia, ib, mg⟩ st' _ _ ⟨hS, hr, pm, hia, hib, hcnt⟩
        have hr : r0 = none := hr
        subst hr
        have hk' : kindOf st' = κ := hS.kind.trans hk1
        refine wpS_bind (wpS_mono (Q := fun c st2 => SameG st1 st2 ∧ ((∃ r, c.1 = some r ∧ r.toList.Perm (a.toList ++ b.toList)) ∨ (c.1 = none ∧ PM a b c.2.1 c.2.2.1 c.2.2.2.1 ∧ c.2.2.1 + 1 < a.size ∧ c.2.2.2.1 < b.size ∧ i + 2 ≤ c.2.2.1 + c.2.2.2.1))) (wpS_forRange (fun x c st2 => SameG st1 st2 ∧ c.1 = none ∧ PM a b c.2.1 c.2.2.1 c.2.2.2.1 ∧ c.2.2.1 + 1 < a.size ∧ c.2.2.2.1 < b.size ∧ i + 1 + x ≤ c.2.2.1 + c.2.2.2.1) ?_ ?_ ⟨hS, rfl, pm, hia, hib, hcnt⟩) ?_)
        · rintro x ⟨r1, out, ia, ib, ac, bc⟩ st2 _ _ ⟨hS2, hr, pm, hia, hib, hcnt⟩
          have hia : ia + 1 < a.size := hia
          have hib : ib < b.size := hib
          have hcnt : i + 1 + x ≤ ia + ib := hcnt
          have pm : PM a b out ia ib := pm
          have hk2 : kindOf st2 = κ := hS2.kind.trans hk1
          refine wpS_bind (elem_at (arr := b) (i := ib) hib (wpS_bind (elem_at (arr := a) (i := ia) (by omega) (wpS_bind (lt_any h hk2 (ob _) (oa _) fun c => ?_)))))
          cases c with
          | true =>
            refine wpS_bind (elem_at (arr := b) (i := ib) hib ?_)
            have pm' := pm.pushB hib
            show wpS M A E s (if (ib + 1 == b.size) = true then _ else _) _ _
            by_cases e : ib + 1 = b.size
            · rw [if_pos (by simpa using e)]
              exact wpS_pure ⟨hS2, .inl ⟨_, rfl, pm'.done⟩⟩
            · rw [if_neg (by simpa using e)]
              split
              · exact wpS_pure ⟨hS2, .inr ⟨rfl, pm', hia, by show ib + 1 < b.size; omega, by show i + 2 ≤ ia + (ib + 1); omega⟩⟩
              · exact wpS_pure ⟨hS2, rfl, pm', hia, by show ib + 1 < b.size; omega, by show i + 1 + (x + 1) ≤ ia + (ib + 1); omega⟩
          | false =>
            refine wpS_bind (elem_at (arr := a) (i := ia) (by omega) ?_)
            have pm' := pm.pushA (show ia < a.size by omega)
            show wpS M A E s (if (ia + 1 + 1 == a.size) = true then _ else _) _ _
            by_cases e : ia + 1 + 1 = a.size
            · rw [if_pos (by simpa using e)]
              exact wpS_pure ⟨hS2, .inl ⟨_, rfl, pm'.last⟩⟩
            · rw [if_neg (by simpa using e)]
              split
              · exact wpS_pure ⟨hS2, .inr ⟨rfl, pm', by show ia + 1 + 1 < a.size; omega, hib, by show i + 2 ≤ ia + 1 + ib; omega⟩⟩
              · exact wpS_pure ⟨hS2, rfl, pm', by show ia + 1 + 1 < a.size; omega, hib, by show i + 1 + (x + 1) ≤ ia + 1 + ib; omega⟩
        · rintro ⟨r1, out, ia, ib, ac, bc⟩ st2 ⟨hS2, hr, pm, hia, hib, hcnt⟩
          refine ⟨hS2, .inr ⟨hr, pm, hia, hib, ?_⟩⟩
          have hcnt : i + 1 + max 0 (a.size + b.size) ≤ ia + ib := hcnt
          show i + 2 ≤ ia + ib
          omega
        rintro ⟨r1, out, ia, ib, ac, bc⟩ st2 ⟨hS2, hc⟩
        rcases hc with ⟨r, hr, hp⟩ | ⟨hr, pm, hia, hib, hcnt⟩
        · have hr : r1 = some r := hr
          subst hr
          exact wpS_pure ⟨hS2, r, rfl, hp⟩
        have hr : r1 = none := hr
        subst hr
        refine wpS_bind (wpS_lift (wpAny_rule ⟨rfl, ?_⟩))
        refine wpS_bind (wpS_mono (Q := fun c st2 => SameG st1 st2 ∧ ((∃ r, c.1 = some r ∧ r.toList.Perm (a.toList ++ b.toList)) ∨ (c.1 = none ∧ PM a b c.2.1 c.2.2.1 c.2.2.2.1 ∧ c.2.2.1 + 1 < a.size ∧ c.2.2.2.1 < b.size ∧ i + 2 ≤ c.2.2.1 + c.2.2.2.1))) (wpS_forRange (fun x c st2 => SameG st1 st2 ∧ c.1 = none ∧ PM a b c.2.1 c.2.2.1 c.2.2.2.1 ∧ c.2.2.1 + 1 < a.size ∧ c.2.2.2.1 < b.size ∧ i + 2 ≤ c.2.2.1 + c.2.2.2.1) ?_ ?_ ⟨hS2, rfl, pm, hia, hib, hcnt⟩) ?_)
        · rintro x ⟨r1, out, ia, ib, mg, ac, bc⟩ st3 _ _ ⟨hS3, hr, pm, hia, hib, hcnt⟩
          have hia : ia + 1 < a.size := hia
          have hib : ib < b.size := hib
          have hcnt : i + 2 ≤ ia + ib := hcnt
          have pm : PM a b out ia ib := pm
          show wpS M A E s (if mg > 1 then _ else _) _ _
          by_cases hmg : mg > 1
          · rw [if_pos hmg]
            refine wpS_bind (mod_gal hS3 (fun st4 hS4 => ?_))
            have hk4 := hS4.kind.trans hk1
            refine wpS_bind (elem_at (arr := b) (i := ib) hib ?_)
            refine wpS_bind (G _ _ _ _ _ _ _ _ hk4 (ob _) oA (show ia + (a.size - ia) ≤ a.size by omega) (show 0 < a.size - ia by omega) fun k hkn => ?_)
            have hkn : k ≤ a.size - ia := hkn
            show wpS M A E s (if k > 0 then _ else _) _ _
            by_cases hk0 : k > 0
            · rw [if_pos hk0]
              have pmx := PM.extA (k := k) pm (by omega)
              show wpS M A E s (if (ia + k + 1 == a.size) = true then _ else _) _ _
              by_cases e1 : ia + k + 1 = a.size
              · rw [if_pos (by simpa using e1)]
                exact wpS_pure ⟨hS4, .inl ⟨_, rfl, PM.last pmx⟩⟩
              rw [if_neg (by simpa using e1)]
              show wpS M A E s (if (ia + k == a.size) = true then _ else _) _ _
              by_cases e0 : ia + k = a.size
              · rw [if_pos (by simpa using e0)]
                exact wpS_pure ⟨hS4, .inl ⟨_, rfl, PM.done pmx⟩⟩
              rw [if_neg (by simpa using e0)]
              refine wpS_bind (elem_at (arr := b) (i := ib) hib ?_)
              have pmy := PM.pushB pmx hib
              show wpS M A E s (if (ib + 1 == b.size) = true then _ else _) _ _
              by_cases e2 : ib + 1 = b.size
              · rw [if_pos (by simpa using e2)]
                exact wpS_pure ⟨hS4, .inl ⟨_, rfl, PM.done pmy⟩⟩
              rw [if_neg (by simpa using e2)]
              refine wpS_bind (elem_at (arr := a) (i := (ia + k)) (by omega) ?_)
              refine wpS_bind (G _ _ _ _ _ _ _ _ hk4 (oa _) oB (show ib + 1 + (b.size - (ib + 1)) ≤ b.size by omega) (show 0 < b.size - (ib + 1) by omega) fun k2 hk2n => ?_)
              have hk2n : k2 ≤ b.size - (ib + 1) := hk2n
              show wpS M A E s (if k2 > 0 then _ else _) _ _
              by_cases hk20 : k2 > 0
              · rw [if_pos hk20]
                have pmw := PM.extB (k := k2) pmy (by omega)
                show wpS M A E s (if (ib + 1 + k2 == b.size) = true then _ else _) _ _
                by_cases e4 : ib + 1 + k2 = b.size
                · rw [if_pos (by simpa using e4)]
                  exact wpS_pure ⟨hS4, .inl ⟨_, rfl, PM.done pmw⟩⟩
                rw [if_neg (by simpa using e4)]
                refine wpS_bind (elem_at (arr := a) (i := (ia + k)) (by omega) ?_)
                have pmz := PM.pushA pmw (show (ia + k) < a.size by omega)
                show wpS M A E s (if ((ia + k) + 1 + 1 == a.size) = true then _ else _) _ _
                by_cases e3 : (ia + k) + 1 + 1 = a.size
                · rw [if_pos (by simpa using e3)]
                  exact wpS_pure ⟨hS4, .inl ⟨_, rfl, PM.last pmz⟩⟩
                · rw [if_neg (by simpa using e3)]
                  split
                  · exact wpS_pure ⟨hS4, .inr ⟨rfl, pmz, by show (ia + k) + 1 + 1 < a.size; omega, by show ib + 1 + k2 < b.size; omega, by show i + 2 ≤ (ia + k) + 1 + (ib + 1 + k2); omega⟩⟩
                  · exact wpS_pure ⟨hS4, rfl, pmz, by show (ia + k) + 1 + 1 < a.size; omega, by show ib + 1 + k2 < b.size; omega, by show i + 2 ≤ (ia + k) + 1 + (ib + 1 + k2); omega⟩
              · rw [if_neg hk20]
                refine wpS_bind (elem_at (arr := a) (i := (ia + k)) (by omega) ?_)
                have pmz := PM.pushA pmy (show (ia + k) < a.size by omega)
                show wpS M A E s (if ((ia + k) + 1 + 1 == a.size) = true then _ else _) _ _
                by_cases e3 : (ia + k) + 1 + 1 = a.size
                · rw [if_pos (by simpa using e3)]
                  exact wpS_pure ⟨hS4, .inl ⟨_, rfl, PM.last pmz⟩⟩
                · rw [if_neg (by simpa using e3)]
                  split
                  · exact wpS_pure ⟨hS4, .inr ⟨rfl, pmz, by show (ia + k) + 1 + 1 < a.size; omega, by show ib + 1 < b.size; omega, by show i + 2 ≤ (ia + k) + 1 + (ib + 1); omega⟩⟩
                  · exact wpS_pure ⟨hS4, rfl, pmz, by show (ia + k) + 1 + 1 < a.size; omega, by show ib + 1 < b.size; omega, by show i + 2 ≤ (ia + k) + 1 + (ib + 1); omega⟩
            · rw [if_neg hk0]
              refine wpS_bind (elem_at (arr := b) (i := ib) hib ?_)
              have pmy := PM.pushB pm hib
              show wpS M A E s (if (ib + 1 == b.size) = true then _ else _) _ _
              by_cases e2 : ib + 1 = b.size
              · rw [if_pos (by simpa using e2)]
                exact wpS_pure ⟨hS4, .inl ⟨_, rfl, PM.done pmy⟩⟩
              rw [if_neg (by simpa using e2)]
              refine wpS_bind (elem_at (arr := a) (i := ia) (by omega) ?_)
              refine wpS_bind (G _ _ _ _ _ _ _ _ hk4 (oa _) oB (show ib + 1 + (b.size - (ib + 1)) ≤ b.size by omega) (show 0 < b.size - (ib + 1) by omega) fun k2 hk2n => ?_)
              have hk2n : k2 ≤ b.size - (ib + 1) := hk2n
              show wpS M A E s (if k2 > 0 then _ else _) _ _
              by_cases hk20 : k2 > 0
              · rw [if_pos hk20]
                have pmw := PM.extB (k := k2) pmy (by omega)
                show wpS M A E s (if (ib + 1 + k2 == b.size) = true then _ else _) _ _
                by_cases e4 : ib + 1 + k2 = b.size
                · rw [if_pos (by simpa using e4)]
                  exact wpS_pure ⟨hS4, .inl ⟨_, rfl, PM.done pmw⟩⟩
                rw [if_neg (by simpa using e4)]
                refine wpS_bind (elem_at (arr := a) (i := ia) (by omega) ?_)
                have pmz := PM.pushA pmw (show ia < a.size by omega)
                show wpS M A E s (if (ia + 1 + 1 == a.size) = true then _ else _) _ _
                by_cases e3 : ia + 1 + 1 = a.size
                · rw [if_pos (by simpa using e3)]
                  exact wpS_pure ⟨hS4, .inl ⟨_, rfl, PM.last pmz⟩⟩
                · rw [if_neg (by simpa using e3)]
                  split
                  · exact wpS_pure ⟨hS4, .inr ⟨rfl, pmz, by show ia + 1 + 1 < a.size; omega, by show ib + 1 + k2 < b.size; omega, by show i + 2 ≤ ia + 1 + (ib + 1 + k2); omega⟩⟩
                  · exact wpS_pure ⟨hS4, rfl, pmz, by show ia + 1 + 1 < a.size; omega, by show ib + 1 + k2 < b.size; omega, by show i + 2 ≤ ia + 1 + (ib + 1 + k2); omega⟩
              · rw [if_neg hk20]
                refine wpS_bind (elem_at (arr := a) (i := ia) (by omega) ?_)
                have pmz := PM.pushA pmy (show ia < a.size by omega)
                show wpS M A E s (if (ia + 1 + 1 == a.size) = true then _ else _) _ _
                by_cases e3 : ia + 1 + 1 = a.size
                · rw [if_pos (by simpa using e3)]
                  exact wpS_pure ⟨hS4, .inl ⟨_, rfl, PM.last pmz⟩⟩
                · rw [if_neg (by simpa using e3)]
                  split
                  · exact wpS_pure ⟨hS4, .inr ⟨rfl, pmz, by show ia + 1 + 1 < a.size; omega, by show ib + 1 < b.size; omega, by show i + 2 ≤ ia + 1 + (ib + 1); omega⟩⟩
                  · exact wpS_pure ⟨hS4, rfl, pmz, by show ia + 1 + 1 < a.size; omega, by show ib + 1 < b.size; omega, by show i + 2 ≤ ia + 1 + (ib + 1); omega⟩
          · rw [if_neg hmg]
            refine wpS_bind (mod_gal hS3 (fun st4 hS4 => ?_))
            have hk4 := hS4.kind.trans hk1
            refine wpS_bind (elem_at (arr := b) (i := ib) hib ?_)
            refine wpS_bind (G _ _ _ _ _ _ _ _ hk4 (ob _) oA (show ia + (a.size - ia) ≤ a.size by omega) (show 0 < a.size - ia by omega) fun k hkn => ?_)
            have hkn : k ≤ a.size - ia := hkn
            show wpS M A E s (if k > 0 then _ else _) _ _
            by_cases hk0 : k > 0
            · rw [if_pos hk0]
              have pmx := PM.extA (k := k) pm (by omega)
              show wpS M A E s (if (ia + k + 1 == a.size) = true then _ else _) _ _
              by_cases e1 : ia + k + 1 = a.size
              · rw [if_pos (by simpa using e1)]
                exact wpS_pure ⟨hS4, .inl ⟨_, rfl, PM.last pmx⟩⟩
              rw [if_neg (by simpa using e1)]
              show wpS M A E s (if (ia + k == a.size) = true then _ else _) _ _
              by_cases e0 : ia + k = a.size
              · rw [if_pos (by simpa using e0)]
                exact wpS_pure ⟨hS4, .inl ⟨_, rfl, PM.done pmx⟩⟩
              rw [if_neg (by simpa using e0)]
              refine wpS_bind (elem_at (arr := b) (i := ib) hib ?_)
              have pmy := PM.pushB pmx hib
              show wpS M A E s (if (ib + 1 == b.size) = true then _ else _) _ _
              by_cases e2 : ib + 1 = b.size
              · rw [if_pos (by simpa using e2)]
                exact wpS_pure ⟨hS4, .inl ⟨_, rfl, PM.done pmy⟩⟩
              rw [if_neg (by simpa using e2)]
              refine wpS_bind (elem_at (arr := a) (i := (ia + k)) (by omega) ?_)
              refine wpS_bind (G _ _ _ _ _ _ _ _ hk4 (oa _) oB (show ib + 1 + (b.size - (ib + 1)) ≤ b.size by omega) (show 0 < b.size - (ib + 1) by omega) fun k2 hk2n => ?_)
              have hk2n : k2 ≤ b.size - (ib + 1) := hk2n
              show wpS M A E s (if k2 > 0 then _ else _) _ _
              by_cases hk20 : k2 > 0
              · rw [if_pos hk20]
                have pmw := PM.extB (k := k2) pmy (by omega)
                show wpS M A E s (if (ib + 1 + k2 == b.size) = true then _ else _) _ _
                by_cases e4 : ib + 1 + k2 = b.size
                · rw [if_pos (by simpa using e4)]
                  exact wpS_pure ⟨hS4, .inl ⟨_, rfl, PM.done pmw⟩⟩
                rw [if_neg (by simpa using e4)]
                refine wpS_bind (elem_at (arr := a) (i := (ia + k)) (by omega) ?_)
                have pmz := PM.pushA pmw (show (ia + k) < a.size by omega)
                show wpS M A E s (if ((ia + k) + 1 + 1 == a.size) = true then _ else _) _ _
                by_cases e3 : (ia + k) + 1 + 1 = a.size
                · rw [if_pos (by simpa using e3)]
                  exact wpS_pure ⟨hS4, .inl ⟨_, rfl, PM.last pmz⟩⟩
                · rw [if_neg (by simpa using e3)]
                  split
                  · exact wpS_pure ⟨hS4, .inr ⟨rfl, pmz, by show (ia + k) + 1 + 1 < a.size; omega, by show ib + 1 + k2 < b.size; omega, by show i + 2 ≤ (ia + k) + 1 + (ib + 1 + k2); omega⟩⟩
                  · exact wpS_pure ⟨hS4, rfl, pmz, by show (ia + k) + 1 + 1 < a.size; omega, by show ib + 1 + k2 < b.size; omega, by show i + 2 ≤ (ia + k) + 1 + (ib + 1 + k2); omega⟩
              · rw [if_neg hk20]
                refine wpS_bind (elem_at (arr := a) (i := (ia + k)) (by omega) ?_)
                have pmz := PM.pushA pmy (show (ia + k) < a.size by omega)
                show wpS M A E s (if ((ia + k) + 1 + 1 == a.size) = true then _ else _) _ _
                by_cases e3 : (ia + k) + 1 + 1 = a.size
                · rw [if_pos (by simpa using e3)]
                  exact wpS_pure ⟨hS4, .inl ⟨_, rfl, PM.last pmz⟩⟩
                · rw [if_neg (by simpa using e3)]
                  split
                  · exact wpS_pure ⟨hS4, .inr ⟨rfl, pmz, by show (ia + k) + 1 + 1 < a.size; omega, by show ib + 1 < b.size; omega, by show i + 2 ≤ (ia + k) + 1 + (ib + 1); omega⟩⟩
                  · exact wpS_pure ⟨hS4, rfl, pmz, by show (ia + k) + 1 + 1 < a.size; omega, by show ib + 1 < b.size; omega, by show i + 2 ≤ (ia + k) + 1 + (ib + 1); omega⟩
            · rw [if_neg hk0]
              refine wpS_bind (elem_at (arr := b) (i := ib) hib ?_)
              have pmy := PM.pushB pm hib
              show wpS M A E s (if (ib + 1 == b.size) = true then _ else _) _ _
              by_cases e2 : ib + 1 = b.size
              · rw [if_pos (by simpa using e2)]
                exact wpS_pure ⟨hS4, .inl ⟨_, rfl, PM.done pmy⟩⟩
              rw [if_neg (by simpa using e2)]
              refine wpS_bind (elem_at (arr := a) (i := ia) (by omega) ?_)
              refine wpS_bind (G _ _ _ _ _ _ _ _ hk4 (oa _) oB (show ib + 1 + (b.size - (ib + 1)) ≤ b.size by omega) (show 0 < b.size - (ib + 1) by omega) fun k2 hk2n => ?_)
              have hk2n : k2 ≤ b.size - (ib + 1) := hk2n
              show wpS M A E s (if k2 > 0 then _ else _) _ _
              by_cases hk20 : k2 > 0
              · rw [if_pos hk20]
                have pmw := PM.extB (k := k2) pmy (by omega)
                show wpS M A E s (if (ib + 1 + k2 == b.size) = true then _ else _) _ _
                by_cases e4 : ib + 1 + k2 = b.size
                · rw [if_pos (by simpa using e4)]
                  exact wpS_pure ⟨hS4, .inl ⟨_, rfl, PM.done pmw⟩⟩
                rw [if_neg (by simpa using e4)]
                refine wpS_bind (elem_at (arr := a) (i := ia) (by omega) ?_)
                have pmz := PM.pushA pmw (show ia < a.size by omega)
                show wpS M A E s (if (ia + 1 + 1 == a.size) = true then _ else _) _ _
                by_cases e3 : ia + 1 + 1 = a.size
                · rw [if_pos (by simpa using e3)]
                  exact wpS_pure ⟨hS4, .inl ⟨_, rfl, PM.last pmz⟩⟩
                · rw [if_neg (by simpa using e3)]
                  split
                  · exact wpS_pure ⟨hS4, .inr ⟨rfl, pmz, by show ia + 1 + 1 < a.size; omega, by show ib + 1 + k2 < b.size; omega, by show i + 2 ≤ ia + 1 + (ib + 1 + k2); omega⟩⟩
                  · exact wpS_pure ⟨hS4, rfl, pmz, by show ia + 1 + 1 < a.size; omega, by show ib + 1 + k2 < b.size; omega, by show i + 2 ≤ ia + 1 + (ib + 1 + k2); omega⟩
              · rw [if_neg hk20]
                refine wpS_bind (elem_at (arr := a) (i := ia) (by omega) ?_)
                have pmz := PM.pushA pmy (show ia < a.size by omega)
                show wpS M A E s (if (ia + 1 + 1 == a.size) = true then _ else _) _ _
                by_cases e3 : ia + 1 + 1 = a.size
                · rw [if_pos (by simpa using e3)]
                  exact wpS_pure ⟨hS4, .inl ⟨_, rfl, PM.last pmz⟩⟩
                · rw [if_neg (by simpa using e3)]
                  split
                  · exact wpS_pure ⟨hS4, .inr ⟨rfl, pmz, by show ia + 1 + 1 < a.size; omega, by show ib + 1 < b.size; omega, by show i + 2 ≤ ia + 1 + (ib + 1); omega⟩⟩
                  · exact wpS_pure ⟨hS4, rfl, pmz, by show ia + 1 + 1 < a.size; omega, by show ib + 1 < b.size; omega, by show i + 2 ≤ ia + 1 + (ib + 1); omega⟩
        · rintro ⟨r1, out, ia, ib, mg, ac, bc⟩ st2 ⟨hS2, hr, pm, hia, hib, hcnt⟩
          exact ⟨hS2, .inr ⟨hr, pm, hia, hib, hcnt⟩⟩
        rintro ⟨r1, out, ia, ib, mg, ac, bc⟩ st3 ⟨hS3, hc⟩
        rcases hc with ⟨r, hr, hp⟩ | ⟨hr, pm, hia, hib, hcnt⟩
        · have hr : r1 = some r := hr
          subst hr
          exact wpS_pure ⟨hS3, r, rfl, hp⟩
        have hr : r1 = none := hr
        subst hr
        refine wpS_bind (mod_gal hS3 (fun st4 hS4 => wpS_pure ?_))
        exact ⟨hS4, rfl, pm, hia, hib, hcnt⟩
      · rintro ⟨r0, out, ia, ib, mg⟩ st' ⟨hS, hr, pm, hia, hib, hcnt⟩
        exfalso
        have hia : ia + 1 < a.size := hia
        have hib : ib < b.size := hib
        have hcnt : max 0 (a.size + b.size) + 1 ≤ ia + ib := hcnt
        omega
      · rintro ⟨r0, out, ia, ib, mg⟩ st' ⟨hS, r, hr, hp⟩
        have hr : r0 = some r := hr
        subst hr
        exact wpS_pure (q1 _ _ hS hp)
    · refine wpS_bind (wpS_modify (wpS_bind (wpS_get (wpS_pure ?_))))
      have hf2 : failedOf st2 = none := hs.fail.trans hf
      have e : (failedOf st2).isNone = true := by rw [hf2]; rfl
      exact q_of e (back r st2 (hs.kind.trans hk) hf2 hs.arr hs.pend hp _ rfl rfl rfl rfl)
  · rw [if_neg hle]
    refine wpS_bind ?_
    refine use_merge (κ := κ) (ok := ok) ?_ hk oX oY (by rw [hx]; omega) (by rw [hy]; omega) (fun r st2 hs hp => ?_)
    · intro a b Q st1 hk1 oA oB ha hb q1
      have oa : ∀ {i : Nat} (hi : i < a.size), ok (a[i]).1 := fun hi => oA _ (Array.getElem_mem _)
      have ob : ∀ {i : Nat} (hi : i < b.size), ok (b[i]).1 := fun hi => oB _ (Array.getElem_mem _)
      refine wpS_bind (wpS_lift (wpAny_rule ⟨rfl, ?_⟩))
      refine wpS_bind (elem_at (arr := a) (i := a.size - 1) (by omega) ?_)
      have pm1 : PH a b #[a[a.size - 1]] (a.size - 1) b.size := by
        have p0 : PH a b #[] a.size b.size := ⟨by simp, Nat.le_refl _, Nat.le_refl _⟩
        exact p0.pushA ha
      show wpS M A E s (if (a.size - 1 == 0) = true then _ else _) Q _
      by_cases ha1 : a.size - 1 = 0
      · rw [if_pos (by simpa using ha1)]
        exact wpS_pure (q1 _ _ (SameG.refl _) pm1.done)
      rw [if_neg (by simpa using ha1)]
      show wpS M A E s (if (b.size == 1) = true then _ else _) Q _
      by_cases hb1 : b.size = 1
      · rw [if_pos (by simpa using hb1)]
        exact wpS_pure (q1 _ _ (SameG.refl _) pm1.first)
      rw [if_neg (by simpa using hb1)]
      refine wpS_bind (wpS_get ?_)
      refine wpS_bind (wpS_mono (Q := fun c st' => SameG st1 st' ∧ ∃ r, c.1 = some r ∧ r.toList.Perm (a.toList ++ b.toList)) (wpS_forRange (fun i c st' => SameG st1 st' ∧ c.1 = none ∧ PH a b c.2.2.2.1 c.2.1 c.2.2.1 ∧ 1 ≤ c.2.1 ∧ 2 ≤ c.2.2.1 ∧ i + 1 + c.2.1 + c.2.2.1 ≤ a.size + b.size) ?_ ?_ ⟨SameG.refl _, rfl, pm1, by show 1 ≤ a.size - 1; omega, by show 2 ≤ b.size; omega, by show 0 + 1 + (a.size - 1) + b.size ≤ _; omega⟩) ?_)
      · rintro i ⟨r0, na, nb, out, mg⟩ st' _ _ ⟨hS, hr, pm, hia, hib, hcnt⟩
        have hr : r0 = none := hr
        subst hr
        have hk' : kindOf st' = κ := hS.kind.trans hk1
        refine wpS_bind (wpS_mono (Q := fun c st2 => SameG st1 st2 ∧ ((∃ r, c.1 = some r ∧ r.toList.Perm (a.toList ++ b.toList)) ∨ (c.1 = none ∧ PH a b c.2.2.2.1 c.2.1 c.2.2.1 ∧ 1 ≤ c.2.1 ∧ 2 ≤ c.2.2.1 ∧ i + 2 + c.2.1 + c.2.2.1 ≤ a.size + b.size))) (wpS_forRange (fun x c st2 => SameG st1 st2 ∧ c.1 = none ∧ PH a b c.2.2.2.1 c.2.1 c.2.2.1 ∧ 1 ≤ c.2.1 ∧ 2 ≤ c.2.2.1 ∧ i + 1 + x + c.2.1 + c.2.2.1 ≤ a.size + b.size) ?_ ?_ ⟨hS, rfl, pm, hia, hib, hcnt⟩) ?_)
        · rintro x ⟨r1, na, nb, out, ac, bc⟩ st2 _ _ ⟨hS2, hr, pm, hia, hib, hcnt⟩
          have hia : 1 ≤ na := hia
          have hib : 2 ≤ nb := hib
          have hcnt : i + 1 + x + na + nb ≤ a.size + b.size := hcnt
          have pm : PH a b out na nb := pm
          have pa := pm.2.1
          have pb := pm.2.2
          have hk2 : kindOf st2 = κ := hS2.kind.trans hk1
          refine wpS_bind (elem_at (arr := b) (i := nb - 1) (by omega) (wpS_bind (elem_at (arr := a) (i := na - 1) (by omega) (wpS_bind (lt_any h hk2 (ob _) (oa _) fun c => ?_)))))
          cases c with
          | true =>
            refine wpS_bind (elem_at (arr := a) (i := na - 1) (by omega) ?_)
            have pm' := pm.pushA hia
            show wpS M A E s (if (na - 1 == 0) = true then _ else _) _ _
            by_cases e : na - 1 = 0
            · rw [if_pos (by simpa using e)]
              exact wpS_pure ⟨hS2, .inl ⟨_, rfl, pm'.done⟩⟩
            · rw [if_neg (by simpa using e)]
              split
              · exact wpS_pure ⟨hS2, .inr ⟨rfl, pm', by show 1 ≤ na - 1; omega, hib, by show i + 2 + (na - 1) + nb ≤ _; omega⟩⟩
              · exact wpS_pure ⟨hS2, rfl, pm', by show 1 ≤ na - 1; omega, hib, by show i + 1 + (x + 1) + (na - 1) + nb ≤ _; omega⟩
          | false =>
            refine wpS_bind (elem_at (arr := b) (i := nb - 1) (by omega) ?_)
            have pm' := pm.pushB (show 1 ≤ nb by omega)
            show wpS M A E s (if (nb - 1 == 1) = true then _ else _) _ _
            by_cases e : nb - 1 = 1
            · rw [if_pos (by simpa using e)]
              exact wpS_pure ⟨hS2, .inl ⟨_, rfl, pm'.first⟩⟩
            · rw [if_neg (by simpa using e)]
              split
              · exact wpS_pure ⟨hS2, .inr ⟨rfl, pm', hia, by show 2 ≤ nb - 1; omega, by show i + 2 + na + (nb - 1) ≤ _; omega⟩⟩
              · exact wpS_pure ⟨hS2, rfl, pm', hia, by show 2 ≤ nb - 1; omega, by show i + 1 + (x + 1) + na + (nb - 1) ≤ _; omega⟩
        · rintro ⟨r1, na, nb, out, ac, bc⟩ st2 ⟨hS2, hr, pm, hia, hib, hcnt⟩
          refine ⟨hS2, .inr ⟨hr, pm, hia, hib, ?_⟩⟩
          have hcnt : i + 1 + max 0 (a.size + b.size) + na + nb ≤ a.size + b.size := hcnt
          show i + 2 + na + nb ≤ a.size + b.size
          omega
        rintro ⟨r1, na, nb, out, ac, bc⟩ st2 ⟨hS2, hc⟩
        rcases hc with ⟨r, hr, hp⟩ | ⟨hr, pm, hia, hib, hcnt⟩
        · have hr : r1 = some r := hr
          subst hr
          exact wpS_pure ⟨hS2, r, rfl, hp⟩
        have hr : r1 = none := hr
        subst hr
        refine wpS_bind (wpS_lift (wpAny_rule ⟨rfl, ?_⟩))
        refine wpS_bind (wpS_mono (Q := fun c st2 => SameG st1 st2 ∧ ((∃ r, c.1 = some r ∧ r.toList.Perm (a.toList ++ b.toList)) ∨ (c.1 = none ∧ PH a b c.2.2.2.1 c.2.1 c.2.2.1 ∧ 1 ≤ c.2.1 ∧ 2 ≤ c.2.2.1 ∧ i + 2 + c.2.1 + c.2.2.1 ≤ a.size + b.size))) (wpS_forRange (fun x c st2 => SameG st1 st2 ∧ c.1 = none ∧ PH a b c.2.2.2.1 c.2.1 c.2.2.1 ∧ 1 ≤ c.2.1 ∧ 2 ≤ c.2.2.1 ∧ i + 2 + c.2.1 + c.2.2.1 ≤ a.size + b.size) ?_ ?_ ⟨hS2, rfl, pm, hia, hib, hcnt⟩) ?_)
        · rintro x ⟨r1, na, nb, out, mg, ac, bc⟩ st3 _ _ ⟨hS3, hr, pm, hia, hib, hcnt⟩
          have hia : 1 ≤ na := hia
          have hib : 2 ≤ nb := hib
          have hcnt : i + 2 + na + nb ≤ a.size + b.size := hcnt
          have pm : PH a b out na nb := pm
          have pa := pm.2.1
          have pb := pm.2.2
          show wpS M A E s (if mg > 1 then _ else _) _ _
          by_cases hmg : mg > 1
          · rw [if_pos hmg]
            refine wpS_bind (mod_gal hS3 (fun st4 hS4 => ?_))
            have hk4 := hS4.kind.trans hk1
            refine wpS_bind (elem_at (arr := b) (i := nb - 1) (by omega) ?_)
            refine wpS_bind (G _ _ _ _ _ _ _ _ hk4 (ob _) oA (show 0 + na ≤ a.size by omega) (show na - 1 < na by omega) fun k hkn => ?_)
            have hkn : k ≤ na := hkn
            show wpS M A E s (if na - k > 0 then _ else _) _ _
            by_cases hk0 : na - k > 0
            · rw [if_pos hk0]
              have pmx := PH.extA (k := k) pm hkn
              show wpS M A E s (if (k == 0) = true then _ else _) _ _
              by_cases e0 : k = 0
              · rw [if_pos (by simpa using e0)]
                exact wpS_pure ⟨hS4, .inl ⟨_, rfl, PH.done pmx⟩⟩
              rw [if_neg (by simpa using e0)]
              refine wpS_bind (elem_at (arr := b) (i := nb - 1) (by omega) ?_)
              have pmy := PH.pushB pmx (show 1 ≤ nb by omega)
              show wpS M A E s (if (nb - 1 == 1) = true then _ else _) _ _
              by_cases e2 : nb - 1 = 1
              · rw [if_pos (by simpa using e2)]
                exact wpS_pure ⟨hS4, .inl ⟨_, rfl, PH.first pmy⟩⟩
              rw [if_neg (by simpa using e2)]
              refine wpS_bind (elem_at (arr := a) (i := k - 1) (by omega) ?_)
              refine wpS_bind (G _ _ _ _ _ _ _ _ hk4 (oa _) oB (show 0 + (nb - 1) ≤ b.size by omega) (show nb - 1 - 1 < nb - 1 by omega) fun k2 hk2n => ?_)
              have hk2n : k2 ≤ nb - 1 := hk2n
              show wpS M A E s (if nb - 1 - k2 > 0 then _ else _) _ _
              by_cases hk20 : nb - 1 - k2 > 0
              · rw [if_pos hk20]
                have pmw := PH.extB (k := k2) pmy hk2n
                show wpS M A E s (if (k2 == 1) = true then _ else _) _ _
                by_cases e4 : k2 = 1
                · rw [if_pos (by simpa using e4)]
                  exact wpS_pure ⟨hS4, .inl ⟨_, rfl, PH.first pmw⟩⟩
                rw [if_neg (by simpa using e4)]
                show wpS M A E s (if (k2 == 0) = true then _ else _) _ _
                by_cases e5 : k2 = 0
                · rw [if_pos (by simpa using e5)]
                  exact wpS_pure ⟨hS4, .inl ⟨_, rfl, PH.done pmw⟩⟩
                rw [if_neg (by simpa using e5)]
                refine wpS_bind (elem_at (arr := a) (i := k - 1) (by omega) ?_)
                have pmz := PH.pushA pmw (show 1 ≤ k by omega)
                show wpS M A E s (if (k - 1 == 0) = true then _ else _) _ _
                by_cases e3 : k - 1 = 0
                · rw [if_pos (by simpa using e3)]
                  exact wpS_pure ⟨hS4, .inl ⟨_, rfl, PH.done pmz⟩⟩
                · rw [if_neg (by simpa using e3)]
                  split
                  · exact wpS_pure ⟨hS4, .inr ⟨rfl, pmz, by show 1 ≤ k - 1; omega, by show 2 ≤ k2; omega, by show i + 2 + (k - 1) + (k2) ≤ _; omega⟩⟩
                  · exact wpS_pure ⟨hS4, rfl, pmz, by show 1 ≤ k - 1; omega, by show 2 ≤ k2; omega, by show i + 2 + (k - 1) + (k2) ≤ _; omega⟩
              · rw [if_neg hk20]
                refine wpS_bind (elem_at (arr := a) (i := k - 1) (by omega) ?_)
                have pmz := PH.pushA pmy (show 1 ≤ k by omega)
                show wpS M A E s (if (k - 1 == 0) = true then _ else _) _ _
                by_cases e3 : k - 1 = 0
                · rw [if_pos (by simpa using e3)]
                  exact wpS_pure ⟨hS4, .inl ⟨_, rfl, PH.done pmz⟩⟩
                · rw [if_neg (by simpa using e3)]
                  split
                  · exact wpS_pure ⟨hS4, .inr ⟨rfl, pmz, by show 1 ≤ k - 1; omega, by show 2 ≤ nb - 1; omega, by show i + 2 + (k - 1) + (nb - 1) ≤ _; omega⟩⟩
                  · exact wpS_pure ⟨hS4, rfl, pmz, by show 1 ≤ k - 1; omega, by show 2 ≤ nb - 1; omega, by show i + 2 + (k - 1) + (nb - 1) ≤ _; omega⟩
            · rw [if_neg hk0]
              refine wpS_bind (elem_at (arr := b) (i := nb - 1) (by omega) ?_)
              have pmy := PH.pushB pm (show 1 ≤ nb by omega)
              show wpS M A E s (if (nb - 1 == 1) = true then _ else _) _ _
              by_cases e2 : nb - 1 = 1
              · rw [if_pos (by simpa using e2)]
                exact wpS_pure ⟨hS4, .inl ⟨_, rfl, PH.first pmy⟩⟩
              rw [if_neg (by simpa using e2)]
              refine wpS_bind (elem_at (arr := a) (i := na - 1) (by omega) ?_)
              refine wpS_bind (G _ _ _ _ _ _ _ _ hk4 (oa _) oB (show 0 + (nb - 1) ≤ b.size by omega) (show nb - 1 - 1 < nb - 1 by omega) fun k2 hk2n => ?_)
              have hk2n : k2 ≤ nb - 1 := hk2n
              show wpS M A E s (if nb - 1 - k2 > 0 then _ else _) _ _
              by_cases hk20 : nb - 1 - k2 > 0
              · rw [if_pos hk20]
                have pmw := PH.extB (k := k2) pmy hk2n
                show wpS M A E s (if (k2 == 1) = true then _ else _) _ _
                by_cases e4 : k2 = 1
                · rw [if_pos (by simpa using e4)]
                  exact wpS_pure ⟨hS4, .inl ⟨_, rfl, PH.first pmw⟩⟩
                rw [if_neg (by simpa using e4)]
                show wpS M A E s (if (k2 == 0) = true then _ else _) _ _
                by_cases e5 : k2 = 0
                · rw [if_pos (by simpa using e5)]
                  exact wpS_pure ⟨hS4, .inl ⟨_, rfl, PH.done pmw⟩⟩
                rw [if_neg (by simpa using e5)]
                refine wpS_bind (elem_at (arr := a) (i := na - 1) (by omega) ?_)
                have pmz := PH.pushA pmw (show 1 ≤ na by omega)
                show wpS M A E s (if (na - 1 == 0) = true then _ else _) _ _
                by_cases e3 : na - 1 = 0
                · rw [if_pos (by simpa using e3)]
                  exact wpS_pure ⟨hS4, .inl ⟨_, rfl, PH.done pmz⟩⟩
                · rw [if_neg (by simpa using e3)]
                  split
                  · exact wpS_pure ⟨hS4, .inr ⟨rfl, pmz, by show 1 ≤ na - 1; omega, by show 2 ≤ k2; omega, by show i + 2 + (na - 1) + (k2) ≤ _; omega⟩⟩
                  · exact wpS_pure ⟨hS4, rfl, pmz, by show 1 ≤ na - 1; omega, by show 2 ≤ k2; omega, by show i + 2 + (na - 1) + (k2) ≤ _; omega⟩
              · rw [if_neg hk20]
                refine wpS_bind (elem_at (arr := a) (i := na - 1) (by omega) ?_)
                have pmz := PH.pushA pmy (show 1 ≤ na by omega)
                show wpS M A E s (if (na - 1 == 0) = true then _ else _) _ _
                by_cases e3 : na - 1 = 0
                · rw [if_pos (by simpa using e3)]
                  exact wpS_pure ⟨hS4, .inl ⟨_, rfl, PH.done pmz⟩⟩
                · rw [if_neg (by simpa using e3)]
                  split
                  · exact wpS_pure ⟨hS4, .inr ⟨rfl, pmz, by show 1 ≤ na - 1; omega, by show 2 ≤ nb - 1; omega, by show i + 2 + (na - 1) + (nb - 1) ≤ _; omega⟩⟩
                  · exact wpS_pure ⟨hS4, rfl, pmz, by show 1 ≤ na - 1; omega, by show 2 ≤ nb - 1; omega, by show i + 2 + (na - 1) + (nb - 1) ≤ _; omega⟩
          · rw [if_neg hmg]
            refine wpS_bind (mod_gal hS3 (fun st4 hS4 => ?_))
            have hk4 := hS4.kind.trans hk1
            refine wpS_bind (elem_at (arr := b) (i := nb - 1) (by omega) ?_)
            refine wpS_bind (G _ _ _ _ _ _ _ _ hk4 (ob _) oA (show 0 + na ≤ a.size by omega) (show na - 1 < na by omega) fun k hkn => ?_)
            have hkn : k ≤ na := hkn
            show wpS M A E s (if na - k > 0 then _ else _) _ _
            by_cases hk0 : na - k > 0
            · rw [if_pos hk0]
              have pmx := PH.extA (k := k) pm hkn
              show wpS M A E s (if (k == 0) = true then _ else _) _ _
              by_cases e0 : k = 0
              · rw [if_pos (by simpa using e0)]
                exact wpS_pure ⟨hS4, .inl ⟨_, rfl, PH.done pmx⟩⟩
              rw [if_neg (by simpa using e0)]
              refine wpS_bind (elem_at (arr := b) (i := nb - 1) (by omega) ?_)
              have pmy := PH.pushB pmx (show 1 ≤ nb by omega)
              show wpS M A E s (if (nb - 1 == 1) = true then _ else _) _ _
              by_cases e2 : nb - 1 = 1
              · rw [if_pos (by simpa using e2)]
                exact wpS_pure ⟨hS4, .inl ⟨_, rfl, PH.first pmy⟩⟩
              rw [if_neg (by simpa using e2)]
              refine wpS_bind (elem_at (arr := a) (i := k - 1) (by omega) ?_)
              refine wpS_bind (G _ _ _ _ _ _ _ _ hk4 (oa _) oB (show 0 + (nb - 1) ≤ b.size by omega) (show nb - 1 - 1 < nb - 1 by omega) fun k2 hk2n => ?_)
              have hk2n : k2 ≤ nb - 1 := hk2n
              show wpS M A E s (if nb - 1 - k2 > 0 then _ else _) _ _
              by_cases hk20 : nb - 1 - k2 > 0
              · rw [if_pos hk20]
                have pmw := PH.extB (k := k2) pmy hk2n
                show wpS M A E s (if (k2 == 1) = true then _ else _) _ _
                by_cases e4 : k2 = 1
                · rw [if_pos (by simpa using e4)]
                  exact wpS_pure ⟨hS4, .inl ⟨_, rfl, PH.first pmw⟩⟩
                rw [if_neg (by simpa using e4)]
                show wpS M A E s (if (k2 == 0) = true then _ else _) _ _
                by_cases e5 : k2 = 0
                · rw [if_pos (by simpa using e5)]
                  exact wpS_pure ⟨hS4, .inl ⟨_, rfl, PH.done pmw⟩⟩
                rw [if_neg (by simpa using e5)]
                refine wpS_bind (elem_at (arr := a) (i := k - 1) (by omega) ?_)
                have pmz := PH.pushA pmw (show 1 ≤ k by omega)
                show wpS M A E s (if (k - 1 == 0) = true then _ else _) _ _
                by_cases e3 : k - 1 = 0
                · rw [if_pos (by simpa using e3)]
                  exact wpS_pure ⟨hS4, .inl ⟨_, rfl, PH.done pmz⟩⟩
                · rw [if_neg (by simpa using e3)]
                  split
                  · exact wpS_pure ⟨hS4, .inr ⟨rfl, pmz, by show 1 ≤ k - 1; omega, by show 2 ≤ k2; omega, by show i + 2 + (k - 1) + (k2) ≤ _; omega⟩⟩
                  · exact wpS_pure ⟨hS4, rfl, pmz, by show 1 ≤ k - 1; omega, by show 2 ≤ k2; omega, by show i + 2 + (k - 1) + (k2) ≤ _; omega⟩
              · rw [if_neg hk20]
                refine wpS_bind (elem_at (arr := a) (i := k - 1) (by omega) ?_)
                have pmz := PH.pushA pmy (show 1 ≤ k by omega)
                show wpS M A E s (if (k - 1 == 0) = true then _ else _) _ _
                by_cases e3 : k - 1 = 0
                · rw [if_pos (by simpa using e3)]
                  exact wpS_pure ⟨hS4, .inl ⟨_, rfl, PH.done pmz⟩⟩
                · rw [if_neg (by simpa using e3)]
                  split
                  · exact wpS_pure ⟨hS4, .inr ⟨rfl, pmz, by show 1 ≤ k - 1; omega, by show 2 ≤ nb - 1; omega, by show i + 2 + (k - 1) + (nb - 1) ≤ _; omega⟩⟩
                  · exact wpS_pure ⟨hS4, rfl, pmz, by show 1 ≤ k - 1; omega, by show 2 ≤ nb - 1; omega, by show i + 2 + (k - 1) + (nb - 1) ≤ _; omega⟩
            · rw [if_neg hk0]
              refine wpS_bind (elem_at (arr := b) (i := nb - 1) (by omega) ?_)
              have pmy := PH.pushB pm (show 1 ≤ nb by omega)
              show wpS M A E s (if (nb - 1 == 1) = true then _ else _) _ _
              by_cases e2 : nb - 1 = 1
              · rw [if_pos (by simpa using e2)]
                exact wpS_pure ⟨hS4, .inl ⟨_, rfl, PH.first pmy⟩⟩
              rw [if_neg (by simpa using e2)]
              refine wpS_bind (elem_at (arr := a) (i := na - 1) (by omega) ?_)
              refine wpS_bind (G _ _ _ _ _ _ _ _ hk4 (oa _) oB (show 0 + (nb - 1) ≤ b.size by omega) (show nb - 1 - 1 < nb - 1 by omega) fun k2 hk2n => ?_)
              have hk2n : k2 ≤ nb - 1 := hk2n
              show wpS M A E s (if nb - 1 - k2 > 0 then _ else _) _ _
              by_cases hk20 : nb - 1 - k2 > 0
              · rw [if_pos hk20]
                have pmw := PH.extB (k := k2) pmy hk2n
                show wpS M A E s (if (k2 == 1) = true then _ else _) _ _
                by_cases e4 : k2 = 1
                · rw [if_pos (by simpa using e4)]
                  exact wpS_pure ⟨hS4, .inl ⟨_, rfl, PH.first pmw⟩⟩
                rw [if_neg (by simpa using e4)]
                show wpS M A E s (if (k2 == 0) = true then _ else _) _ _
                by_cases e5 : k2 = 0
                · rw [if_pos (by simpa using e5)]
                  exact wpS_pure ⟨hS4, .inl ⟨_, rfl, PH.done pmw⟩⟩
                rw [if_neg (by simpa using e5)]
                refine wpS_bind (elem_at (arr := a) (i := na - 1) (by omega) ?_)
                have pmz := PH.pushA pmw (show 1 ≤ na by omega)
                show wpS M A E s (if (na - 1 == 0) = true then _ else _) _ _
                by_cases e3 : na - 1 = 0
                · rw [if_pos (by simpa using e3)]
                  exact wpS_pure ⟨hS4, .inl ⟨_, rfl, PH.done pmz⟩⟩
                · rw [if_neg (by simpa using e3)]
                  split
                  · exact wpS_pure ⟨hS4, .inr ⟨rfl, pmz, by show 1 ≤ na - 1; omega, by show 2 ≤ k2; omega, by show i + 2 + (na - 1) + (k2) ≤ _; omega⟩⟩
                  · exact wpS_pure ⟨hS4, rfl, pmz, by show 1 ≤ na - 1; omega, by show 2 ≤ k2; omega, by show i + 2 + (na - 1) + (k2) ≤ _; omega⟩
              · rw [if_neg hk20]
                refine wpS_bind (elem_at (arr := a) (i := na - 1) (by omega) ?_)
                have pmz := PH.pushA pmy (show 1 ≤ na by omega)
                show wpS M A E s (if (na - 1 == 0) = true then _ else _) _ _
                by_cases e3 : na - 1 = 0
                · rw [if_pos (by simpa using e3)]
                  exact wpS_pure ⟨hS4, .inl ⟨_, rfl, PH.done pmz⟩⟩
                · rw [if_neg (by simpa using e3)]
                  split
                  · exact wpS_pure ⟨hS4, .inr ⟨rfl, pmz, by show 1 ≤ na - 1; omega, by show 2 ≤ nb - 1; omega, by show i + 2 + (na - 1) + (nb - 1) ≤ _; omega⟩⟩
                  · exact wpS_pure ⟨hS4, rfl, pmz, by show 1 ≤ na - 1; omega, by show 2 ≤ nb - 1; omega, by show i + 2 + (na - 1) + (nb - 1) ≤ _; omega⟩
        · rintro ⟨r1, na, nb, out, mg, ac, bc⟩ st2 ⟨hS2, hr, pm, hia, hib, hcnt⟩
          exact ⟨hS2, .inr ⟨hr, pm, hia, hib, hcnt⟩⟩
        rintro ⟨r1, na, nb, out, mg, ac, bc⟩ st3 ⟨hS3, hc⟩
        rcases hc with ⟨r, hr, hp⟩ | ⟨hr, pm, hia, hib, hcnt⟩
        · have hr : r1 = some r := hr
          subst hr
          exact wpS_pure ⟨hS3, r, rfl, hp⟩
        have hr : r1 = none := hr
        subst hr
        refine wpS_bind (mod_gal hS3 (fun st4 hS4 => wpS_pure ?_))
        exact ⟨hS4, rfl, pm, hia, hib, hcnt⟩
      · rintro ⟨r0, na, nb, out, mg⟩ st' ⟨hS, hr, pm, hia, hib, hcnt⟩
        exfalso
        have hcnt : max 0 (a.size + b.size) + 1 + na + nb ≤ a.size + b.size := hcnt
        omega
      · rintro ⟨r0, na, nb, out, mg⟩ st' ⟨hS, r, hr, hp⟩
        have hr : r0 = some r := hr
        subst hr
        exact wpS_pure (q1 _ _ hS hp)
    · refine wpS_bind (wpS_modify (wpS_bind (wpS_get (wpS_pure ?_))))
      have hf2 : failedOf st2 = none := hs.fail.trans hf
      have e : (failedOf st2).isNone = true := by rw [hf2]; rfl
      exact q_of e (back r st2 (hs.kind.trans hk) hf2 hs.arr hs.pend hp _ rfl rfl rfl rfl)
end
end RS

end
section
set_option Elab.async false
set_option linter.all false
set_option maxRecDepth 100000
set_option maxHeartbeats 4000000
namespace RS
open PySem PyProof.Rows
section
variable {M : Model} {A : Around} {E : Value → Shared → Prop} {s : Shared} {κ : SortKind} {ok : Value → Prop} {a₀ : Array Keyed}
/-- the items are the first ones, in some order; p: the runs that wait -/
structure SP (κ : SortKind) (a₀ : Array Keyed) (p : Array (Nat × Nat × Nat)) (st : SortSt) : Prop where
  kind : kindOf st = κ
  perm : (arrOf st).toList.Perm a₀.toList
  fail : failedOf st = none
  pend : pendingOf st = p
theorem SP.size {p : Array (Nat × Nat × Nat)} {st : SortSt} (h : SP κ a₀ p st) : (arrOf st).size = a₀.size := by
  have := h.perm.length_eq
  rwa [Array.length_toList, Array.length_toList] at this
theorem SP.oks {p : Array (Nat × Nat × Nat)} {st : SortSt} (h : SP κ a₀ p st) (o : Oks ok a₀) : Oks ok (arrOf st) := fun x hx => o x (Array.mem_toList_iff.mp (h.perm.mem_iff.mp (Array.mem_toList_iff.mpr hx)))
theorem ltAt_any {p : Array (Nat × Nat × Nat)} {st : SortSt} {i j : Nat} {Q : Option Bool → SortSt → Prop} (h : Ask M A s κ ok) (o : Oks ok a₀) (hS : SP κ a₀ p st) (hi : i < a₀.size) (hj : j < a₀.size) (q : ∀ b, Q (some b) st) : wpS M A E s (ltAt' i j) Q st := by
  rw [ltAt'_eq]
  have hz := hS.size
  have oo := hS.oks o
  refine wpS_bind (wpS_get (wpS_bind (elem_at (by omega) (wpS_bind (elem_at (by omega) ?_)))))
  exact lt_any h hS.kind (oo _ (Array.getElem_mem _)) (oo _ (Array.getElem_mem _)) q
theorem rev_any {p : Array (Nat × Nat × Nat)} {st : SortSt} {i j : Nat} {Q : Unit → SortSt → Prop} (hS : SP κ a₀ p st) (q : ∀ st', SP κ a₀ p st' → Q () st') : wpS M A E s (reverseSlice' i j) Q st := by
  rw [reverseSlice'_eq]
  exact wpS_modify (q _ ⟨hS.kind, (mirror_perm _ _ _ _).toList.trans hS.perm, hS.fail, hS.pend⟩)
theorem move_any {p : Array (Nat × Nat × Nat)} {st : SortSt} {i j : Nat} {Q : Unit → SortSt → Prop} (hS : SP κ a₀ p st) (q : ∀ st', SP κ a₀ p st' → Q () st') : wpS M A E s (moveDown' i j) Q st := by
  rw [moveDown'_eq]
  exact wpS_modify (q _ ⟨hS.kind, (bubble_perm _ _ _).toList.trans hS.perm, hS.fail, hS.pend⟩)
theorem binary_any {p : Array (Nat × Nat × Nat)} {st : SortSt} {lo n k0 : Nat} {Q : Bool → SortSt → Prop} (h : Ask M A s κ ok) (o : Oks ok a₀) (hS : SP κ a₀ p st) (hn : lo + n ≤ a₀.size) (q : ∀ st', SP κ a₀ p st' → Q true st') : wpS M A E s (binarySort' lo n k0) Q st := by
  rw [binarySort'_eq]
  refine wpS_bind (wpS_mono (Q := fun c st' => SP κ a₀ p st' ∧ c.1 = none) (wpS_forRange (fun (_ : Nat) (c : Option Bool × Unit) st' => SP κ a₀ p st' ∧ c.1 = none) ?_ ?_ ⟨hS, rfl⟩) ?_)
  · rintro k ⟨r, u⟩ st' hk1 hk2 ⟨hS', hr⟩
    refine wpS_bind (wpS_mono (Q := fun c st2 => SP κ a₀ p st2 ∧ c.1 = none ∧ c.2.2 ≤ k) (wpS_forRange (fun (_ : Nat) (c : Option Bool × Nat × Nat) st2 => SP κ a₀ p st2 ∧ c.1 = none ∧ c.2.2 ≤ k) ?_ ?_ ⟨hS', rfl, Nat.le_refl _⟩) ?_)
    · rintro x ⟨r1, l, rr⟩ st2 _ _ ⟨hS2, hr1, hrr⟩
      have hrr : rr ≤ k := hrr
      show wpS M A E s (if l ≥ rr then _ else _) _ _
      by_cases hc : l ≥ rr
      · rw [if_pos hc]
        exact wpS_pure ⟨hS2, rfl, hrr⟩
      · rw [if_neg hc]
        refine wpS_bind (ltAt_any h o hS2 (show lo + k < a₀.size by omega) (show lo + (l + rr) / 2 < a₀.size by omega) fun c => ?_)
        cases c with
        | true => exact wpS_pure ⟨hS2, rfl, by show (l + rr) / 2 ≤ k; omega⟩
        | false => exact wpS_pure ⟨hS2, rfl, hrr⟩
    · exact fun _ _ h => h
    · rintro ⟨r1, l, rr⟩ st2 ⟨hS2, hr1, hrr⟩
      have hr1 : r1 = none := hr1
      subst hr1
      exact wpS_bind (move_any hS2 fun st3 hS3 => wpS_pure ⟨hS3, rfl⟩)
  · exact fun _ _ h => h
  · rintro ⟨r, u⟩ st' ⟨hS', hr⟩
    have hr : r = none := hr
    subst hr
    exact wpS_pure (q _ hS')
theorem count_any {p : Array (Nat × Nat × Nat)} {st : SortSt} {lo nrem : Nat} {Q : Option Nat → SortSt → Prop} (h : Ask M A s κ ok) (o : Oks ok a₀) (hS : SP κ a₀ p st) (hn : lo + nrem ≤ a₀.size) (h1 : 1 ≤ nrem) (q : ∀ m st', 1 ≤ m → m ≤ nrem → SP κ a₀ p st' → Q (some m) st') : wpS M A E s (countRun' lo nrem) Q st := by
  rw [countRun'_eq]
  refine wpS_bind (wpS_mono (Q := fun c st' => SP κ a₀ p st' ∧ c.1 = none ∧ 1 ≤ c.2 ∧ c.2 ≤ nrem) (wpS_forRange (fun i c st' => SP κ a₀ p st' ∧ c.1 = none ∧ c.2 = i) ?_ ?_ ⟨hS, rfl, rfl⟩) ?_)
  · rintro i ⟨r, n⟩ st' hi1 hi2 ⟨hS', hr, hni⟩
    have hni : n = i := hni
    subst hni
    refine wpS_bind (ltAt_any h o hS' (by omega) (by omega) fun c => ?_)
    cases c with
    | true => exact wpS_pure ⟨hS', rfl, hi1, by show n ≤ nrem; omega⟩
    | false => exact wpS_pure ⟨hS', rfl, rfl⟩
  · rintro ⟨r, n⟩ st' ⟨hS', hr, hni⟩
    have hni : n = max 1 nrem := hni
    refine ⟨hS', hr, ?_, ?_⟩
    · show 1 ≤ n
      omega
    · show n ≤ nrem
      omega
  rintro ⟨r, n⟩ st' ⟨hS', hr, hn1, hn2⟩
  have hr : r = none := hr
  subst hr
  have hn1 : 1 ≤ n := hn1
  have hn2 : n ≤ nrem := hn2
  show wpS M A E s (if (n == nrem) = true then _ else _) Q st'
  by_cases e : n = nrem
  · rw [if_pos (by simpa using e)]
    exact wpS_pure (q n st' hn1 hn2 hS')
  rw [if_neg (by simpa using e)]
  show wpS M A E s (if n > 1 then _ else _) Q st'
  by_cases hg : n > 1
  · rw [if_pos hg]
    refine wpS_bind (ltAt_any h o hS' (show lo < a₀.size by omega) (show lo + n - 1 < a₀.size by omega) fun c => ?_)
    cases c with
    | true => exact wpS_pure (q n st' hn1 hn2 hS')
    | false =>
      refine wpS_bind (rev_any hS' fun st1 hS1 => ?_)
      refine wpS_bind (wpS_lift (wpAny_rule ⟨rfl, ?_⟩))
      refine wpS_bind (wpS_mono (Q := fun c st' => SP κ a₀ p st' ∧ c.1 = none ∧ 1 ≤ c.2.1 ∧ c.2.1 ≤ nrem) (wpS_forRange (fun (i : Nat) (c : Option (Option Nat) × Nat × Nat) st' => SP κ a₀ p st' ∧ c.1 = none ∧ c.2.1 = i) ?_ ?_ ⟨hS1, rfl, rfl⟩) ?_)
      · rintro i ⟨r, n2, neq⟩ st' hi1 hi2 ⟨hS', hr, hni⟩
        have hni : n2 = i := hni
        have hi1 : n + 1 ≤ i := hi1
        subst hni
        refine wpS_bind (ltAt_any h o hS' (show lo + n2 < a₀.size by omega) (show lo + n2 - 1 < a₀.size by omega) fun c => ?_)
        cases c with
        | true =>
          show wpS M A E s (if neq > 0 then _ else _) _ _
          by_cases hq : neq > 0
          · rw [if_pos hq]
            exact wpS_bind (rev_any hS' fun st3 hS3 => wpS_pure ⟨hS3, rfl, rfl⟩)
          · rw [if_neg hq]
            exact wpS_pure ⟨hS', rfl, rfl⟩
        | false =>
          refine wpS_bind (ltAt_any h o hS' (show lo + n2 - 1 < a₀.size by omega) (show lo + n2 < a₀.size by omega) fun c => ?_)
          cases c with
          | true => exact wpS_pure ⟨hS', rfl, by show 1 ≤ n2; omega, by show n2 ≤ nrem; omega⟩
          | false => exact wpS_pure ⟨hS', rfl, rfl⟩
      · rintro ⟨r, n2, neq⟩ st' ⟨hS', hr, hni⟩
        have hni : n2 = max (n + 1) nrem := hni
        refine ⟨hS', hr, ?_, ?_⟩
        · show 1 ≤ n2
          omega
        · show n2 ≤ nrem
          omega
      rintro ⟨r, n2, neq⟩ st4 ⟨hS4, hr, hm1, hm2⟩
      have hr : r = none := hr
      subst hr
      have hm1 : 1 ≤ n2 := hm1
      have hm2 : n2 ≤ nrem := hm2
      show wpS M A E s (if neq > 0 then _ else _) _ _
      by_cases hq : neq > 0
      · rw [if_pos hq]
        refine wpS_bind (rev_any hS4 fun st6 hS6 => ?_)
        refine wpS_bind (rev_any hS6 fun st5 hS5 => ?_)
        refine wpS_bind (wpS_mono (Q := fun c st' => SP κ a₀ p st' ∧ c.1 = none ∧ 1 ≤ c.2 ∧ c.2 ≤ nrem) (wpS_forRange (fun (i : Nat) (c : Option (Option Nat) × Nat) st' => SP κ a₀ p st' ∧ c.1 = none ∧ c.2 = i) ?_ ?_ ⟨hS5, rfl, rfl⟩) ?_)
        · rintro i ⟨r, n3⟩ st' hi1 hi2 ⟨hS', hr, hni⟩
          have hni : n3 = i := hni
          have hi1 : n2 ≤ i := hi1
          subst hni
          refine wpS_bind (ltAt_any h o hS' (show lo + n3 < a₀.size by omega) (show lo + n3 - 1 < a₀.size by omega) fun c => ?_)
          cases c with
          | true => exact wpS_pure ⟨hS', rfl, by show 1 ≤ n3; omega, by show n3 ≤ nrem; omega⟩
          | false => exact wpS_pure ⟨hS', rfl, rfl⟩
        · rintro ⟨r, n3⟩ st' ⟨hS', hr, hni⟩
          have hni : n3 = max n2 nrem := hni
          refine ⟨hS', hr, ?_, ?_⟩
          · show 1 ≤ n3
            omega
          · show n3 ≤ nrem
            omega
        rintro ⟨r, n3⟩ st' ⟨hS', hr, hm1, hm2⟩
        have hr : r = none := hr
        subst hr
        exact wpS_pure (q n3 st' hm1 hm2 hS')
      · rw [if_neg hq]
        refine wpS_bind (rev_any hS4 fun st5 hS5 => ?_)
        refine wpS_bind (wpS_mono (Q := fun c st' => SP κ a₀ p st' ∧ c.1 = none ∧ 1 ≤ c.2 ∧ c.2 ≤ nrem) (wpS_forRange (fun (i : Nat) (c : Option (Option Nat) × Nat) st' => SP κ a₀ p st' ∧ c.1 = none ∧ c.2 = i) ?_ ?_ ⟨hS5, rfl, rfl⟩) ?_)
        · rintro i ⟨r, n3⟩ st' hi1 hi2 ⟨hS', hr, hni⟩
          have hni : n3 = i := hni
          have hi1 : n2 ≤ i := hi1
          subst hni
          refine wpS_bind (ltAt_any h o hS' (show lo + n3 < a₀.size by omega) (show lo + n3 - 1 < a₀.size by omega) fun c => ?_)
          cases c with
          | true => exact wpS_pure ⟨hS', rfl, by show 1 ≤ n3; omega, by show n3 ≤ nrem; omega⟩
          | false => exact wpS_pure ⟨hS', rfl, rfl⟩
        · rintro ⟨r, n3⟩ st' ⟨hS', hr, hni⟩
          have hni : n3 = max n2 nrem := hni
          refine ⟨hS', hr, ?_, ?_⟩
          · show 1 ≤ n3
            omega
          · show n3 ≤ nrem
            omega
        rintro ⟨r, n3⟩ st' ⟨hS', hr, hm1, hm2⟩
        have hr : r = none := hr
        subst hr
        exact wpS_pure (q n3 st' hm1 hm2 hS')
  · rw [if_neg hg]
    refine wpS_bind (wpS_lift (wpAny_rule ⟨rfl, ?_⟩))
    refine wpS_bind (wpS_mono (Q := fun c st' => SP κ a₀ p st' ∧ c.1 = none ∧ 1 ≤ c.2.1 ∧ c.2.1 ≤ nrem) (wpS_forRange (fun (i : Nat) (c : Option (Option Nat) × Nat × Nat) st' => SP κ a₀ p st' ∧ c.1 = none ∧ c.2.1 = i) ?_ ?_ ⟨hS', rfl, rfl⟩) ?_)
    · rintro i ⟨r, n2, neq⟩ st' hi1 hi2 ⟨hS', hr, hni⟩
      have hni : n2 = i := hni
      have hi1 : n + 1 ≤ i := hi1
      subst hni
      refine wpS_bind (ltAt_any h o hS' (show lo + n2 < a₀.size by omega) (show lo + n2 - 1 < a₀.size by omega) fun c => ?_)
      cases c with
      | true =>
        show wpS M A E s (if neq > 0 then _ else _) _ _
        by_cases hq : neq > 0
        · rw [if_pos hq]
          exact wpS_bind (rev_any hS' fun st3 hS3 => wpS_pure ⟨hS3, rfl, rfl⟩)
        · rw [if_neg hq]
          exact wpS_pure ⟨hS', rfl, rfl⟩
      | false =>
        refine wpS_bind (ltAt_any h o hS' (show lo + n2 - 1 < a₀.size by omega) (show lo + n2 < a₀.size by omega) fun c => ?_)
        cases c with
        | true => exact wpS_pure ⟨hS', rfl, by show 1 ≤ n2; omega, by show n2 ≤ nrem; omega⟩
        | false => exact wpS_pure ⟨hS', rfl, rfl⟩
    · rintro ⟨r, n2, neq⟩ st' ⟨hS', hr, hni⟩
      have hni : n2 = max (n + 1) nrem := hni
      refine ⟨hS', hr, ?_, ?_⟩
      · show 1 ≤ n2
        omega
      · show n2 ≤ nrem
        omega
    rintro ⟨r, n2, neq⟩ st4 ⟨hS4, hr, hm1, hm2⟩
    have hr : r = none := hr
    subst hr
    have hm1 : 1 ≤ n2 := hm1
    have hm2 : n2 ≤ nrem := hm2
    show wpS M A E s (if neq > 0 then _ else _) _ _
    by_cases hq : neq > 0
    · rw [if_pos hq]
      refine wpS_bind (rev_any hS4 fun st6 hS6 => ?_)
      refine wpS_bind (rev_any hS6 fun st5 hS5 => ?_)
      refine wpS_bind (wpS_mono (Q := fun c st' => SP κ a₀ p st' ∧ c.1 = none ∧ 1 ≤ c.2 ∧ c.2 ≤ nrem) (wpS_forRange (fun (i : Nat) (c : Option (Option Nat) × Nat) st' => SP κ a₀ p st' ∧ c.1 = none ∧ c.2 = i) ?_ ?_ ⟨hS5, rfl, rfl⟩) ?_)
      · rintro i ⟨r, n3⟩ st' hi1 hi2 ⟨hS', hr, hni⟩
        have hni : n3 = i := hni
        have hi1 : n2 ≤ i := hi1
        subst hni
        refine wpS_bind (ltAt_any h o hS' (show lo + n3 < a₀.size by omega) (show lo + n3 - 1 < a₀.size by omega) fun c => ?_)
        cases c with
        | true => exact wpS_pure ⟨hS', rfl, by show 1 ≤ n3; omega, by show n3 ≤ nrem; omega⟩
        | false => exact wpS_pure ⟨hS', rfl, rfl⟩
      · rintro ⟨r, n3⟩ st' ⟨hS', hr, hni⟩
        have hni : n3 = max n2 nrem := hni
        refine ⟨hS', hr, ?_, ?_⟩
        · show 1 ≤ n3
          omega
        · show n3 ≤ nrem
          omega
      rintro ⟨r, n3⟩ st' ⟨hS', hr, hm1, hm2⟩
      have hr : r = none := hr
      subst hr
      exact wpS_pure (q n3 st' hm1 hm2 hS')
    · rw [if_neg hq]
      refine wpS_bind (rev_any hS4 fun st5 hS5 => ?_)
      refine wpS_bind (wpS_mono (Q := fun c st' => SP κ a₀ p st' ∧ c.1 = none ∧ 1 ≤ c.2 ∧ c.2 ≤ nrem) (wpS_forRange (fun (i : Nat) (c : Option (Option Nat) × Nat) st' => SP κ a₀ p st' ∧ c.1 = none ∧ c.2 = i) ?_ ?_ ⟨hS5, rfl, rfl⟩) ?_)
      · rintro i ⟨r, n3⟩ st' hi1 hi2 ⟨hS', hr, hni⟩
        have hni : n3 = i := hni
        have hi1 : n2 ≤ i := hi1
        subst hni
        refine wpS_bind (ltAt_any h o hS' (show lo + n3 < a₀.size by omega) (show lo + n3 - 1 < a₀.size by omega) fun c => ?_)
        cases c with
        | true => exact wpS_pure ⟨hS', rfl, by show 1 ≤ n3; omega, by show n3 ≤ nrem; omega⟩
        | false => exact wpS_pure ⟨hS', rfl, rfl⟩
      · rintro ⟨r, n3⟩ st' ⟨hS', hr, hni⟩
        have hni : n3 = max n2 nrem := hni
        refine ⟨hS', hr, ?_, ?_⟩
        · show 1 ≤ n3
          omega
        · show n3 ≤ nrem
          omega
      rintro ⟨r, n3⟩ st' ⟨hS', hr, hm1, hm2⟩
      have hr : r = none := hr
      subst hr
      exact wpS_pure (q n3 st' hm1 hm2 hS')
end
end RS

end
section
set_option Elab.async false
set_option linter.all false
set_option maxRecDepth 100000
set_option maxHeartbeats 4000000
namespace RS
open PySem PyProof.Rows
/-- runs that lie one behind the other, from s to e -/
def Runs : List (Nat × Nat × Nat) → Nat → Nat → Prop
  | [], s, e => s = e
  | (st, n, _) :: r, s, e => st = s ∧ 0 < n ∧ Runs r (s + n) e
theorem Runs.le : ∀ {l : List (Nat × Nat × Nat)} {s e : Nat}, Runs l s e → s ≤ e
  | [], s, e, h => Nat.le_of_eq h
  | (st, n, _) :: r, s, e, h => by
    have := Runs.le h.2.2
    omega
theorem Runs.snoc {lo n pw : Nat} (hn : 0 < n) : ∀ {l : List (Nat × Nat × Nat)} {s : Nat}, Runs l s lo → Runs (l ++ [(lo, n, pw)]) s (lo + n)
  | [], s, h => by
    have h : s = lo := h
    subst h
    exact ⟨rfl, hn, rfl⟩
  | (st, k, _) :: r, s, h => ⟨h.1, h.2.1, Runs.snoc hn h.2.2⟩
theorem Runs.same : ∀ {l l' : List (Nat × Nat × Nat)} {s e : Nat}, l'.map (fun x => (x.1, x.2.1)) = l.map (fun x => (x.1, x.2.1)) → Runs l s e → Runs l' s e
  | [], [], _, _, _, h => h
  | [], _ :: _, _, _, he, _ => by cases he
  | _ :: _, [], _, _, he, _ => by cases he
  | (a, b, c) :: l, (a', b', c') :: l', s, e, he, h => by
    simp only [List.map_cons, List.cons.injEq, Prod.mk.injEq] at he
    obtain ⟨⟨e1, e2⟩, e3⟩ := he
    subst e1 e2
    exact ⟨h.1, h.2.1, Runs.same e3 h.2.2⟩
theorem Runs.merge : ∀ {l : List (Nat × Nat × Nat)} {s e i : Nat}, Runs l s e → i + 1 < l.length → ∃ sa na pa sb nb pb, l[i]? = some (sa, na, pa) ∧ l[i + 1]? = some (sb, nb, pb) ∧ sb = sa + na ∧ 0 < na ∧ 0 < nb ∧ sb + nb ≤ e ∧ Runs ((l.set i (sa, na + nb, pa)).eraseIdx (i + 1)) s e
  | (a, n, p) :: (b, m, q) :: r, s, e, 0, h, _ => by
    obtain ⟨h1, h2, h3, h4, h5⟩ := h
    have := Runs.le h5
    refine ⟨a, n, p, b, m, q, rfl, rfl, by omega, h2, h4, by omega, h1, by omega, ?_⟩
    show Runs r (s + (n + m)) e
    rw [← Nat.add_assoc]
    exact h5
  | (a, n, p) :: l, s, e, i + 1, h, hl => by
    obtain ⟨sa, na, pa, sb, nb, pb, e1, e2, e3, e4, e5, e6, e7⟩ := Runs.merge (i := i) h.2.2 (by simpa using hl)
    exact ⟨sa, na, pa, sb, nb, pb, by simpa using e1, by simpa using e2, e3, e4, e5, e6, h.1, h.2.1, e7⟩
  | [], _, _, _, _, h => by simp at h
  | [_], _, _, 0, _, h => by simp at h
theorem map_modify {l : List (Nat × Nat × Nat)} {i pw : Nat} : (l.modify i fun x => match x with | (st, len, _) => (st, len, pw)).map (fun x => (x.1, x.2.1)) = l.map (fun x => (x.1, x.2.1)) := by
  apply List.ext_getElem?
  intro j
  rw [List.getElem?_map, List.getElem?_map, List.getElem?_modify]
  cases l[j]? with
  | none => rfl
  | some x =>
    show some _ = some _
    by_cases h : i = j
    · simp [h]
    · simp [h]
section
variable {M : Model} {A : Around} {E : Value → Shared → Prop} {s : Shared} {κ : SortKind} {ok : Value → Prop} {a₀ : Array Keyed}
theorem merge_sp {p : Array (Nat × Nat × Nat)} {st : SortSt} {i lo : Nat} {Q : Bool → SortSt → Prop} (h : Ask M A s κ ok) (o : Oks ok a₀) (hS : SP κ a₀ p st) (hR : Runs p.toList 0 lo) (hlo : lo ≤ a₀.size) (hi : i + 1 < p.size)
    (q : ∀ p' st', SP κ a₀ p' st' → Runs p'.toList 0 lo → p'.size + 1 = p.size → Q true st') : wpS M A E s (mergeAt' i) Q st := by
  obtain ⟨sa, na, pa, sb, nb, pb, e1, e2, e3, e4, e5, e6, e7⟩ := Runs.merge hR (by rw [Array.length_toList]; exact hi)
  have hz := hS.size
  refine merge_at h hS.kind hS.fail (hS.oks o) (i := i) (sa := sa) (na := na) (pa := pa) (sb := sb) (nb := nb) (pb := pb) ?_ ?_ e3 e4 e5 (by omega) fun st' f1 f2 f3 f4 => ?_
  · rw [hS.pend]
    simpa using e1
  · rw [hS.pend]
    simpa using e2
  rw [hS.pend] at f4
  refine q _ st' ⟨f1, f3.trans hS.perm, f2, f4⟩ ?_ ?_
  · have : ((p.setIfInBounds i (sa, na + nb, pa)).eraseIdxIfInBounds (i + 1)).toList = (p.toList.set i (sa, na + nb, pa)).eraseIdx (i + 1) := by simp
    rw [this]
    exact e7
  · have : ((p.setIfInBounds i (sa, na + nb, pa)).eraseIdxIfInBounds (i + 1)).size = p.size - 1 := by
      have e : ((p.setIfInBounds i (sa, na + nb, pa)).eraseIdxIfInBounds (i + 1)).toList = (p.toList.set i (sa, na + nb, pa)).eraseIdx (i + 1) := by simp
      have := congrArg List.length e
      rw [Array.length_toList, List.length_eraseIdx, List.length_set, Array.length_toList, if_pos hi] at this
      exact this
    omega
theorem runs_any {st : SortSt} {Q : Unit → SortSt → Prop} (h : Ask M A s κ ok) (o : Oks ok a₀) (hS : SP κ a₀ #[] st) (q : ∀ st', failedOf st' = none → (arrOf st').toList.Perm a₀.toList → Q () st') : wpS M A E s sortRuns' Q st := by
  rw [sortRuns'_eq]
  have hz := hS.size
  refine wpS_bind (wpS_get ?_)
  refine wpS_bind (wpS_mono (Q := fun c st' => c.1 = none ∧ c.2 ≤ a₀.size ∧ ∃ p, SP κ a₀ p st' ∧ Runs p.toList 0 c.2) (wpS_forRange (fun (_ : Nat) (c : Option Unit × Nat) st' => c.1 = none ∧ c.2 ≤ a₀.size ∧ ∃ p, SP κ a₀ p st' ∧ Runs p.toList 0 c.2) ?_ ?_ ⟨rfl, Nat.zero_le _, #[], hS, rfl⟩) ?_)
  · rintro x ⟨r, lo⟩ st' _ _ ⟨hr, hlo, p, hS', hR⟩
    have hr : r = none := hr
    subst hr
    have hlo : lo ≤ a₀.size := hlo
    show wpS M A E s (if lo ≥ (arrOf st).size then _ else _) _ _
    by_cases hc : lo ≥ (arrOf st).size
    · rw [if_pos hc]
      exact wpS_pure ⟨rfl, hlo, p, hS', hR⟩
    rw [if_neg hc]
    refine wpS_bind (count_any h o hS' (show lo + ((arrOf st).size - lo) ≤ a₀.size by omega) (show 1 ≤ (arrOf st).size - lo by omega) fun n st2 hn1 hn2 hS2 => ?_)
    show wpS M A E s (if n < minRun' (arrOf st).size (arrOf st).size 0 then _ else _) _ _
    have hn2 : n ≤ (arrOf st).size - lo := hn2
    have hR : Runs p.toList 0 lo := hR
    by_cases hmr : n < minRun' (arrOf st).size (arrOf st).size 0
    · rw [if_pos hmr]
      refine wpS_bind (wpS_lift (wpAny_rule ⟨rfl, ?_⟩))
      refine wpS_bind (binary_any h o hS2 (show lo + min ((arrOf st).size - lo) (minRun' (arrOf st).size (arrOf st).size 0) ≤ a₀.size by omega) fun st3 hS3 => ?_)
      generalize minRun' (arrOf st).size (arrOf st).size 0 = mr at hmr
      refine wpS_bind (wpS_get ?_)
      split
      · refine wpS_bind (wpS_mono (Q := fun c st' => c.1 = none ∧ ∃ p, SP κ a₀ p st' ∧ Runs p.toList 0 lo) (wpS_forRange (fun (_ : Nat) (c : Option Unit × Unit) st' => c.1 = none ∧ ∃ p, SP κ a₀ p st' ∧ Runs p.toList 0 lo) ?_ ?_ ⟨rfl, p, hS3, hR⟩) ?_)
        · rintro y ⟨r, u⟩ st4 _ _ ⟨hr, p4, hS4, hR4⟩
          refine wpS_bind (wpS_get ?_)
          dsimp only
          split
          · next heq =>
            have hgt : (pendingOf st4).size > 1 := by
              apply Classical.byContradiction
              intro z
              rw [if_neg z] at heq
              cases heq
            split
            · exact wpS_pure ⟨rfl, p4, hS4, hR4⟩
            · rw [hS4.pend] at hgt ⊢
              refine wpS_bind (merge_sp h o hS4 hR4 hlo (show p4.size - 2 + 1 < p4.size by omega) fun p5 st5 hS5 hR5 _ => ?_)
              exact wpS_pure ⟨rfl, p5, hS5, hR5⟩
          · exact wpS_pure ⟨rfl, p4, hS4, hR4⟩
        · exact fun _ _ h => h
        rintro ⟨r, u⟩ st4 ⟨hr, p4, hS4, hR4⟩
        have hr : r = none := hr
        subst hr
        refine wpS_bind (wpS_modify ?_)
        refine wpS_bind (wpS_modify (wpS_pure ?_))
        refine ⟨rfl, by show lo + (min ((arrOf st).size - lo) mr) ≤ a₀.size; omega, _, ⟨hS4.kind, hS4.perm, hS4.fail, rfl⟩, ?_⟩
        show Runs (Array.push (Array.modify (pendingOf st4) _ _) _).toList 0 (lo + (min ((arrOf st).size - lo) mr))
        rw [Array.toList_push, Array.toList_modify]
        refine Runs.snoc (by omega) (Runs.same map_modify ?_)
        rw [hS4.pend]
        exact hR4
      · refine wpS_bind (wpS_modify (wpS_pure ?_))
        refine ⟨rfl, by show lo + (min ((arrOf st).size - lo) mr) ≤ a₀.size; omega, _, ⟨hS3.kind, hS3.perm, hS3.fail, rfl⟩, ?_⟩
        show Runs (Array.push (pendingOf _) _).toList 0 (lo + (min ((arrOf st).size - lo) mr))
        rw [Array.toList_push, hS3.pend]
        exact Runs.snoc (by omega) hR
    · rw [if_neg hmr]
      refine wpS_bind (wpS_get ?_)
      split
      · refine wpS_bind (wpS_mono (Q := fun c st' => c.1 = none ∧ ∃ p, SP κ a₀ p st' ∧ Runs p.toList 0 lo) (wpS_forRange (fun (_ : Nat) (c : Option Unit × Unit) st' => c.1 = none ∧ ∃ p, SP κ a₀ p st' ∧ Runs p.toList 0 lo) ?_ ?_ ⟨rfl, p, hS2, hR⟩) ?_)
        · rintro y ⟨r, u⟩ st4 _ _ ⟨hr, p4, hS4, hR4⟩
          refine wpS_bind (wpS_get ?_)
          dsimp only
          split
          · next heq =>
            have hgt : (pendingOf st4).size > 1 := by
              apply Classical.byContradiction
              intro z
              rw [if_neg z] at heq
              cases heq
            split
            · exact wpS_pure ⟨rfl, p4, hS4, hR4⟩
            · rw [hS4.pend] at hgt ⊢
              refine wpS_bind (merge_sp h o hS4 hR4 hlo (show p4.size - 2 + 1 < p4.size by omega) fun p5 st5 hS5 hR5 _ => ?_)
              exact wpS_pure ⟨rfl, p5, hS5, hR5⟩
          · exact wpS_pure ⟨rfl, p4, hS4, hR4⟩
        · exact fun _ _ h => h
        rintro ⟨r, u⟩ st4 ⟨hr, p4, hS4, hR4⟩
        have hr : r = none := hr
        subst hr
        refine wpS_bind (wpS_modify ?_)
        refine wpS_bind (wpS_modify (wpS_pure ?_))
        refine ⟨rfl, by show lo + (n) ≤ a₀.size; omega, _, ⟨hS4.kind, hS4.perm, hS4.fail, rfl⟩, ?_⟩
        show Runs (Array.push (Array.modify (pendingOf st4) _ _) _).toList 0 (lo + (n))
        rw [Array.toList_push, Array.toList_modify]
        refine Runs.snoc (by omega) (Runs.same map_modify ?_)
        rw [hS4.pend]
        exact hR4
      · refine wpS_bind (wpS_modify (wpS_pure ?_))
        refine ⟨rfl, by show lo + (n) ≤ a₀.size; omega, _, ⟨hS2.kind, hS2.perm, hS2.fail, rfl⟩, ?_⟩
        show Runs (Array.push (pendingOf _) _).toList 0 (lo + (n))
        rw [Array.toList_push, hS2.pend]
        exact Runs.snoc (by omega) hR
  · exact fun _ _ h => h
  rintro ⟨r, lo⟩ st' ⟨hr, hlo, p, hS', hR⟩
  have hr : r = none := hr
  subst hr
  have hlo : lo ≤ a₀.size := hlo
  have hR : Runs p.toList 0 lo := hR
  refine wpS_bind (wpS_mono (Q := fun c st' => c.1 = none ∧ ∃ p, SP κ a₀ p st' ∧ Runs p.toList 0 lo) (wpS_forRange (fun (_ : Nat) (c : Option Unit × Unit) st' => c.1 = none ∧ ∃ p, SP κ a₀ p st' ∧ Runs p.toList 0 lo) ?_ ?_ ⟨rfl, p, hS', hR⟩) ?_)
  · rintro y ⟨r, u⟩ st4 _ _ ⟨hr, p4, hS4, hR4⟩
    refine wpS_bind (wpS_get ?_)
    show wpS M A E s (if (pendingOf st4).size ≤ 1 then _ else _) _ _
    by_cases hc : (pendingOf st4).size ≤ 1
    · rw [if_pos hc]
      exact wpS_pure ⟨rfl, p4, hS4, hR4⟩
    rw [if_neg hc]
    rw [hS4.pend] at hc ⊢
    refine wpS_bind (merge_sp h o hS4 hR4 hlo ?_ fun p5 st5 hS5 hR5 _ => ?_)
    · (repeat' split) <;> omega
    · exact wpS_pure ⟨rfl, p5, hS5, hR5⟩
  · exact fun _ _ h => h
  rintro ⟨r, u⟩ st4 ⟨hr, p4, hS4, hR4⟩
  have hr : r = none := hr
  subst hr
  exact wpS_pure (q _ hS4.fail hS4.perm)
end
end RS

end
section
set_option Elab.async false
set_option linter.all false
set_option maxRecDepth 100000
set_option maxHeartbeats 4000000
namespace RS
open PySem PyProof.Rows
section
variable {prog : Program} {w : World} {A : Around} {E : Value → Shared → Prop} {s : Shared}
theorem oneLt_bools {t p q : Bool} {R : Bool → Shared → Prop} (h : ∀ b, R b s) : wpAny (model prog w) A (oneLt' t (.bool p) (.bool q)) R E s := by
  rw [oneLt'_eq]
  cases t with
  | true =>
    refine wpAny_bind (wpAny_cRoomFor_byValue rfl ?_)
    refine wpAny_bind (wpAny_callSpecialIfBound?_slot (T := "bool") (by exact rfl) PySem.F.slot_bool_lt ?_)
    refine call_gives PySem.F.slot_bool_lt (by exact rfl) PySem.F.entry_int_lt (PySem.F.args_int_lt_2 _ _) (gives_int_lt_bools p q) ?_
    exact wpAny_truthy_bool (h _)
  | false =>
    exact wpAny_bind (lt_bool (p := p) (q := q) (wpAny_truthy_bool (h _)))
/-- a tuple of bools in the heap -/
def Row (h : Heap) (v : Value) : Prop := ∃ (a : Addr) (o : Obj) (bs : List Bool) (n : Nat), v = .ref a ∧ h.get? a = some o ∧ o.cls = .type "tuple" ∧ o.data = .seq (bs.map Value.bool).toArray n ∧ bs ≠ []
theorem lex_bools {fin : Bool} {Q : Bool → Shared → Prop} (q : ∀ b, Q b s) : ∀ (ps qs : List Bool) (i : Nat), W.KatLex prog w A true fin Q ((ps.map Value.bool).zip (qs.map Value.bool)) i s
  | [], _, i => q fin
  | _ :: _, [], i => q fin
  | p :: ps, r :: qs, i => by
    refine W.kat_cons (SeqAt.EqAt.bool_bool p r prog w _ _ ?_)
    cases e : (p == r) with
    | true => exact lex_bools q ps qs (i + 1)
    | false => exact W.kat_no (oneLt_bools q)
theorem ask_rows : Ask (model prog w) A s (tuples' true) (Row s.heap) := by
  rintro x y ⟨a, oa, ba, na, rfl, ha, ca, da, _⟩ ⟨b, ob, bb, nb, rfl, hb, cb, db, _⟩ R E q
  refine W.kat_lt ha da hb db ?_
  exact lex_bools q ba bb 0
end
end RS

end
section
set_option Elab.async false
set_option linter.all false
set_option maxRecDepth 100000
set_option maxHeartbeats 4000000
namespace RS
open PySem PyProof.Rows
section
variable {prog : Program} {w : World} {A : Around} {E : Value → Shared → Prop} {s : Shared}
theorem Row.mono {h h' : Heap} {v : Value} (k : ∀ b o, h.get? b = some o → o.cls = .type "tuple" → h'.get? b = some o) (r : Row h v) : Row h' v := by
  obtain ⟨a, o, bs, n, e, g, c, d, ne⟩ := r
  exact ⟨a, o, bs, n, e, k a o g c, c, d, ne⟩
theorem rows_kind : ∀ {vs : List Value} {h : Heap}, (∀ v ∈ vs, Row h v) → ∃ fs, W.KatTups h vs fs ∧ fs.length = vs.length ∧ ∀ v ∈ fs, ∃ b, v = .bool b
  | [], h, _ => ⟨[], trivial, rfl, fun v hv => by (cases hv)⟩
  | v :: vs, h, hr => by
    obtain ⟨fs, h1, h2, h3⟩ := rows_kind (vs := vs) fun x hx => hr x (List.mem_cons_of_mem _ hx)
    obtain ⟨a, o, bs, n, rfl, g, c, d, ne⟩ := hr v (by simp)
    cases bs with
    | nil => exact absurd rfl ne
    | cons b bs =>
      refine ⟨.bool b :: fs, W.KatTups.cons g c d rfl h1, by simp [h2], fun x hx => ?_⟩
      rcases List.mem_cons.mp hx with e | e
      · exact ⟨b, e⟩
      · exact h3 x e
theorem sort_rows {a : Addr} {vs : List Value} {n : Nat} {P : PySem.Fin → Shared → Prop} (ha : s.heap.get? a = some (seqObj "list" vs.toArray n)) (hR : ∀ v ∈ vs, Row s.heap v) (hz : vs.length ≤ 1000) (hne : vs ≠ [])
    (q : ∀ out : Array Value, out.toList.Perm vs → P (.done (.ret .none)) { s with heap := sortedHeap s.heap a vs out }) : wpAny (model prog w) A (Builtin.«list.sort» { pos := [.ref a] }) P E s := by
  rw [list_sort_plain]
  have hsz : vs.toArray.size ≤ sizeLine := by
    have : sizeLine = 16777216 := sizeLine_eq
    rw [List.size_toArray]
    omega
  refine wpAny_bind (listItems_at ha rfl ?_)
  refine wpAny_bind (listUpdate_at ha rfl ?_ hsz (by simp))
  have ha1 := get?_update_seq ha (fun _ => #[])
  refine wpAny_bind (seqEpoch_at ha1 rfl ?_)
  obtain ⟨v0, vs0, rfl⟩ : ∃ v0 vs0, vs = v0 :: vs0 := by
    cases vs with
    | nil => exact absurd rfl hne
    | cons v0 vs0 => exact ⟨v0, vs0, rfl⟩
  refine wpAny_bind (wpAny_newObj_type ?_)
  refine wpAny_bind (wpAny_newObj_type ?_)
  refine wpAny_holding ?_
  have hget2 : (((s.heap.update a (Obj.mapSeq fun x => #[])).push { cls := .type "tuple", dict := none, data := .seq (v0 :: vs0).toArray.toList.toArray }).push { cls := .type "list", dict := none, data := .seq ([] : List Value).toArray }).get? a = some (seqObj "list" #[] (if ((#[] : Array Value).size == (v0 :: vs0).toArray.size) = true then n else n + 1)) := Heap.get?_push_of_some _ (Heap.get?_push_of_some _ ha1)
  have kp : ∀ b o, s.heap.get? b = some o → o.cls = .type "tuple" → (((s.heap.update a (Obj.mapSeq fun x => #[])).push { cls := .type "tuple", dict := none, data := .seq (v0 :: vs0).toArray.toList.toArray }).push { cls := .type "list", dict := none, data := .seq ([] : List Value).toArray }).get? b = some o := fun b o g c => by
    have hb : b ≠ a := fun z => by
      rw [z, ha] at g
      cases g
      exact absurd (Value.type.inj c) (by decide)
    refine Heap.get?_push_of_some _ (Heap.get?_push_of_some _ ?_)
    rw [Heap.get?_update_ne _ _ _ _ hb]
    exact g
  generalize hh : ((s.heap.update a (Obj.mapSeq fun x => #[])).push { cls := .type "tuple", dict := none, data := .seq (v0 :: vs0).toArray.toList.toArray }).push { cls := .type "list", dict := none, data := .seq ([] : List Value).toArray } = h2 at hget2 kp
  have hR2 : ∀ v ∈ v0 :: vs0, Row h2 v := fun v hv => (hR v hv).mono kp
  show wpAny (model prog w) A (if (v0 :: vs0).toArray.size < 2 then _ else _) P E _
  by_cases hlt : (v0 :: vs0).toArray.size < 2
  · rw [if_pos hlt]
    refine wpAny_bind (wpAny_pure ?_)
    rw [if_pos hlt]
    refine wpAny_bind (wpAny_pure ?_)
    have hp : (arrOf (SortSt.mk' general' ((v0 :: vs0).toArray.zip (v0 :: vs0).toArray) #[] 7 none)).toList.Perm ((v0 :: vs0).toArray.zip (v0 :: vs0).toArray).toList := List.Perm.refl _
    have hf : failedOf (SortSt.mk' general' ((v0 :: vs0).toArray.zip (v0 :: vs0).toArray) #[] 7 none) = none := rfl
    generalize SortSt.mk' general' ((v0 :: vs0).toArray.zip (v0 :: vs0).toArray) #[] 7 none = st at hp hf
    refine wpAny_bind (seqEpoch_at hget2 rfl ?_)
    refine wpAny_bind (listUpdate_at hget2 rfl ?_ (by simp) (by
      have e := hp.length_eq
      rw [Array.length_toList, Array.length_toList, Array.size_zip, Nat.min_self] at e
      rw [Array.size_map, e]
      omega))
    rw [hf, if_neg (by simp)]
    refine wpAny_pure ?_
    rw [← hh]
    refine q _ ?_
    have h1 := hp.map Prod.snd
    rw [Array.toList_map]
    refine h1.trans ?_
    rw [Array.toList_zip, List.map_snd_zip (Nat.le_refl _)]
  · rw [if_neg hlt]
    obtain ⟨fs, k1, k2, k3⟩ := rows_kind hR2
    refine wpAny_bind (W.kat_kind (T := .type "bool") k1 (by rw [k2]; simp) (fun v hv => ?_) (by decide) ?_)
    · obtain ⟨b, rfl⟩ := k3 v hv
      exact fun A Q E s _ q => wpAny_pure q
    rw [if_neg hlt]
    have oks : Oks (Row h2) ((v0 :: vs0).toArray.zip (v0 :: vs0).toArray) := fun x hx => by
      have h1 : x ∈ ((v0 :: vs0).zip (v0 :: vs0)) := by
        have := Array.mem_toList_iff.mpr hx
        rwa [Array.toList_zip] at this
      exact hR2 x.1 (List.of_mem_zip h1).1
    have key := runs_any (M := model prog w) (A := A) (E := E) (s := { s with heap := h2 }) (κ := tuples' true) (ok := Row h2) (a₀ := (v0 :: vs0).toArray.zip (v0 :: vs0).toArray) (st := SortSt.mk' (tuples' true) ((v0 :: vs0).toArray.zip (v0 :: vs0).toArray) #[] 7 none)
      (Q := fun _ st' => failedOf st' = none ∧ (arrOf st').toList.Perm ((v0 :: vs0).toArray.zip (v0 :: vs0).toArray).toList) ask_rows oks ⟨rfl, List.Perm.refl _, rfl, rfl⟩ (fun st' a b => ⟨a, b⟩)
    refine wpAny_bind (wpAny_mono key ?_ fun _ _ z => z)
    rintro ⟨u, st⟩ s' ⟨hs', hf, hp⟩
    have hf : failedOf st = none := hf
    subst hs'
    refine wpAny_bind (seqEpoch_at hget2 rfl ?_)
    refine wpAny_bind (listUpdate_at hget2 rfl ?_ (by simp) (by
      have e := hp.length_eq
      rw [Array.length_toList, Array.length_toList, Array.size_zip, Nat.min_self] at e
      rw [Array.size_map, e]
      omega))
    rw [hf, if_neg (by simp)]
    refine wpAny_pure ?_
    rw [← hh]
    refine q _ ?_
    have h1 := hp.map Prod.snd
    rw [Array.toList_map]
    refine h1.trans ?_
    rw [Array.toList_zip, List.map_snd_zip (Nat.le_refl _)]
end
end RS

end
section
set_option Elab.async false
set_option linter.all false
set_option maxRecDepth 100000
set_option maxHeartbeats 4000000
namespace RS
open PySem PyProof.Rows
section
variable {prog : Program} {w : World} {A : Around} {E : Value → Shared → Prop} {s : Shared}
theorem sorted_rows {l : Addr} {vs : List Value} {Q : Value → Shared → Prop} (hl : s.heap.IsList l vs.toArray) (hR : ∀ v ∈ vs, Row s.heap v) (hz : vs.length ≤ 1000) (hne : vs ≠ [])
    (q : ∀ out : Array Value, out.toList.Perm vs → Q (.ref (s.heap.objs.size + 1)) { s with heap := sortedAll s.heap vs out }) : wpAny (model prog w) A (call (.builtin "sorted") [.ref l]) Q E s := by
  have hsz : vs.length ≤ sizeLine := by
    have : sizeLine = 16777216 := sizeLine_eq
    omega
  refine Calls.call_function_entry kind_sorted plain_sorted entry_sorted (args_sorted1 _) ?_
  refine wpAny_bind ?_
  refine wpAny_pure ?_
  refine wpAny_bind (collect_list hl ?_ hsz)
  refine wpAny_bind (wpAny_newObj_type ?_)
  have hsize : ((s.heap.push (seqObj "list" #[] 0)).update s.heap.objs.size (Obj.mapSeq fun x => x ++ vs.toArray)).objs.size = s.heap.objs.size + 1 := by
    rw [Heap.size_update, size_push']
  have keep : ∀ b o, s.heap.get? b = some o → ((s.heap.push (seqObj "list" #[] 0)).update s.heap.objs.size (Obj.mapSeq fun x => x ++ vs.toArray)).get? b = some o := fun b o g => by
    rw [Heap.get?_update_ne _ _ _ _ (Nat.ne_of_lt (Heap.lt_size g))]
    exact Heap.get?_push_of_some _ g
  have hg := Heap.get?_push_size ((s.heap.push (seqObj "list" #[] 0)).update s.heap.objs.size (Obj.mapSeq fun x => x ++ vs.toArray)) (o := seqObj "list" vs.toArray 0) rfl
  refine wpAny_bind (wpAny_holding (wpAny_call_entry slot_list_sort ?_ entry_list_sort ?_ (args_list_sort _)))
  · refine Heap.IsList.typeIs (items := vs.toArray) ⟨_, hg, ?_⟩
    exact ⟨rfl, _, rfl⟩
  · refine sort_rows hg (fun v hv => (hR v hv).mono fun b o g _ => Heap.get?_push_of_some _ (keep b o g)) hz hne fun out hp => ?_
    refine ⟨_, rfl, wpAny_pure ⟨_, rfl, ?_⟩⟩
    have := q out hp
    unfold sortedAll at this
    rw [← hsize] at this
    exact this
end
end RS

end
section
set_option Elab.async false
set_option linter.all false
set_option maxRecDepth 100000
set_option maxHeartbeats 4000000
namespace RS
open PySem PyProof.Rows
theorem sorted_kept {h : Heap} {vs : List Value} {out : Array Value} : (∀ b o, h.get? b = some o → (sortedAll h vs out).get? b = some o) ∧ ∃ n, (sortedAll h vs out).get? (h.objs.size + 1) = some (seqObj "list" out n) := by
  have hsize : ((h.push (seqObj "list" #[] 0)).update h.objs.size (Obj.mapSeq fun x => x ++ vs.toArray)).objs.size = h.objs.size + 1 := by
    rw [Heap.size_update, size_push']
  have hg := Heap.get?_push_size ((h.push (seqObj "list" #[] 0)).update h.objs.size (Obj.mapSeq fun x => x ++ vs.toArray)) (o := seqObj "list" vs.toArray 0) rfl
  rw [hsize] at hg
  have keep : ∀ b o, h.get? b = some o → ((h.push (seqObj "list" #[] 0)).update h.objs.size (Obj.mapSeq fun x => x ++ vs.toArray)).get? b = some o := fun b o g => by
    rw [Heap.get?_update_ne _ _ _ _ (Nat.ne_of_lt (Heap.lt_size g))]
    exact Heap.get?_push_of_some _ g
  unfold sortedAll sortedHeap
  refine ⟨fun b o g => ?_, ?_⟩
  · have hb : b ≠ h.objs.size + 1 := fun z => absurd (Nat.lt_succ_of_lt (Heap.lt_size g)) (by rw [z]; exact Nat.lt_irrefl _)
    rw [Heap.get?_update_ne _ _ _ _ hb]
    refine Heap.get?_push_of_some _ (Heap.get?_push_of_some _ ?_)
    rw [Heap.get?_update_ne _ _ _ _ hb]
    exact Heap.get?_push_of_some _ (keep b o g)
  · exact ⟨_, get?_update_seq (Heap.get?_push_of_some _ (Heap.get?_push_of_some _ (get?_update_seq hg fun _ => #[]))) fun _ => out⟩
theorem refs_perm {l : List Addr} {out : List Value} (h : out.Perm (l.map Value.ref)) : ∃ l' : List Addr, l'.Perm l ∧ out = l'.map Value.ref := by
  have h1 := h.map fun v => match v with | Value.ref a => a | _ => 0
  rw [List.map_map] at h1
  have e1 : (l.map ((fun v => match v with | Value.ref a => a | _ => 0) ∘ Value.ref)) = l := by
    conv => rhs; rw [← List.map_id l]
    rfl
  rw [e1] at h1
  refine ⟨_, h1, ?_⟩
  rw [List.map_map]
  conv => lhs; rw [← List.map_id out]
  refine List.map_congr_left fun v hv => ?_
  obtain ⟨a, _, rfl⟩ := List.mem_map.mp (h.mem_iff.mp hv)
  rfl
end RS
namespace L2
open PySem PySem.Spec PyProof.Rows
theorem vals_refs : ∀ {as : List Addr} {us : List Value}, Vals (as.map V.ref) us → us = as.map Value.ref
  | [], _, .nil => rfl
  | a :: as, _, .cons r rt => by
    have e : _ = Value.ref a := r
    rw [e, vals_refs rt]
    rfl
theorem refs_vals : ∀ (as : List Addr), Vals (as.map V.ref) (as.map Value.ref)
  | [] => .nil
  | a :: as => .cons rfl (refs_vals as)
section
variable {X : Cx}
/-- sorted(a list of tuples of bools): the same items, in some order -/
theorem call_sortedT {K : PySem.W.Frag} (hK : X.K = K) : CallR X (.builtin "sorted") (fun xs H Q => ∃ (p : Addr) (as : List Addr), xs = [.ref p] ∧ SqL K H p (as.map V.ref) ∧ (∀ a ∈ as, ∃ bs : List Bool, H a = some (.tup (bs.map V.bl)) ∧ bs ≠ []) ∧ as ≠ [] ∧ as.length ≤ 1000 ∧
    ∀ (D : Addr) (as' : List Addr), H D = none → as'.Perm as → Q (.ref D) (upd H D (.lst (as'.map V.ref)))) := by
  subst hK
  intro pins s σ H xs us Q I r q
  obtain ⟨p, as, rfl, hS, hR, hne, hz, q⟩ := q
  obtain ⟨u, rfl, r1⟩ := r.one
  cases r1
  obtain ⟨its, rv, pl, hz'⟩ := I.list hS
  obtain rfl := vals_refs rv
  refine RS.sorted_rows pl.isList (fun v hv => ?_) (by rw [List.length_map]; exact hz) (by simpa using hne) fun out hp => ?_
  · obtain ⟨a, ha, rfl⟩ := List.mem_map.mp hv
    obtain ⟨bs, hb, hbn⟩ := hR a ha
    obtain ⟨_, its, rv2, ht⟩ := I.hok a _ hb
    obtain rfl := vals_bools rv2
    obtain ⟨o, ho, hc, n, hd⟩ := ht
    exact ⟨a, o, bs, n, rfl, ho, hc, hd, hbn⟩
  obtain ⟨as', hp', eo⟩ := RS.refs_perm hp
  obtain ⟨k1, n, k2⟩ := RS.sorted_kept (h := s.heap) (vs := as.map Value.ref) (out := out)
  have hn : H (s.heap.objs.size + 1) = none := I.hok.fresh (Nat.le_succ _)
  refine ⟨.ref (s.heap.objs.size + 1), _, I.laid (t' := s.toks) (o := .lst (as'.map V.ref)) k1 (Nat.le_succ _) ?_, rfl, q _ as' hn hp'⟩
  refine ⟨?_, as'.map Value.ref, n, refs_vals as', ?_⟩
  · rw [List.length_map, hp'.length_eq]
    exact Nat.le_of_lt (small1000 hz)
  · rw [k2, ← eo]
end
end L2

end
section
set_option Elab.async false
set_option linter.all false
set_option maxRecDepth 100000
set_option maxHeartbeats 4000000
namespace RR
open PySem PySem.W L2
theorem rd_same {H H' : Hp} {a : Addr} {u : HO} (h : Rd H a u) (s : Same H H') : Rd H' a u := h.elim (fun h => .inl (s _ _ h)) fun ⟨o, h⟩ => .inr ⟨o, s _ _ h⟩
/-- numbers not below 0 -/
def NonNeg (N : List (List Bool × V)) : Prop := ∀ s v, (s, v) ∈ N → ∃ n : Nat, v = V.int (n : Int)
def spLShows (K : PySem.W.Frag) : Sp := fun vs H Q _ => ∃ (D b a d : Addr) (ws : List Wd) (pr st : List Bool) (N : List (List Bool × V)), vs = [.ref D, .ref b, .ref a, .ref d] ∧ Bd K H D b ws pr ∧ BAt H a st ∧ Rd H d (sD N) ∧ NumsD ws.length N ∧ NonNeg N ∧
  ∀ H', Same H H' → Q (.bl (showsB ws pr N st)) H'
def spPaper8 (K : PySem.W.Frag) : Sp := fun vs H Q _ => ∃ (D b a : Addr) (ws : List Wd) (pr st : List Bool), vs = [.ref D, .ref b, .ref a] ∧ Bd K H D b ws pr ∧ BAt H a st ∧ st.length = ws.length ∧
  ∀ d N H', H d = none → Same H H' → H' d = some (sD N) → NumsD ws.length N → NonNeg N → 1 ≤ N.length → Q (.ref d) H'
theorem mem_putK {m : List (List Bool × V)} {s x : List Bool} {v y : V} (h : (x, y) ∈ putK m s v) : (x = s ∧ y = v) ∨ (x, y) ∈ m := by
  unfold putK at h
  by_cases c : (m.any fun kv => decide (kv.1 = s)) = true
  · rw [if_pos c] at h
    obtain ⟨p, hp, e⟩ := List.mem_map.mp h
    by_cases cp : p.1 = s
    · rw [if_pos cp] at e
      cases e
      exact .inl ⟨cp, rfl⟩
    · rw [if_neg cp] at e
      subst e
      exact .inr hp
  · rw [if_neg c] at h
    rcases List.mem_append.mp h with h | h
    · exact .inr h
    · simp at h
      exact .inl h
theorem keys_putK (m : List (List Bool × V)) (s : List Bool) (v : V) : keysS (putK m s v) = if s ∈ keysS m then keysS m else keysS m ++ [s] := by
  by_cases c : s ∈ keysS m
  · rw [if_pos c]
    unfold putK
    have : (m.any fun kv => decide (kv.1 = s)) = true := by
      rw [List.any_eq_true]
      obtain ⟨p, hp, e⟩ := List.mem_map.mp c
      exact ⟨p, hp, decide_eq_true e⟩
    rw [if_pos this]
    unfold keysS
    rw [List.map_map]
    exact List.map_congr_left fun p _ => by
      show (if p.1 = s then (p.1, v) else p).1 = p.1
      by_cases e : p.1 = s
      · rw [if_pos e]
      · rw [if_neg e]
  · rw [if_neg c, keys_put_new c, keys_snoc]
theorem nums_put {n : Nat} {m : List (List Bool × V)} {s : List Bool} {i : Int} (h : NumsD n m) (hs : s.length = n) : NumsD n (putK m s (.int i)) := by
  refine ⟨?_, fun x hx => ?_, fun x y hx => ?_⟩
  · rw [keys_putK]
    by_cases c : s ∈ keysS m
    · rw [if_pos c]
      exact h.nd
    · rw [if_neg c]
      exact nodup_snoc h.nd c
  · rw [keys_putK] at hx
    by_cases c : s ∈ keysS m
    · rw [if_pos c] at hx
      exact h.len x hx
    · rw [if_neg c] at hx
      rcases List.mem_append.mp hx with hx | hx
      · exact h.len x hx
      · rw [List.mem_singleton.mp hx]
        exact hs
  · rcases mem_putK hx with ⟨_, rfl⟩ | hx
    · exact ⟨i, rfl⟩
    · exact h.num x y hx
theorem nonneg_put {m : List (List Bool × V)} {s : List Bool} {i : Int} (h : NonNeg m) (hi : 0 ≤ i) : NonNeg (putK m s (.int i)) := fun x y hx => by
  rcases mem_putK hx with ⟨_, rfl⟩ | hx
  · exact ⟨i.toNat, by rw [Int.toNat_of_nonneg hi]⟩
  · exact h x y hx
theorem nums_sub {n : Nat} {m m' : List (List Bool × V)} (h : NumsD n m) (s : m'.Sublist m) : NumsD n m' :=
  ⟨List.Sublist.nodup (s.map Prod.fst) h.nd, fun x hx => h.len x ((s.map Prod.fst).subset hx), fun x y hx => h.num x y (s.subset hx)⟩
theorem nums_le {n : Nat} {m : List (List Bool × V)} (h : NumsD n m) (h6 : n ≤ 6) : m.length ≤ 64 := by
  have h1 := stands_le h.nd h.len
  have h2 := pow64 h6
  have h3 : (keysS m).length = m.length := List.length_map _
  omega
theorem row_keys {n : Nat} {m : List (List Bool × V)} (h : NumsD n m) : RowKeys n (sP m) := fun kv hk => by
  obtain ⟨p, hp, rfl⟩ := List.mem_map.mp hk
  exact ⟨p.1, rfl, h.len p.1 (List.mem_map.mpr ⟨p, hp, rfl⟩)⟩
theorem refs_of {H : Hp} : ∀ {ss : List (List Bool)} {us : List V}, RowsAt' H ss us → ∃ as : List Addr, us = as.map V.ref ∧ ∀ a ∈ as, ∃ s ∈ ss, BAt H a s
  | _, _, .nil => ⟨[], rfl, fun a h => absurd h (List.not_mem_nil)⟩
  | _, _, .cons (a := s) ⟨a, e, h⟩ t => by
    obtain ⟨as, rfl, hs⟩ := refs_of t
    exact ⟨a :: as, by rw [e]; rfl, fun b hb => by
      rcases List.mem_cons.mp hb with rfl | hb
      · exact ⟨s, by simp, h⟩
      · obtain ⟨s', h1, h2⟩ := hs b hb
        exact ⟨s', by simp [h1], h2⟩⟩
def spSpoilt8 : Sp := fun vs H Q _ => ∃ (d : Addr) (n : Nat) (c : Int) (N : List (List Bool × V)), vs = [.ref d, .int n, .int c] ∧ Rd H d (sD N) ∧ 1 ≤ n ∧ n ≤ 6 ∧ NumsD n N ∧ NonNeg N ∧ 1 ≤ N.length ∧
  ∀ d' N' H', H d' = none → Same H H' → H' d' = some (sD N') → NumsD n N' → NonNeg N' → Q (.ref d') H'
end RR

end
section
set_option Elab.async false
set_option maxHeartbeats 4000000
set_option linter.all false
set_option maxRecDepth 100000
namespace RR
open PySem L2
def top (i : Nat) : Stmt := PySem.Challenge.pw_relayroom_k08_showings.main.body.getD i (.Pass ⟨0, 0, 0, 0⟩)
abbrev sWorth : Stmt := top 1
abbrev sMovable : Stmt := top 3
abbrev sCanMove : Stmt := top 4
abbrev sMoved : Stmt := top 5
abbrev sShows : Stmt := top 7
abbrev sLeadsDown : Stmt := top 8
abbrev sCell : Stmt := top 10
abbrev sPick : Stmt := top 11
abbrev sMix : Stmt := top 12
abbrev sLeaf : Stmt := top 13
abbrev sWord : Stmt := top 14
abbrev sBoard : Stmt := top 15
abbrev sBits : Stmt := top 16
abbrev sWrapped : Stmt := top 17
abbrev sRoom : Stmt := top 18
abbrev sLWorth : Stmt := top 19
abbrev sLMovable : Stmt := top 20
abbrev sLMoved : Stmt := top 21
abbrev sLReach : Stmt := top 22
abbrev sLPaper : Stmt := top 23
abbrev sLSpoilt : Stmt := top 24
abbrev sLShows : Stmt := top 25
abbrev sLaw : Stmt := top 26
section
variable {P : Program} {w : World} {K : PySem.W.Frag} {mg : Str → Option Value} {base : Heap} {f : Addr} {fd : FuncData}
theorem scCell : FnScope ["script", "k"] ["script", "k"] (defScope sCell) := ⟨rfl, rfl, rfl, by decide +kernel, rfl, by decide +kernel, by decide +kernel⟩
theorem ok_cell (F : Fun K "_law_cell_at" "_law_cell_at" sCell f fd) (ml : mg "len" = none) : FnOk P w K mg base CX0 1 f fd ["script", "k"] (spCell K) := by
  refine F.ok scCell (fun vs H Q E h => ?_) (fun cdv A outer s H vs Q E hr h => ?_)
  · obtain ⟨a, ns, k, rfl, _⟩ := h
    rfl
  obtain ⟨a, ns, k, rfl, hS, h0, q⟩ := h
  refine ⟨_, pss_cons (ps_if (pt_cmpR op_lt (pv 1) (pe_callB call_len_seq rfl ml PySem.boot_len (pa_cons (pv 0) pa_nil)) (nomark _)) (pss_one (ps_ret (pe_ix ix_list (pv 0) (pv 1) (fun _ _ => rfl)))) pss_nil)
    (pss_one (ps_ret pe_int)), ?_⟩
  refine ⟨_, rfl, _, rfl, a, _, rfl, .inl hS, _, _, rfl, rfl, _, rfl, ?_⟩
  have hl : (ns.map V.int).length = ns.length := List.length_map _
  refine ite2 (fun c => ?_) (fun c => ?_)
  · have c' : k < (((ns.map V.int).length : Nat) : Int) := of_decide_eq_true c
    rw [hl] at c'
    refine ⟨_, rfl, _, rfl, a, _, _, _, rfl, rfl, hS, cell_get h0 c', ?_⟩
    unfold cellAt at q
    rw [if_pos c'] at q
    exact q
  · have c' : ¬ k < (((ns.map V.int).length : Nat) : Int) := of_decide_eq_false (Bool.eq_false_iff.mpr c)
    rw [hl] at c'
    unfold cellAt at q
    rw [if_neg c'] at q
    exact q
theorem ok_pick (F : Fun K "_law_pick" "_law_pick" sPick f fd) (D1 : Callee P w K mg base "_law_cell_at" 1 ["script", "k"] (spCell K)) (ml : mg "len" = none) : FnOk P w K mg base CX0 2 f fd ["script", "k"] (spPick K) := by
  refine F.ok (N := ["script", "k"]) ⟨rfl, rfl, rfl, by decide +kernel, rfl, by decide +kernel, by decide +kernel⟩ (fun vs H Q E h => ?_) (fun cdv A outer s H vs Q E hr h => ?_)
  · obtain ⟨a, ns, k, rfl, _⟩ := h
    rfl
  obtain ⟨a, ns, k, rfl, hS, h0, q⟩ := h
  refine ⟨_, pss_cons (ps_if (pt_cmpR op_lt (pv 1) (pe_callB call_len_seq rfl ml PySem.boot_len (pa_cons (pv 0) pa_nil)) (nomark _)) (pss_one (ps_ret (pe_ix ix_list (pv 0) (pv 1) (fun _ _ => rfl)))) pss_nil)
    (pss_one (ps_ret (pe_op op_fdiv (pe_op op_mod (pe_op op_mul (pe_op op_add (pe_op op_add (pe_callD D1 hr (Nat.le_refl _) rfl (pa_cons (pv 0) (pa_cons pe_int pa_nil))) (pe_op op_mul pe_int (pv 1))) pe_int) pe_int) pe_int) pe_int))), ?_⟩
  refine ⟨_, rfl, _, rfl, a, _, rfl, .inl hS, _, _, rfl, rfl, _, rfl, ?_⟩
  have hl : (ns.map V.int).length = ns.length := List.length_map _
  refine ite2 (fun c => ?_) (fun c => ?_)
  · have c' : k < (((ns.map V.int).length : Nat) : Int) := of_decide_eq_true c
    rw [hl] at c'
    refine ⟨_, rfl, _, rfl, a, _, _, _, rfl, rfl, hS, cell_get h0 c', ?_⟩
    unfold pick at q
    rw [if_pos c'] at q
    exact q
  · have c' : ¬ k < (((ns.map V.int).length : Nat) : Int) := of_decide_eq_false (Bool.eq_false_iff.mpr c)
    rw [hl] at c'
    refine ⟨_, rfl, a, ns, 0, rfl, hS, Int.le_refl 0, _, rfl, _, _, rfl, rfl, .inl ⟨by decide, by decide⟩, _, _, rfl, rfl, _, _, rfl, rfl, _, _, rfl, rfl, .inr ⟨by decide, by decide⟩, _, _, rfl, rfl, (by dsimp only; decide), _, _, rfl, rfl, ⟨by decide, by decide⟩, ?_⟩
    unfold pick at q
    rw [if_neg c'] at q
    exact q
theorem ok_mix (F : Fun K "_law_mix" "_law_mix" sMix f fd) : FnOk P w K mg base CX0 1 f fd ["cell", "k"] spMix := by
  have S : FnScope ["cell", "k", "mixed"] ["cell", "k"] (defScope sMix) := ⟨rfl, rfl, rfl, by decide +kernel, rfl, by decide +kernel, by decide +kernel⟩
  refine F.ok S (fun vs H Q E h => ?_) (fun cdv A outer s H vs Q E hr h => ?_)
  · obtain ⟨c, k, rfl, _⟩ := h
    rfl
  obtain ⟨c, k, rfl, q⟩ := h
  refine ⟨_, pss_cons (ps_set (i := 2) S.nd rfl (Or.inl rfl) (pe_op op_mod (pe_op op_add (pe_op op_add (pe_op op_mul (pv 0) pe_int) (pe_op op_mul pe_int (pv 1))) pe_int) pe_int))
    (pss_cons (ps_set (i := 2) S.nd rfl (Or.inl rfl) (pe_op op_mod (pe_op op_add (pe_op op_add (pe_op op_mul (pv 2) (pv 2)) (pe_op op_mul pe_int (pv 2))) (pv 1)) pe_int))
    (pss_one (ps_ret (pe_op op_mod (pe_op op_add (pe_op op_add (pe_op op_mul (pv 2) (pv 2)) (pe_op op_mul pe_int (pv 2))) (pe_op op_mul pe_int (pv 1))) pe_int)))), ?_⟩
  have b1 : ∀ x : Int, -(2 ^ 64) < x % 2147483629 ∧ x % 2147483629 < 2 ^ 64 := fun x => by
    have h1 := Int.emod_nonneg x (show (2147483629 : Int) ≠ 0 by decide)
    have h2 := Int.emod_lt_of_pos x (show (0 : Int) < 2147483629 by decide)
    omega
  have b2 : ∀ x : Int, -(2 ^ 64) < x % 2147483647 ∧ x % 2147483647 < 2 ^ 64 := fun x => by
    have h1 := Int.emod_nonneg x (show (2147483647 : Int) ≠ 0 by decide)
    have h2 := Int.emod_lt_of_pos x (show (0 : Int) < 2147483647 by decide)
    omega
  refine ⟨_, rfl, _, _, rfl, rfl, .inr ⟨by decide, by decide⟩, _, rfl, _, _, rfl, rfl, .inl ⟨by decide, by decide⟩, _, _, rfl, rfl, _, _, rfl, rfl, _, _, rfl, rfl, (by dsimp only; decide), ?_⟩
  refine ⟨_, rfl, _, rfl, _, _, rfl, rfl, .inl (b1 _), _, rfl, _, _, rfl, rfl, .inl ⟨by decide, by decide⟩, _, _, rfl, rfl, _, rfl, _, _, rfl, rfl, _, _, rfl, rfl, (by dsimp only; decide), ?_⟩
  refine ⟨_, rfl, _, rfl, _, _, rfl, rfl, .inl (b2 _), _, rfl, _, _, rfl, rfl, .inl ⟨by decide, by decide⟩, _, _, rfl, rfl, _, rfl, _, _, rfl, rfl, .inl ⟨by decide, by decide⟩, _, _, rfl, rfl, _, _, rfl, rfl, (by dsimp only; decide), ?_⟩
  exact q
theorem ok_leaf (F : Fun K "_law_leaf" "_law_leaf" sLeaf f fd) : FnOk P w K mg base CX0 1 f fd ["mixed", "relays", "buttons"] spLeaf := by
  have S : FnScope ["mixed", "relays", "buttons", "spot"] ["mixed", "relays", "buttons"] (defScope sLeaf) := ⟨rfl, rfl, rfl, by decide +kernel, rfl, by decide +kernel, by decide +kernel⟩
  refine F.ok S (fun vs H Q E h => ?_) (fun cdv A outer s H vs Q E hr h => ?_)
  · obtain ⟨m, R, B, rfl, _⟩ := h
    rfl
  obtain ⟨m, R, B, rfl, hR, hB, q⟩ := h
  refine ⟨_, pss_cons (ps_set (i := 3) S.nd rfl (Or.inl rfl) (pe_op op_mod (pv 0) (pe_op op_add (pe_op op_add (pv 1) (pv 2)) pe_int)))
    (pss_cons (ps_if (pt_cmpR op_lt (pv 3) (pv 1) (nomark _)) (pss_one (ps_ret (pe_tup (pa_cons pe_str (pa_cons (pv 3) pa_nil))))) pss_nil)
    (pss_cons (ps_if (pt_cmpR op_lt (pv 3) (pe_op op_add (pv 1) (pv 2)) (nomark _)) (pss_one (ps_ret (pe_tup (pa_cons pe_str (pa_cons (pe_op op_sub (pv 3) (pv 1)) pa_nil))))) pss_nil)
    (pss_one (ps_ret (pe_ix ix_list (pe_lst (pa_cons (pe_tup (pa_cons pe_str pa_nil)) (pa_cons (pe_tup (pa_cons pe_str pa_nil)) pa_nil))) (pe_op op_mod (pe_op op_fdiv (pv 0) pe_int) pe_int) (fun _ _ => rfl)))))), ?_⟩
  refine ⟨_, rfl, _, rfl, _, rfl, _, _, rfl, rfl, _, _, rfl, rfl, _, _, rfl, rfl, (show (0 : Int) < R + B + 1 by omega), ?_⟩
  unfold leaf at q
  refine ⟨_, rfl, _, rfl, _, _, rfl, rfl, _, rfl, ite2 (fun c => ?_) (fun c => ?_)⟩
  · have c' : m % (R + B + 1) < R := of_decide_eq_true c
    rw [if_pos c'] at q
    exact ⟨_, rfl, (by show 2 ≤ sizeLine; decide), fun p hp => q _ _ (Same.new hp _) ⟨p, rfl, upd_same⟩⟩
  have c1 : ¬ m % (R + B + 1) < R := of_decide_eq_false (Bool.eq_false_iff.mpr c)
  rw [if_neg c1] at q
  refine ⟨_, rfl, _, rfl, _, rfl, _, _, rfl, rfl, _, _, rfl, rfl, _, rfl, ite2 (fun c => ?_) (fun c => ?_)⟩
  · have c' : m % (R + B + 1) < R + B := of_decide_eq_true c
    rw [if_pos c'] at q
    exact ⟨_, rfl, _, rfl, _, _, rfl, rfl, (by show 2 ≤ sizeLine; decide), fun p hp => q _ _ (Same.new hp _) ⟨p, rfl, upd_same⟩⟩
  have c2 : ¬ m % (R + B + 1) < R + B := of_decide_eq_false (Bool.eq_false_iff.mpr c)
  rw [if_neg c2] at q
  refine ⟨(by show 1 ≤ sizeLine; decide), fun p hp => ⟨(by show 1 ≤ sizeLine; decide), fun p2 hp2 => ⟨(by show 2 ≤ sizeLine; decide), fun l hl => ?_⟩⟩⟩
  have e1 := Same.new hp (.tup [.str "on"])
  have e2 := Same.new hp2 (.tup [.str "off"])
  have e3 := Same.new hl (.lst [.ref p, .ref p2])
  refine ⟨_, rfl, _, _, rfl, rfl, ⟨by decide, by decide⟩, _, _, rfl, rfl, (by dsimp only; decide), ?_⟩
  rcases two_at (x := .ref p) (y := .ref p2) (m := m / 64) with ⟨z, e⟩ | ⟨z, e⟩
  · rw [if_pos z] at q
    exact ⟨l, _, _, _, rfl, rfl, SqL.of upd_same, e, q _ _ (e1.trans (e2.trans e3)) ⟨p, rfl, e3 _ _ (e2 _ _ upd_same)⟩⟩
  · rw [if_neg z] at q
    exact ⟨l, _, _, _, rfl, rfl, SqL.of upd_same, e, q _ _ (e1.trans (e2.trans e3)) ⟨p2, rfl, e3 _ _ upd_same⟩⟩
theorem step_word {n : Nat} (F : Fun K "_law_word" "_law_word" sWord f fd) (D1 : Callee P w K mg base "_law_mix" 1 ["cell", "k"] spMix) (D2 : Callee P w K mg base "_law_leaf" 1 ["mixed", "relays", "buttons"] spLeaf)
    (D3 : Callee P w K mg base "_law_word" (n + 2) ["cell", "k", "deep", "relays", "buttons"] (spWord n)) : FnOk P w K mg base CX0 (n + 3) f fd ["cell", "k", "deep", "relays", "buttons"] (spWord (n + 1)) := by
  have S : FnScope ["cell", "k", "deep", "relays", "buttons", "mixed", "kind", "first"] ["cell", "k", "deep", "relays", "buttons"] (defScope sWord) := ⟨rfl, rfl, rfl, by decide +kernel, rfl, by decide +kernel, by decide +kernel⟩
  refine F.ok S (fun vs H Q E h => ?_) (fun cdv A outer s H vs Q E hr h => ?_)
  · obtain ⟨cell, k, R, B, d, rfl, _⟩ := h
    rfl
  obtain ⟨cell, k, R, B, d, rfl, hd, hR, hB, q⟩ := h
  refine ⟨_, pss_cons (ps_set (i := 5) S.nd rfl (Or.inl rfl) (pe_op op_fdiv (pe_callD D1 hr (by omega) rfl (pa_cons (pv 0) (pa_cons (pv 1) pa_nil))) pe_int))
    (pss_cons (ps_set (i := 6) S.nd rfl (Or.inl rfl) (pe_op op_mod (pv 5) pe_int))
    (pss_cons (ps_if (pw_or (pt_cmpR op_lt (pv 2) pe_int (nomark _)) (pw_or1 (pt_cmpR op_lt (pv 6) pe_int (nomark _)))).pt
      (pss_one (ps_ret (pe_callD D2 hr (by omega) rfl (pa_cons (pe_op op_fdiv (pv 5) pe_int) (pa_cons (pv 3) (pa_cons (pv 4) pa_nil)))))) pss_nil)
    (pss_cons (ps_set (i := 7) S.nd rfl (Or.inl rfl) (pe_callD D3 hr (Nat.le_refl _) rfl (pa_cons (pv 0) (pa_cons (pe_op op_add (pe_op op_mul pe_int (pv 1)) pe_int) (pa_cons (pe_op op_sub (pv 2) pe_int) (pa_cons (pv 3) (pa_cons (pv 4) pa_nil)))))))
    (pss_cons (ps_if (pt_cmpR op_lt (pv 6) pe_int (nomark _)) (pss_one (ps_ret (pe_tup (pa_cons pe_str (pa_cons (pv 7) pa_nil))))) pss_nil)
    (pss_one (ps_ret (pe_tup (pa_cons (pe_ix ix_list (pe_lst (pa_cons pe_str (pa_cons pe_str pa_nil))) (pe_op op_mod (pv 6) pe_int) (fun _ _ => rfl)) (pa_cons (pv 7)
      (pa_cons (pe_callD D3 hr (Nat.le_refl _) rfl (pa_cons (pv 0) (pa_cons (pe_op op_add (pe_op op_mul pe_int (pv 1)) pe_int) (pa_cons (pe_op op_sub (pv 2) pe_int) (pa_cons (pv 3) (pa_cons (pv 4) pa_nil)))))) pa_nil)))))))))), ?_⟩
  refine ⟨_, rfl, _, rfl, _, _, rfl, _, _, rfl, rfl, ⟨by decide, by decide⟩, ?_⟩
  refine ⟨_, rfl, _, _, rfl, rfl, (by dsimp only; decide), ?_⟩
  have leafway : (lword cell R B d k = leaf (mix cell k / 7 / 10) R B) → ∃ v, (some (some (V.int (mix cell k / 7))) : Option (Option V)) = some (some v) ∧ ∃ i j, v = V.int i ∧ V.int 10 = V.int j ∧ CDiv i j ∧
      ∃ m R' B', ([V.int (i / j), V.int R, V.int B] : List V) = [.int m, .int R', .int B'] ∧ 1 ≤ R' ∧ 0 ≤ B' ∧ ∀ v H', Same H H' → WAt H' (leaf m R' B') v → Q v H' := fun e =>
    ⟨_, rfl, _, _, rfl, rfl, ⟨by decide, by decide⟩, _, _, _, rfl, hR, hB, fun v H' s a => q v H' s (by rw [e]; exact a)⟩
  refine ⟨_, rfl, _, _, rfl, rfl, _, rfl, ite2 (fun c => ?_) (fun c => ?_)⟩
  · have c' : (d : Int) < 2 := of_decide_eq_true c
    have e : lword cell R B d k = leaf (mix cell k / 7 / 10) R B := by
      cases d with
      | zero => rfl
      | succ d => unfold lword; rw [if_pos (.inl (by omega))]
    refine iteT ⟨_, rfl, _, _, rfl, rfl, ⟨by decide, by decide⟩, _, rfl, _, rfl, _, _, _, rfl, hR, hB, fun v H' s a => q v H' s (by rw [e]; exact a)⟩
  have c1 : ¬ (d : Int) < 2 := of_decide_eq_false (Bool.eq_false_iff.mpr c)
  obtain ⟨d, rfl⟩ : ∃ j : Nat, d = j + 1 := ⟨d - 1, by omega⟩
  refine ⟨_, rfl, _, _, rfl, rfl, _, rfl, ite2 (fun c => ?_) (fun c => ?_)⟩
  · have c' : mix cell k / 7 % 10 < 3 := of_decide_eq_true c
    have e : lword cell R B (d + 1) k = leaf (mix cell k / 7 / 10) R B := by unfold lword; rw [if_pos (.inr c')]
    exact ⟨_, rfl, _, _, rfl, rfl, ⟨by decide, by decide⟩, _, rfl, _, rfl, _, _, _, rfl, hR, hB, fun v H' s a => q v H' s (by rw [e]; exact a)⟩
  have c2 : ¬ mix cell k / 7 % 10 < 3 := of_decide_eq_false (Bool.eq_false_iff.mpr c)
  have ed : ((d + 1 : Nat) : Int) - 1 = (d : Int) := by omega
  unfold lword at q
  rw [if_neg (by omega)] at q
  refine ⟨_, rfl, _, rfl, _, _, rfl, rfl, .inl ⟨by decide, by decide⟩, _, _, rfl, rfl, _, rfl, _, _, rfl, rfl, _, rfl, _, rfl, cell, 2 * k + 1, R, B, d, by rw [← ed]; rfl, by omega, hR, hB, fun v1 H1 s1 a1 => ?_⟩
  refine ⟨_, rfl, _, _, rfl, rfl, _, rfl, ite2 (fun c => ?_) (fun c => ?_)⟩
  · have c' : mix cell k / 7 % 10 < 5 := of_decide_eq_true c
    rw [if_pos c'] at q
    exact ⟨_, rfl, (by show 2 ≤ sizeLine; decide), fun p hp => q _ _ (s1.trans (Same.new hp _)) ⟨p, v1, rfl, upd_same, a1.mono (Same.new hp _).tup⟩⟩
  have c3 : ¬ mix cell k / 7 % 10 < 5 := of_decide_eq_false (Bool.eq_false_iff.mpr c)
  rw [if_neg c3] at q
  refine ⟨(by show 2 ≤ sizeLine; decide), fun l hl => ?_⟩
  have s2 := Same.new hl (.lst [.str "and", .str "or"])
  refine ⟨_, rfl, _, _, rfl, rfl, (by dsimp only; decide), ?_⟩
  rcases two_at (x := .str "and") (y := .str "or") (m := mix cell k / 7 % 10) with ⟨z, e⟩ | ⟨z, e⟩
  · rw [if_pos z] at q
    refine ⟨l, _, _, _, rfl, rfl, SqL.of upd_same, e, _, rfl, _, rfl, _, rfl, _, _, rfl, rfl, .inl ⟨by decide, by decide⟩, _, _, rfl, rfl, _, rfl, _, _, rfl, rfl, _, rfl, _, rfl, cell, 2 * k + 2, R, B, d, by rw [← ed]; rfl, by omega, hR, hB, fun v3 H3 s3 a3 => ?_⟩
    refine ⟨(by show 3 ≤ sizeLine; decide), fun p hp => q _ _ (s1.trans (s2.trans (s3.trans (Same.new hp _)))) ⟨p, v1, v3, rfl, upd_same, a1.mono (s2.trans (s3.trans (Same.new hp _))).tup, a3.mono (Same.new hp _).tup⟩⟩
  · rw [if_neg z] at q
    refine ⟨l, _, _, _, rfl, rfl, SqL.of upd_same, e, _, rfl, _, rfl, _, rfl, _, _, rfl, rfl, .inl ⟨by decide, by decide⟩, _, _, rfl, rfl, _, rfl, _, _, rfl, rfl, _, rfl, _, rfl, cell, 2 * k + 2, R, B, d, by rw [← ed]; rfl, by omega, hR, hB, fun v3 H3 s3 a3 => ?_⟩
    refine ⟨(by show 3 ≤ sizeLine; decide), fun p hp => q _ _ (s1.trans (s2.trans (s3.trans (Same.new hp _)))) ⟨p, v1, v3, rfl, upd_same, a1.mono (s2.trans (s3.trans (Same.new hp _))).tup, a3.mono (Same.new hp _).tup⟩⟩
theorem ok_word (F : Fun K "_law_word" "_law_word" sWord f fd) (b : Binds K fd ["cell", "k", "deep", "relays", "buttons"] []) (m : mg "_law_word" = some (.ref f)) (D1 : Callee P w K mg base "_law_mix" 1 ["cell", "k"] spMix) (D2 : Callee P w K mg base "_law_leaf" 1 ["mixed", "relays", "buttons"] spLeaf) :
    ∀ n : Nat, FnOk P w K mg base CX0 (n + 2) f fd ["cell", "k", "deep", "relays", "buttons"] (spWord n)
  | 0 => no_calls fun vs H Q E h => by
    obtain ⟨_, _, _, _, d, _, hd, _⟩ := h
    exact absurd hd (Nat.not_lt_zero _)
  | n + 1 => step_word F D1 D2 ⟨f, fd, ok_word F b m D1 D2 n, b, F.kp, m⟩
theorem ok_bits (F : Fun K "_law_bits" "_law_bits" sBits f fd) (mr : mg "range" = none) (mt : mg "tuple" = none) : FnOk P w K mg base CX0 1 f fd ["number", "size"] spBits := by
  have S : FnScope ["number", "size"] ["number", "size"] (defScope sBits) := ⟨rfl, rfl, rfl, by decide +kernel, rfl, by decide +kernel, by decide +kernel⟩
  refine F.ok S (fun vs H Q E h => ?_) (fun cdv A outer s H vs Q E hr h => ?_)
  · obtain ⟨m, n, rfl, _⟩ := h
    rfl
  obtain ⟨m, n, rfl, hn, q⟩ := h
  refine ⟨_, pss_one (ps_ret (pe_callTy call_tuple_of rfl mt PyProof.Rows.boot_tuple (pa_cons (pe_comp (ys := ["number"]) (ix := [0]) (.of S {}) rfl
    (pi_range1 rfl mr (pa_cons (pv 1) pa_nil)) (fun _ _ _ _ => pts_nil)
    (fun cl s3 H3 fp => pe_cmpR op_eq (pe_op op_mod (pe_op op_shr (pv 1) (pv 0)) pe_int) pe_int (nomark _))) pa_nil))), ?_⟩
  refine ⟨_, rfl, n, rfl, by omega, by omega, ?_⟩
  refine body_rng (by simp; exact sz (by omega)) (fun i y H => y = .bl (decide (m / 2 ^ i % 2 = 1))) (fun _ _ _ _ _ h => h) (fun i H' R hi hS hR => ?_) (fun D us H' hD hS hl hlen hG => ?_)
  · refine ⟨_, rfl, _, rfl, _, _, rfl, rfl, (by dsimp only; omega), _, _, rfl, rfl, (by dsimp only; decide), rfl, ?_⟩
    refine hR _ _ (Same.refl _) ?_
    have e : ((0 : Int) + (i : Int)).toNat = i := by omega
    rw [e]
    exact congrArg V.bl (decide_eq_decide.mpr ⟨fun z => by injection z, fun z => by dsimp only; rw [z]⟩)
  · refine ⟨D, us, rfl, .inl ⟨SqL.of hl, fun p hp => q p _ (hS.trans (Same.new hp _)) ?_⟩⟩
    rw [upd_same]
    have e : us = (bitsOf m n).map V.bl := list_ext (by rw [List.length_map, bits_length]; simpa using hlen) fun i y hy => by
      have hi : i < n := by have := (List.getElem?_eq_some_iff.mp hy).1; simp at hlen; omega
      rw [hG i y hy]
      simp [bitsOf, hi]
    rw [e]
theorem ok_wrapped (F : Fun K "_law_wrapped" "_law_wrapped" sWrapped f fd) (mr : mg "range" = none) (mi : mg "int" = none) : FnOk P w K mg base CX0 1 f fd ["word", "mixed"] spWrapped := by
  have S : FnScope ["word", "mixed", "k"] ["word", "mixed"] (defScope sWrapped) := ⟨rfl, rfl, rfl, by decide +kernel, rfl, by decide +kernel, by decide +kernel⟩
  refine F.ok S (fun vs H Q E h => ?_) (fun cdv A outer s H vs Q E hr h => ?_)
  · obtain ⟨v, wd, m, rfl, _⟩ := h
    rfl
  obtain ⟨v, wd, m, rfl, ha, q⟩ := h
  refine ⟨_, pss_cons (ps_for PassesOwn.never rfl (pi_range1 rfl mr (pa_cons (pe_op op_mul (pe_op op_mod (pv 1) pe_int) (pe_callTy call_int1 rfl mi PyProof.Rows.boot_int (pa_cons (pe_cmpR op_eq (pe_op op_mod (pe_op op_fdiv (pv 1) pe_int) pe_int) pe_int (nomark _)) pa_nil))) pa_nil))
      (pg_name (i := 2) S.nd rfl (Or.inl rfl)) (pss_one (ps_set (i := 0) S.nd rfl (Or.inl rfl) (pe_tup (pa_cons pe_str (pa_cons (pv 0) pa_nil))))))
    (pss_one (ps_ret (pv 0))), ?_⟩
  have h1 := Int.emod_nonneg m (show (4 : Int) ≠ 0 by decide)
  have h2 := Int.emod_lt_of_pos m (show (0 : Int) < 4 by decide)
  refine ⟨_, rfl, _, _, rfl, rfl, (by dsimp only; decide), _, rfl, _, _, rfl, rfl, ⟨by decide, by decide⟩, _, _, rfl, rfl, (by dsimp only; decide), rfl, .inr ⟨_, rfl, _, _, rfl, rfl, .inl ⟨by omega, by omega⟩, ?_⟩⟩
  have e : (m % 4 * (if (decide (V.int (m / 4 % 4) = V.int 1)) = true then 1 else 0)).toNat = wraps m := by
    unfold wraps
    by_cases c : m / 4 % 4 = 1
    · rw [if_pos c, if_pos (by rw [c]; decide)]
    · rw [if_neg c, if_neg (by intro z; have z' := of_decide_eq_true z; injection z' with z''; exact c z'')]
  refine ⟨_, rfl, ?_, ?_, ?_⟩
  · split <;> omega
  · split <;> omega
  rw [e]
  refine for_range (fun i σ H' => ∃ v' o, σ = [some v', some (.int m), o] ∧ Same H H' ∧ WAt H' (wrapN i wd) v') ⟨v, _, rfl, Same.refl _, ha⟩ ?_ ?_
  · rintro i σ H' hi ⟨v', o, rfl, hS, hW⟩
    refine ⟨_, rfl, (by show 2 ≤ sizeLine; decide), fun p hp => ⟨_, _, rfl, hS.trans (Same.new hp _), p, v', rfl, upd_same, hW.mono (Same.new hp _).tup⟩⟩
  · rintro σ H' ⟨v', o, rfl, hS, hW⟩
    exact ⟨_, rfl, q _ _ hS hW⟩
theorem ok_board (F : Fun K "_law_board" "_law_board" sBoard f fd) (mr : mg "range" = none) (D1 : Callee P w K mg base "_law_pick" 2 ["script", "k"] (spPick K)) (D2 : Callee P w K mg base "_law_word" 12 ["cell", "k", "deep", "relays", "buttons"] (spWord 10)) :
    FnOk P w K mg base CX0 13 f fd ["script", "start", "relays", "buttons", "deep"] (spBoard K) := by
  have S : FnScope ["script", "start", "relays", "buttons", "deep"] ["script", "start", "relays", "buttons", "deep"] (defScope sBoard) := ⟨rfl, rfl, rfl, by decide +kernel, rfl, by decide +kernel, by decide +kernel⟩
  refine F.ok S (fun vs H Q E h => ?_) (fun cdv A outer s H vs Q E hr h => ?_)
  · obtain ⟨a, ns, start, R, B, d, rfl, _⟩ := h
    rfl
  obtain ⟨a, ns, start, R, B, d, rfl, hS, h0, hd, hR, hR2, hB, q⟩ := h
  refine ⟨_, pss_one (ps_ret (pe_comp (ys := ["script", "start", "relays", "buttons", "deep"]) (ix := [0, 1, 2, 3, 4]) (.of S {}) rfl
    (pi_range1 rfl mr (pa_cons (pv 2) pa_nil)) (fun _ _ _ _ => pts_nil)
    (fun cl s3 H3 fp => pe_callD D2 hr (Nat.le_refl _) rfl (pa_cons (pe_callD D1 hr (by omega) rfl (pa_cons (pv 1) (pa_cons (pe_op op_add (pv 2) (pv 0)) pa_nil))) (pa_cons (pv 0) (pa_cons (pv 5) (pa_cons (pv 3) (pa_cons (pv 4) pa_nil)))))))), ?_⟩
  refine ⟨_, rfl, R, rfl, by omega, by omega, ?_⟩
  refine body_rng (by exact sz (by omega)) (fun i y H => WAt H (lword (pick ns (start + i)) R B d i) y) (fun _ _ _ _ t h => h.mono t) (fun i H' R' hi hS' hR' => ?_) (fun D us H' hD hS' hl hlen hG => ?_)
  · have e0 : (0 : Int) + (i : Int) = (i : Int) := by omega
    rw [e0]
    refine ⟨_, rfl, _, rfl, _, rfl, _, _, rfl, rfl, a, ns, start + i, rfl, hS'.seq hS, by omega, ?_⟩
    exact ⟨_, rfl, _, rfl, _, rfl, _, rfl, _, _, _, _, d, rfl, hd, hR, hB, fun v H2 s2 a2 => hR' v H2 s2 a2⟩
  · refine q D us H' hS' hl ⟨by rw [hlen]; simp [lboard], fun i v e => ?_⟩
    have hi : i < R.toNat := by have := (List.getElem?_eq_some_iff.mp e).1; omega
    exact ⟨_, by simp [lboard, hi], hG i v e⟩
theorem ok_room (F : Fun K "_law_room" "_law_room" sRoom f fd) (mr : mg "range" = none) (D1 : Callee P w K mg base "_law_cell_at" 1 ["script", "k"] (spCell K)) (D2 : Callee P w K mg base "_law_board" 13 ["script", "start", "relays", "buttons", "deep"] (spBoard K))
    (D3 : Callee P w K mg base "_law_wrapped" 1 ["word", "mixed"] spWrapped) (D4 : Callee P w K mg base "_law_mix" 1 ["cell", "k"] spMix) (D5 : Callee P w K mg base "_law_bits" 1 ["number", "size"] spBits) :
    FnOk P w K mg base CX0 14 f fd ["script"] (spRoom K) := by
  have S : FnScope ["script", "cell", "relays", "buttons", "board", "pressed"] ["script"] (defScope sRoom) := ⟨rfl, rfl, rfl, by decide +kernel, rfl, by decide +kernel, by decide +kernel⟩
  refine F.ok S (fun vs H Q E h => ?_) (fun cdv A outer s H vs Q E hr h => ?_)
  · obtain ⟨a, ns, rfl, _⟩ := h
    rfl
  obtain ⟨a, ns, rfl, hS, q⟩ := h
  refine ⟨_, pss_cons (ps_set (i := 1) S.nd rfl (Or.inr rfl) (pe_callD D1 hr (by omega) rfl (pa_cons (pv 0) (pa_cons pe_int pa_nil))))
    (pss_cons (ps_set (i := 2) S.nd rfl (Or.inl rfl) (pe_op op_add pe_int (pe_op op_mod (pv 1) pe_int)))
    (pss_cons (ps_join (ps_if (pt_cmpR op_eq (pe_op op_mod (pe_op op_fdiv (pv 1) pe_int) pe_int) pe_int (nomark _)) (pss_one (ps_set (i := 2) S.nd rfl (Or.inl rfl) pe_int)) pss_nil))
    (pss_cons (ps_set (i := 3) S.nd rfl (Or.inl rfl) (pe_op op_mod (pe_op op_fdiv (pv 1) pe_int) pe_int))
    (pss_cons (ps_set (i := 4) S.nd rfl (Or.inr rfl) (pe_callD D2 hr (by omega) rfl (pa_cons (pv 0) (pa_cons pe_int (pa_cons (pv 2) (pa_cons (pv 3) (pa_cons (pe_op op_add pe_int (pe_op op_mod (pe_op op_fdiv (pv 1) pe_int) pe_int)) pa_nil)))))))
    (pss_cons (ps_set (i := 4) S.nd rfl (Or.inr rfl) (pe_comp (ys := ["cell", "board"]) (ix := [1, 4]) (.of S {}) rfl (pi_range1 rfl mr (pa_cons (pv 2) pa_nil)) (fun _ _ _ _ => pts_nil)
      (fun cl s3 H3 fp => pe_callD D3 hr (by omega) rfl (pa_cons (pe_ix (ix_listK (K := K) rfl) (pv 2) (pv 0) (fun _ _ => rfl)) (pa_cons (pe_op op_fdiv (pe_callD D4 hr (by omega) rfl (pa_cons (pv 1) (pa_cons (pe_op op_add pe_int (pv 0)) pa_nil))) pe_int) pa_nil)))))
    (pss_cons (ps_set (i := 5) S.nd rfl (Or.inl rfl) (pe_callD D5 hr (by omega) rfl (pa_cons (pe_callD D1 hr (by omega) rfl (pa_cons (pv 0) (pa_cons pe_int pa_nil))) (pa_cons (pv 3) pa_nil))))
    (pss_one (ps_ret (pe_tup (pa_cons (pv 4) (pa_cons (pv 5) (pa_cons (pe_callD D5 hr (by omega) rfl (pa_cons (pe_callD D1 hr (by omega) rfl (pa_cons (pv 0) (pa_cons pe_int pa_nil))) (pa_cons (pv 2) pa_nil))) pa_nil)))))))))))), ?_⟩
  have hR := rRelays_in (cellAt ns 0)
  have hB := rButtons_in (cellAt ns 0)
  have hd := rDeep_in (cellAt ns 0)
  refine ⟨_, rfl, a, ns, 0, rfl, hS, Int.le_refl 0, ?_⟩
  refine ⟨_, rfl, _, _, rfl, rfl, (by dsimp only; decide), _, _, rfl, rfl, ?_⟩
  refine ⟨fun σ' H' => σ' = [some (.ref a), some (.int (cellAt ns 0)), some (.int (rRelays (cellAt ns 0))), none, none, none] ∧ H' = H, ?_, ?_⟩
  · refine ⟨_, rfl, _, _, rfl, rfl, ⟨by decide, by decide⟩, _, _, rfl, rfl, (by dsimp only; decide), rfl, _, rfl, ite2 (fun c => ?_) (fun c => ?_)⟩
    · have c' : cellAt ns 0 / 5 % 9 = 1 := by have z := of_decide_eq_true c; injection z
      exact ⟨by unfold rRelays; rw [if_pos c']; rfl, rfl⟩
    · have c' : ¬ cellAt ns 0 / 5 % 9 = 1 := fun z => of_decide_eq_false (Bool.eq_false_iff.mpr c) (by dsimp only; rw [z])
      exact ⟨by unfold rRelays; rw [if_neg c']; rfl, rfl⟩
  rintro σ' H' ⟨rfl, rfl⟩
  refine ⟨_, rfl, _, _, rfl, rfl, ⟨by decide, by decide⟩, _, _, rfl, rfl, (by dsimp only; decide), ?_⟩
  refine ⟨_, rfl, _, rfl, _, rfl, _, rfl, _, _, rfl, rfl, ⟨by decide, by decide⟩, _, _, rfl, rfl, (by dsimp only; decide), _, _, rfl, rfl, a, ns, 4, rRelays (cellAt ns 0), rButtons (cellAt ns 0), rDeep (cellAt ns 0), by rw [hd.2.2]; rfl, hS, by decide, by omega, hR.1, by omega, hB.1, fun D us H1 s1 hD hW => ?_⟩
  refine ⟨_, rfl, _, rfl, by omega, by omega, ?_⟩
  refine body_rng (by exact sz (by omega)) (fun i y H => WAt H (wrapN (wraps (mix (cellAt ns 0) (70 + i) / 7)) (lword (pick ns (4 + i)) (rRelays (cellAt ns 0)) (rButtons (cellAt ns 0)) (rDeep (cellAt ns 0)) i)) y) (fun _ _ _ _ t h => h.mono t)
    (fun i H2 R' hi hS' hR' => ?_) (fun D2 us2 H2 hD2 hS2 hl2 hlen2 hG2 => ?_)
  · have e0 : (0 : Int) + (i : Int) = (i : Int) := by omega
    rw [e0]
    have hi' : i < us.length := by rw [hW.1]; simpa [lboard] using hi
    obtain ⟨wd, e1, w1⟩ := hW.2 i us[i] (by simp [hi'])
    have e2 : wd = lword (pick ns (4 + i)) (rRelays (cellAt ns 0)) (rButtons (cellAt ns 0)) (rDeep (cellAt ns 0)) i := by
      simp [lboard, hi] at e1
      exact e1.symm
    subst e2
    refine ⟨_, rfl, _, rfl, D, us, _, us[i], rfl, rfl, SqL.of (hS' _ _ hD), atI_nat (by simp [hi']), _, rfl, _, rfl, _, _, rfl, rfl, _, _, rfl, _, _, rfl, rfl, ⟨by decide, by decide⟩, us[i], _, _, rfl, w1.mono hS'.tup, ?_⟩
    intro v3 H3 s3 a3
    exact hR' v3 H3 s3 a3
  refine ⟨_, rfl, a, ns, 1, rfl, hS2.seq (s1.seq hS), by decide, _, rfl, cellAt ns 1, (rButtons (cellAt ns 0)).toNat, ?_, by omega, fun b H3 s3 hb3 => ?_⟩
  · have : ((rButtons (cellAt ns 0)).toNat : Int) = rButtons (cellAt ns 0) := by omega
    rw [this]
    rfl
  refine ⟨_, rfl, _, rfl, _, rfl, a, ns, 2, rfl, s3.seq (hS2.seq (s1.seq hS)), by decide, _, rfl, cellAt ns 2, (rRelays (cellAt ns 0)).toNat, ?_, by omega, fun c H4 s4 hc4 => ?_⟩
  · have : ((rRelays (cellAt ns 0)).toNat : Int) = rRelays (cellAt ns 0) := by omega
    rw [this]
    rfl
  refine ⟨(by show 3 ≤ sizeLine; decide), fun p hp => ?_⟩
  have n5 := Same.new hp (.tup [.ref D2, .ref b, .ref c])
  refine q p _ (s1.trans (hS2.trans (s3.trans (s4.trans n5)))) ⟨D2, us2, b, c, upd_same, n5 _ _ (s4 _ _ (s3 _ _ hl2)), ⟨?_, fun i v e => ?_⟩, n5 _ _ (s4 _ _ hb3), n5 _ _ hc4⟩
  · rw [hlen2]; simp [roomBoard]
  · have hi : i < (rRelays (cellAt ns 0)).toNat := by have := (List.getElem?_eq_some_iff.mp e).1; omega
    exact ⟨_, by simp [roomBoard, hi], (hG2 i v e).mono (s3.trans (s4.trans n5)).tup⟩
theorem step_worth {n : Nat} (F : Fun K "worth" "worth" sWorth f fd) (D : Callee P w K mg base "worth" (n + 1) ["word", "stand", "pressed"] (spWorth n)) : FnOk P w K mg base CX0 (n + 2) f fd ["word", "stand", "pressed"] (spWorth (n + 1)) := by
  have S : FnScope ["word", "stand", "pressed", "kind"] ["word", "stand", "pressed"] (defScope sWorth) := ⟨rfl, rfl, rfl, by decide +kernel, rfl, by decide +kernel, by decide +kernel⟩
  refine F.ok S (fun vs H Q E h => ?_) (fun cdv A outer s H vs Q E hr h => ?_)
  · obtain ⟨v, wd, a, b, st, pr, rfl, _⟩ := h
    rfl
  obtain ⟨v, wd, a, b, st, pr, rfl, hW, hA, hB, hok, hdep, q⟩ := h
  refine ⟨_, pss_cons (ps_set (i := 3) S.nd rfl (Or.inl rfl) (pe_ix ix_tup (pv 0) pe_int (fun _ _ => rfl)))
    (pss_cons (ps_if (pt_cmpR op_eq (pv 3) pe_str (nomark _)) (pss_one (ps_ret pe_bl)) pss_nil)
    (pss_cons (ps_if (pt_cmpR op_eq (pv 3) pe_str (nomark _)) (pss_one (ps_ret pe_bl)) pss_nil)
    (pss_cons (ps_if (pt_cmpR op_eq (pv 3) pe_str (nomark _)) (pss_one (ps_ret (pe_ix ix_tup (pv 1) (pe_ix ix_tup (pv 0) pe_int (fun _ _ => rfl)) (fun _ _ => rfl)))) pss_nil)
    (pss_cons (ps_if (pt_cmpR op_eq (pv 3) pe_str (nomark _)) (pss_one (ps_ret (pe_ix ix_tup (pv 2) (pe_ix ix_tup (pv 0) pe_int (fun _ _ => rfl)) (fun _ _ => rfl)))) pss_nil)
    (pss_cons (ps_if (pt_cmpR op_eq (pv 3) pe_str (nomark _)) (pss_one (ps_ret (pe_not (pe_callD D hr (Nat.le_refl _) rfl (pa_cons (pe_ix ix_tup (pv 0) pe_int (fun _ _ => rfl)) (pa_cons (pv 1) (pa_cons (pv 2) pa_nil))))))) pss_nil)
    (pss_cons (ps_if (pt_cmpR op_eq (pv 3) pe_str (nomark _)) (pss_one (ps_ret (pe_and (pe_callD D hr (Nat.le_refl _) rfl (pa_cons (pe_ix ix_tup (pv 0) pe_int (fun _ _ => rfl)) (pa_cons (pv 1) (pa_cons (pv 2) pa_nil))))
      (pe_one (pe_callD D hr (Nat.le_refl _) rfl (pa_cons (pe_ix ix_tup (pv 0) pe_int (fun _ _ => rfl)) (pa_cons (pv 1) (pa_cons (pv 2) pa_nil)))))))) pss_nil)
    (pss_one (ps_ret (pe_or (pe_callD D hr (Nat.le_refl _) rfl (pa_cons (pe_ix ix_tup (pv 0) pe_int (fun _ _ => rfl)) (pa_cons (pv 1) (pa_cons (pv 2) pa_nil))))
      (pe_one (pe_callD D hr (Nat.le_refl _) rfl (pa_cons (pe_ix ix_tup (pv 0) pe_int (fun _ _ => rfl)) (pa_cons (pv 1) (pa_cons (pv 2) pa_nil)))))))))))))), ?_⟩
  cases wd with
  | on =>
    obtain ⟨p, rfl, hp⟩ := hW
    refine ⟨_, rfl, p, _, _, _, rfl, rfl, SqT.of hp, at0 _ _, _, rfl, rfl, _, rfl, iteTh (by decide +kernel) ?_⟩
    exact q
  | off =>
    obtain ⟨p, rfl, hp⟩ := hW
    refine ⟨_, rfl, p, _, _, _, rfl, rfl, SqT.of hp, at0 _ _, _, rfl, rfl, _, rfl, iteFh (by decide +kernel) ?_⟩
    refine ⟨_, rfl, rfl, _, rfl, iteTh (by decide +kernel) ?_⟩
    exact q
  | relay k =>
    obtain ⟨p, rfl, hp⟩ := hW
    refine ⟨_, rfl, p, _, _, _, rfl, rfl, SqT.of hp, at0 _ _, _, rfl, rfl, _, rfl, iteFh (by decide +kernel) ?_⟩
    refine ⟨_, rfl, rfl, _, rfl, iteFh (by decide +kernel) ⟨_, rfl, rfl, _, rfl, iteTh (by decide +kernel) ?_⟩⟩
    exact ⟨_, rfl, _, rfl, p, _, _, _, rfl, rfl, SqT.of hp, at1 _ _ _, a, _, _, _, rfl, rfl, SqT.of hA, bools_at hok.1 hok.2, q⟩
  | button k =>
    obtain ⟨p, rfl, hp⟩ := hW
    refine ⟨_, rfl, p, _, _, _, rfl, rfl, SqT.of hp, at0 _ _, _, rfl, rfl, _, rfl, iteFh (by decide +kernel) ?_⟩
    refine ⟨_, rfl, rfl, _, rfl, iteFh (by decide +kernel) ⟨_, rfl, rfl, _, rfl, iteFh (by decide +kernel) ⟨_, rfl, rfl, _, rfl, iteTh (by decide +kernel) ?_⟩⟩⟩
    exact ⟨_, rfl, _, rfl, p, _, _, _, rfl, rfl, SqT.of hp, at1 _ _ _, b, _, _, _, rfl, rfl, SqT.of hB, bools_at hok.1 hok.2, q⟩
  | nt x =>
    obtain ⟨p, vx, rfl, hp, hx⟩ := hW
    have hdep : x.depth + 1 ≤ n + 1 := hdep
    refine ⟨_, rfl, p, _, _, _, rfl, rfl, SqT.of hp, at0 _ _, _, rfl, rfl, _, rfl, iteFh (by decide +kernel) ?_⟩
    refine ⟨_, rfl, rfl, _, rfl, iteFh (by decide +kernel) ⟨_, rfl, rfl, _, rfl, iteFh (by decide +kernel) ⟨_, rfl, rfl, _, rfl, iteFh (by decide +kernel) ⟨_, rfl, rfl, _, rfl, iteTh (by decide +kernel) ?_⟩⟩⟩⟩
    exact ⟨_, rfl, p, _, _, _, rfl, rfl, SqT.of hp, at1 _ _ _, _, rfl, _, rfl, vx, x, a, b, st, pr, rfl, hx, hA, hB, hok, by omega, _, rfl, q⟩
  | an x y =>
    obtain ⟨p, vx, vy, rfl, hp, hx, hy⟩ := hW
    have hdep : max x.depth y.depth + 1 ≤ n + 1 := hdep
    refine ⟨_, rfl, p, _, _, _, rfl, rfl, SqT.of hp, at0 _ _, _, rfl, rfl, _, rfl, iteFh (by decide +kernel) ?_⟩
    refine ⟨_, rfl, rfl, _, rfl, iteFh (by decide +kernel) ⟨_, rfl, rfl, _, rfl, iteFh (by decide +kernel) ⟨_, rfl, rfl, _, rfl, iteFh (by decide +kernel) ⟨_, rfl, rfl, _, rfl, iteFh (by decide +kernel) ⟨_, rfl, rfl, _, rfl, iteTh (by decide +kernel) ?_⟩⟩⟩⟩⟩
    refine ⟨_, rfl, p, _, _, _, rfl, rfl, SqT.of hp, at1 _ _ _, _, rfl, _, rfl, vx, x, a, b, st, pr, rfl, hx, hA, hB, hok.1, by omega, _, rfl, ?_⟩
    cases e : x.worth st pr with
    | false =>
      refine iteF ?_
      have z : (Wd.an x y).worth st pr = false := by show (x.worth st pr && y.worth st pr) = false; rw [e]; rfl
      rw [z] at q
      exact q
    | true =>
      have z : (Wd.an x y).worth st pr = y.worth st pr := by show (x.worth st pr && y.worth st pr) = _; rw [e]; rfl
      rw [z] at q
      exact iteT ⟨_, rfl, p, _, _, _, rfl, rfl, SqT.of hp, at2 _ _ _ _, _, rfl, _, rfl, vy, y, a, b, st, pr, rfl, hy, hA, hB, hok.2, by omega, q⟩
  | or x y =>
    obtain ⟨p, vx, vy, rfl, hp, hx, hy⟩ := hW
    have hdep : max x.depth y.depth + 1 ≤ n + 1 := hdep
    refine ⟨_, rfl, p, _, _, _, rfl, rfl, SqT.of hp, at0 _ _, _, rfl, rfl, _, rfl, iteFh (by decide +kernel) ?_⟩
    refine ⟨_, rfl, rfl, _, rfl, iteFh (by decide +kernel) ⟨_, rfl, rfl, _, rfl, iteFh (by decide +kernel) ⟨_, rfl, rfl, _, rfl, iteFh (by decide +kernel) ⟨_, rfl, rfl, _, rfl, iteFh (by decide +kernel) ⟨_, rfl, rfl, _, rfl, iteFh (by decide +kernel) ?_⟩⟩⟩⟩⟩
    refine ⟨_, rfl, p, _, _, _, rfl, rfl, SqT.of hp, at1 _ _ _, _, rfl, _, rfl, vx, x, a, b, st, pr, rfl, hx, hA, hB, hok.1, by omega, _, rfl, ?_⟩
    cases e : x.worth st pr with
    | true =>
      refine iteT ?_
      have z : (Wd.or x y).worth st pr = true := by show (x.worth st pr || y.worth st pr) = true; rw [e]; rfl
      rw [z] at q
      exact q
    | false =>
      have z : (Wd.or x y).worth st pr = y.worth st pr := by show (x.worth st pr || y.worth st pr) = _; rw [e]; rfl
      rw [z] at q
      exact iteF ⟨_, rfl, p, _, _, _, rfl, rfl, SqT.of hp, at2 _ _ _ _, _, rfl, _, rfl, vy, y, a, b, st, pr, rfl, hy, hA, hB, hok.2, by omega, q⟩
theorem ok_worth (F : Fun K "worth" "worth" sWorth f fd) (b : Binds K fd ["word", "stand", "pressed"] []) (m : mg "worth" = some (.ref f)) : ∀ n : Nat, FnOk P w K mg base CX0 (n + 1) f fd ["word", "stand", "pressed"] (spWorth n)
  | 0 => no_calls fun vs H Q E h => by
    obtain ⟨_, wd, _, _, _, _, _, _, _, _, _, hd, _⟩ := h
    have := depth_pos wd
    omega
  | n + 1 => step_worth F ⟨f, fd, ok_worth F b m n, b, F.kp, m⟩
theorem step_lworth {n : Nat} (F : Fun K "_law_worth" "_law_worth" sLWorth f fd) (D : Callee P w K mg base "_law_worth" (n + 1) ["word", "stand", "pressed"] (spLWorth n)) : FnOk P w K mg base CX0 (n + 2) f fd ["word", "stand", "pressed"] (spLWorth (n + 1)) := by
  have S : FnScope ["word", "stand", "pressed", "worths"] ["word", "stand", "pressed"] (defScope sLWorth) := ⟨rfl, rfl, rfl, by decide +kernel, rfl, by decide +kernel, by decide +kernel⟩
  refine F.ok S (fun vs H Q E h => ?_) (fun cdv A outer s H vs Q E hr h => ?_)
  · obtain ⟨v, wd, a, b, st, pr, rfl, _⟩ := h
    rfl
  obtain ⟨v, wd, a, b, st, pr, rfl, hW, hA, hB, hok, hdep, q⟩ := h
  refine ⟨_, pss_cons (ps_if (pw_or (pt_cmpR op_eq (pe_ix ix_tup (pv 0) pe_int (fun _ _ => rfl)) pe_str (nomark _)) (pw_or1 (pt_cmpR op_eq (pe_ix ix_tup (pv 0) pe_int (fun _ _ => rfl)) pe_str (nomark _)))).pt
      (pss_one (ps_ret (pe_cmpR op_eq (pe_ix ix_tup (pv 0) pe_int (fun _ _ => rfl)) pe_str (nomark _)))) pss_nil)
    (pss_cons (ps_if (pt_cmpR op_eq (pe_ix ix_tup (pv 0) pe_int (fun _ _ => rfl)) pe_str (nomark _)) (pss_one (ps_ret (pe_ix ix_tup (pv 1) (pe_ix ix_tup (pv 0) pe_int (fun _ _ => rfl)) (fun _ _ => rfl)))) pss_nil)
    (pss_cons (ps_if (pt_cmpR op_eq (pe_ix ix_tup (pv 0) pe_int (fun _ _ => rfl)) pe_str (nomark _)) (pss_one (ps_ret (pe_ix ix_tup (pv 2) (pe_ix ix_tup (pv 0) pe_int (fun _ _ => rfl)) (fun _ _ => rfl)))) pss_nil)
    (pss_cons (ps_setC (i := 3) (ys := ["stand", "pressed"]) (ix := [1, 2]) (.of S {}) rfl S.nd rfl rfl (pi_tup (pe_slice sl_tup (pv 0) (po_some pe_int) po_none)) (fun _ _ _ _ => pts_nil)
      (fun cl s3 H3 fp => pe_callD D hr (Nat.le_refl _) rfl (pa_cons (pv 0) (pa_cons (pv 1) (pa_cons (pv 2) pa_nil)))))
    (pss_cons (ps_if (pt_cmpR op_eq (pe_ix ix_tup (pv 0) pe_int (fun _ _ => rfl)) pe_str (nomark _)) (pss_one (ps_ret (pe_not (pe_ix ix_list (pv 3) pe_int (fun _ _ => rfl))))) pss_nil)
    (pss_cons (ps_if (pt_cmpR op_eq (pe_ix ix_tup (pv 0) pe_int (fun _ _ => rfl)) pe_str (nomark _)) (pss_one (ps_ret (pe_cmpR op_notIn_seq pe_bl (pv 3) rfl))) pss_nil)
    (pss_one (ps_ret (pe_cmpR op_in_seq pe_bl (pv 3) rfl)))))))), ?_⟩
  rcases seen hW with ⟨rfl⟩ | ⟨rfl⟩ | ⟨k, rfl⟩ | ⟨k, rfl⟩ | ⟨kd, ws, xs, p, hP⟩
  · obtain ⟨p, rfl, hp⟩ := hW
    refine ⟨_, rfl, p, _, _, _, rfl, rfl, SqT.of hp, at0 _ _, rfl, _, rfl, iteTh (by decide +kernel) (iteT ?_)⟩
    exact ⟨_, rfl, p, _, _, _, rfl, rfl, SqT.of hp, at0 _ _, rfl, q H (Same.refl _)⟩
  · obtain ⟨p, rfl, hp⟩ := hW
    refine ⟨_, rfl, p, _, _, _, rfl, rfl, SqT.of hp, at0 _ _, rfl, _, rfl, iteFh (by decide +kernel) ⟨_, rfl, p, _, _, _, rfl, rfl, SqT.of hp, at0 _ _, rfl, _, rfl, iteTh (by decide +kernel) ?_⟩⟩
    exact ⟨_, rfl, p, _, _, _, rfl, rfl, SqT.of hp, at0 _ _, rfl, q H (Same.refl _)⟩
  · obtain ⟨p, rfl, hp⟩ := hW
    refine ⟨_, rfl, p, _, _, _, rfl, rfl, SqT.of hp, at0 _ _, rfl, _, rfl, iteFh (by decide +kernel) ⟨_, rfl, p, _, _, _, rfl, rfl, SqT.of hp, at0 _ _, rfl, _, rfl, iteFh (by decide +kernel) ?_⟩⟩
    refine ⟨_, rfl, p, _, _, _, rfl, rfl, SqT.of hp, at0 _ _, rfl, _, rfl, iteTh (by decide +kernel) ?_⟩
    exact ⟨_, rfl, _, rfl, p, _, _, _, rfl, rfl, SqT.of hp, at1 _ _ _, a, _, _, _, rfl, rfl, SqT.of hA, bools_at hok.1 hok.2, q H (Same.refl _)⟩
  · obtain ⟨p, rfl, hp⟩ := hW
    refine ⟨_, rfl, p, _, _, _, rfl, rfl, SqT.of hp, at0 _ _, rfl, _, rfl, iteFh (by decide +kernel) ⟨_, rfl, p, _, _, _, rfl, rfl, SqT.of hp, at0 _ _, rfl, _, rfl, iteFh (by decide +kernel) ?_⟩⟩
    refine ⟨_, rfl, p, _, _, _, rfl, rfl, SqT.of hp, at0 _ _, rfl, _, rfl, iteFh (by decide +kernel) ⟨_, rfl, p, _, _, _, rfl, rfl, SqT.of hp, at0 _ _, rfl, _, rfl, iteTh (by decide +kernel) ?_⟩⟩
    exact ⟨_, rfl, _, rfl, p, _, _, _, rfl, rfl, SqT.of hp, at1 _ _ _, b, _, _, _, rfl, rfl, SqT.of hB, bools_at hok.1 hok.2, q H (Same.refl _)⟩
  · have hin := parts_in hP hok hdep
    obtain ⟨k1, k2, k3, k4⟩ := parts_kd hP
    obtain ⟨rfl, hp, hws, l1, l2, hk⟩ := hP
    refine ⟨_, rfl, p, _, _, _, rfl, rfl, SqT.of hp, at0 _ _, rfl, _, rfl, iteFh (decide_eq_false k1) ⟨_, rfl, p, _, _, _, rfl, rfl, SqT.of hp, at0 _ _, rfl, _, rfl, iteFh (decide_eq_false k2) ?_⟩⟩
    refine ⟨_, rfl, p, _, _, _, rfl, rfl, SqT.of hp, at0 _ _, rfl, _, rfl, iteFh (decide_eq_false k3) ⟨_, rfl, p, _, _, _, rfl, rfl, SqT.of hp, at0 _ _, rfl, _, rfl, iteFh (decide_eq_false k4) ?_⟩⟩
    have lx : xs.length = ws.length := hws.1
    have ec : cutV (.str kd :: xs) (some 1) none = xs := by
      have e1 : HT.sIx (xs.length + 1) 0 (some 1) = 1 := (HT.sIx_nat _ _ 1).trans (by omega)
      have e2 : HT.sIx (xs.length + 1) (xs.length + 1) none = xs.length + 1 := rfl
      unfold cutV
      rw [List.length_cons, e1, e2]
      simp
    refine ⟨_, rfl, _, rfl, p, _, rfl, SqT.of hp, ?_, fun p2 hp2 => ?_⟩
    · rw [List.length_cons]
      have e1 : HT.sIx (xs.length + 1) 0 (some 1) = 1 := (HT.sIx_nat _ _ 1).trans (by omega)
      rw [e1]
      omega
    rw [ec]
    have n2 := Same.new hp2 (.tup xs)
    refine ⟨p2, rfl, ⟨xs, SqT.of upd_same⟩, ?_⟩
    refine body_tup (SqT.of upd_same) (sz (by omega)) (fun i y H => ∃ x, ws[i]? = some x ∧ y = .bl (x.worth st pr)) (fun _ _ _ _ _ h => h) (fun i x H' R hx hS hR => ?_) (fun D' us H' hD hS hl hlen hG => ?_)
    · obtain ⟨wx, e1, e2⟩ := hws.2 i x hx
      have hwx := hin wx (List.mem_of_getElem? e1)
      exact ⟨_, rfl, _, rfl, _, rfl, x, wx, a, b, st, pr, rfl, e2.mono (n2.trans hS).tup, (n2.trans hS) _ _ hA, (n2.trans hS) _ _ hB, hwx.1, hwx.2, fun H2 s2 => hR _ _ s2 ⟨wx, e1, rfl⟩⟩
    have eu : us = ws.map fun x => V.bl (x.worth st pr) := list_ext (by rw [hlen, lx, List.length_map]) fun i y hy => by
      obtain ⟨x, e1, rfl⟩ := hG i y hy
      rw [List.getElem?_map, e1]
      rfl
    have hp' := (n2.trans hS) _ _ hp
    rcases hk with ⟨rfl, x, rfl, rfl⟩ | ⟨rfl, x, y, rfl, rfl⟩ | ⟨rfl, x, y, rfl, rfl⟩
    · refine ⟨_, rfl, p, _, _, _, rfl, rfl, SqT.of hp', at0 _ _, rfl, _, rfl, iteTh (by decide +kernel) ?_⟩
      exact ⟨_, rfl, D', _, _, _, rfl, rfl, SqL.of hl, by rw [eu]; exact at0 _ _, _, rfl, q _ (n2.trans hS)⟩
    · refine ⟨_, rfl, p, _, _, _, rfl, rfl, SqT.of hp', at0 _ _, rfl, _, rfl, iteFh (by decide +kernel) ?_⟩
      refine ⟨_, rfl, p, _, _, _, rfl, rfl, SqT.of hp', at0 _ _, rfl, _, rfl, iteTh (by decide +kernel) ?_⟩
      refine ⟨_, rfl, D', us, rfl, .inl (SqL.of hl), rfl, by rw [eu]; rfl, ?_⟩
      have e : (!inV (V.bl false) us) = (Wd.an x y).worth st pr := by
        rw [eu]
        show (!(inV (V.bl false) [V.bl (x.worth st pr), V.bl (y.worth st pr)])) = (x.worth st pr && y.worth st pr)
        cases x.worth st pr <;> cases y.worth st pr <;> rfl
      have e' := q _ (n2.trans hS)
      rw [← e] at e'
      exact e'
    · refine ⟨_, rfl, p, _, _, _, rfl, rfl, SqT.of hp', at0 _ _, rfl, _, rfl, iteFh (by decide +kernel) ?_⟩
      refine ⟨_, rfl, p, _, _, _, rfl, rfl, SqT.of hp', at0 _ _, rfl, _, rfl, iteFh (by decide +kernel) ?_⟩
      refine ⟨_, rfl, D', us, rfl, .inl (SqL.of hl), rfl, by rw [eu]; rfl, ?_⟩
      have e : inV (V.bl true) us = (Wd.or x y).worth st pr := by
        rw [eu]
        show inV (V.bl true) [V.bl (x.worth st pr), V.bl (y.worth st pr)] = (x.worth st pr || y.worth st pr)
        cases x.worth st pr <;> cases y.worth st pr <;> rfl
      have e' := q _ (n2.trans hS)
      rw [← e] at e'
      exact e'
theorem ok_lworth (F : Fun K "_law_worth" "_law_worth" sLWorth f fd) (b : Binds K fd ["word", "stand", "pressed"] []) (m : mg "_law_worth" = some (.ref f)) : ∀ n : Nat, FnOk P w K mg base CX0 (n + 1) f fd ["word", "stand", "pressed"] (spLWorth n)
  | 0 => no_calls fun vs H Q E h => by
    obtain ⟨_, wd, _, _, _, _, _, _, _, _, _, hd, _⟩ := h
    have := depth_pos wd
    omega
  | n + 1 => step_lworth F ⟨f, fd, ok_lworth F b m n, b, F.kp, m⟩
theorem ok_can (F : Fun K "can_move" "can_move" sCanMove f fd) (d_worth : Callee P w K mg base "worth" 9 ["word", "stand", "pressed"] (spWorth 8)) : FnOk P w K mg base CX0 10 f fd ["board", "pressed", "stand", "relay"] (spCan K) := by
  have S : FnScope ["board", "pressed", "stand", "relay"] ["board", "pressed", "stand", "relay"] (defScope sCanMove) := ⟨rfl, rfl, rfl, by decide +kernel, rfl, by decide +kernel, by decide +kernel⟩
  refine F.ok S (fun vs H Q E h => ?_) (fun cdv A outer s H vs Q E hr h => ?_)
  · obtain ⟨D, b, a, ws, pr, st, k, rfl, _⟩ := h
    rfl
  obtain ⟨D, b, a, ws, pr, st, k, rfl, hB, hA, hl, hk, q⟩ := h
  refine ⟨_, (pss_one (ps_ret (pe_cmpR op_ne (pe_callD d_worth hr (by omega) rfl (pa_cons (pe_ix (ix_listK (K := K) rfl) (pv 0) (pv 3) (fun _ _ => rfl)) (pa_cons (pv 2) (pa_cons (pv 1) pa_nil)))) (pe_ix (ix_tupK (K := K) rfl) (pv 2) (pv 3) (fun _ _ => rfl)) (nomark _)))), ?_⟩
  obtain ⟨us, v, u1, u2, u3, u4, u5, u6⟩ := hB.at hk
  have hk' : (k : Int) < st.length := by omega
  refine ⟨_, rfl, _, rfl, D, us, k, v, rfl, rfl, u1, u3, _, rfl, _, rfl, v, _, a, b, st, pr, rfl, u4, hA, hB.p, (by rw [hl]; exact u5), u6, ?_⟩
  refine ⟨_, rfl, _, rfl, a, _, k, _, rfl, rfl, SqT.of hA, bools_at (by omega) hk', rfl, ?_⟩
  rw [dec_bl]
  exact q
theorem ok_movable (F : Fun K "movable" "movable" sMovable f fd) (d_can_move : Callee P w K mg base "can_move" 10 ["board", "pressed", "stand", "relay"] (spCan K)) (n_len : mg "len" = none) (n_range : mg "range" = none) : FnOk P w K mg base CX0 11 f fd ["board", "pressed", "stand"] (spMovable K) := by
  have S : FnScope ["board", "pressed", "stand"] ["board", "pressed", "stand"] (defScope sMovable) := ⟨rfl, rfl, rfl, by decide +kernel, rfl, by decide +kernel, by decide +kernel⟩
  refine F.ok S (fun vs H Q E h => ?_) (fun cdv A outer s H vs Q E hr h => ?_)
  · obtain ⟨D, b, a, ws, pr, st, rfl, _⟩ := h
    rfl
  obtain ⟨D, b, a, ws, pr, st, rfl, hB, hA, hl, q⟩ := h
  refine ⟨_, (pss_one (ps_ret (pe_comp (ys := ["board", "pressed", "stand"]) (ix := [0, 1, 2]) (.of S {}) rfl (pi_range1 rfl n_range (pa_cons (pe_callB (call_len_seqK (K := K) rfl) rfl n_len PySem.boot_len (pa_cons (pv 0) pa_nil)) pa_nil)) (fun cl s3 H3 fp => pts_one (pt_val (pe_callD d_can_move hr (by omega) rfl (pa_cons (pv 1) (pa_cons (pv 2) (pa_cons (pv 3) (pa_cons (pv 0) pa_nil))))))) (fun cl s3 H3 fp => (pv 0))))), ?_⟩
  obtain ⟨us, u1, u2⟩ := hB.l
  have hn := hB.n
  have hlu := u2.1
  refine ⟨_, rfl, D, us, rfl, .inl u1, us.length, rfl, by omega, by omega, ?_⟩
  refine body_rngF (by exact sz (by omega)) (canM ws pr st) (fun i y H => y = .int i) (fun _ _ _ _ _ h => h) (fun i H2 R hi s2 hR => ?_) (fun i H2 R hi hk s2 hR => ?_) (fun l ys H2 hl0 s2 hl2 hP => ?_)
  · have e0 : (0 : Int) + (i : Int) = (i : Int) := by omega
    rw [e0]
    refine ⟨_, rfl, _, rfl, _, rfl, _, rfl, D, b, a, ws, pr, st, i, rfl, hB.mono s2, s2 _ _ hA, hl, by omega, ?_⟩
    exact ⟨_, rfl, hR _ (Same.refl _)⟩
  · exact ⟨_, rfl, hR _ _ (Same.refl _) (by rw [Int.zero_add])⟩
  · refine q l H2 hl0 s2 ?_
    rw [hl2, paired_map hP]
    unfold nats movs
    rw [← hlu]
    simp
theorem ok_moved (F : Fun K "moved" "moved" sMoved f fd) : FnOk P w K mg base CX0 1 f fd ["stand", "relay"] spMoved := by
  have S : FnScope ["stand", "relay"] ["stand", "relay"] (defScope sMoved) := ⟨rfl, rfl, rfl, by decide +kernel, rfl, by decide +kernel, by decide +kernel⟩
  refine F.ok S (fun vs H Q E h => ?_) (fun cdv A outer s H vs Q E hr h => ?_)
  · obtain ⟨a, st, k, rfl, _⟩ := h
    rfl
  obtain ⟨a, st, k, rfl, hA, hk, hn, q⟩ := h
  refine ⟨_, (pss_one (ps_ret (pe_op op_catA (pe_op op_catA (pe_slice (sl_tupK (K := K) rfl) (pv 0) po_none (po_some (pv 1))) (pe_tup (pa_cons (pe_not (pe_ix (ix_tupK (K := K) rfl) (pv 0) (pv 1) (fun _ _ => rfl))) pa_nil))) (pe_slice (sl_tupK (K := K) rfl) (pv 0) (po_some (pe_op op_add (pv 1) pe_int)) po_none)))), ?_⟩
  have hm : (st.map V.bl).length = st.length := List.length_map _
  refine ⟨_, rfl, _, rfl, _, rfl, a, _, rfl, SqT.of hA, ?_, fun p1 h1 => ?_⟩
  · rw [hm, HT.sIx_nat]; omega
  rw [cut_take _ _ (by rw [hm]; omega)]
  have n1 := Same.new h1 (.tup ((st.map V.bl).take k))
  refine ⟨_, rfl, _, rfl, a, _, k, _, rfl, rfl, SqT.of (n1 _ _ hA), bools_at (by omega) (by omega), _, rfl, (by show 1 ≤ sizeLine; decide), fun p2 h2 => ?_⟩
  have n2 := Same.new h2 (.tup [.bl (!st.getD k false)])
  refine ⟨p1, p2, _, _, rfl, rfl, n2 _ _ upd_same, upd_same, ?_, fun p3 H3 s3 h3 => ?_⟩
  · rw [List.length_take, hm]; exact sz (by simp; omega)
  refine ⟨_, rfl, _, rfl, _, _, rfl, rfl, _, rfl, a, _, rfl, SqT.of (s3 _ _ (n2 _ _ (n1 _ _ hA))), ?_, fun p4 h4 => ?_⟩
  · have e : ((k : Int) + 1) = ((k + 1 : Nat) : Int) := by omega
    rw [e, hm, HT.sIx_nat]; omega
  rw [show ((k : Int) + 1) = ((k + 1 : Nat) : Int) from by omega, cut_drop _ _ (by rw [hm]; omega)]
  have n4 := Same.new h4 (.tup ((st.map V.bl).drop (k + 1)))
  refine ⟨p3, p4, _, _, rfl, rfl, n4 _ _ h3, upd_same, ?_, fun p5 H5 s5 h5 => q p5 H5 (n1.trans (n2.trans (s3.trans (n4.trans s5)))) ?_⟩
  · rw [List.length_append, List.length_take, List.length_drop, hm]; exact sz (by simp; omega)
  show H5 p5 = some (.tup ((flip st k).map V.bl))
  rw [h5]
  unfold flip
  rw [List.set_eq_take_append_cons_drop, if_pos hk]
  simp
theorem ok_leads (F : Fun K "leads_down" "leads_down" sLeadsDown f fd) (n_all : mg "all" = none) : FnOk P w K mg base CX0 1 f fd ["paper", "here", "onward"] (spLeads K) := by
  have S : FnScope ["paper", "here", "onward"] ["paper", "here", "onward"] (defScope sLeadsDown) := ⟨rfl, rfl, rfl, by decide +kernel, rfl, by decide +kernel, by decide +kernel⟩
  refine F.ok S (fun vs H Q E h => ?_) (fun cdv A outer s H vs Q E hr h => ?_)
  · obtain ⟨d, b, l, n, N, t, rs, us, rfl, _⟩ := h
    rfl
  obtain ⟨d, b, l, n, N, t, rs, us, rfl, hd, hnum, hb, hn, hl, hR, hlen, q⟩ := h
  refine ⟨_, (pss_one (ps_ret (pe_callB (call_allB (K := K) rfl rfl) rfl n_all PyProof.Rows.boot_all (pa_cons (pe_comp (ys := ["paper", "here"]) (ix := [0, 1]) (.of S {}) rfl (pi_list (pv 2)) (fun _ _ _ _ => pts_nil) (fun cl s3 H3 fp => (pe_and (pe_cmp (pc_din (hu_of hr) (pv 0) (pv 1)) rfl) (pe_one (pe_cmpR op_lt (pe_dget (hu_of hr) (pv 1) (pv 0) (fun _ _ => rfl)) (pe_dget (hu_of hr) (pv 1) (pv 2) (fun _ _ => rfl)) (nomark _)))))) pa_nil)))), ?_⟩
  have rd : ∀ {H' : Hp}, Same H H' → Rd H' d (sD N) := fun s' => by
    rcases hd with h | ⟨o, h⟩
    · exact .inl (s' _ _ h)
    · exact .inr ⟨o, s' _ _ h⟩
  refine ⟨_, rfl, l, rfl, ⟨us, SqL.of hl⟩, ?_⟩
  refine body_list (SqL.of hl) (sz (by omega)) (fun i y H => ∃ r, rs[i]? = some r ∧ y = .bl (lowB N n r)) (fun _ _ _ _ _ h => h) (fun i x H1 R hx s1 hR1 => ?_) (fun l2 us2 H2 l20 s2 h2 hlen2 hG2 => ?_)
  · obtain ⟨r, hr0, a, rfl, ha⟩ := paired_get hR hx
    have ha1 := s1 _ _ ha
    refine ⟨_, rfl, _, rfl, d, _, rfl, getS (rd s1) ha1, _, rfl, ?_⟩
    cases hv : valV N r with
    | none =>
      refine iteF (hR1 _ _ (Same.refl _) ⟨r, hr0, ?_⟩)
      unfold lowB numOf
      rw [hv]
    | some v =>
      obtain ⟨j, rfl⟩ := hnum _ _ (valV_some hv)
      refine iteT ⟨_, rfl, _, rfl, d, .int j, rfl, by rw [← hv]; exact getS (rd s1) ha1, _, rfl, _, rfl, d, .int n, rfl, by rw [← hn]; exact getS (rd s1) (s1 _ _ hb), _, _, rfl, rfl, hR1 _ _ (Same.refl _) ⟨r, hr0, ?_⟩⟩
      unfold lowB numOf
      rw [hv]
  · have hlr := Paired.length hR
    have e2 : us2 = (rs.map (lowB N n)).map V.bl := list_ext (by rw [hlen2]; simp [hlr]) fun i y hy => by
      obtain ⟨r, hr0, rfl⟩ := hG2 i y hy
      simp [hr0]
    refine ⟨l2, rs.map (lowB N n), rfl, SqL.of (by rw [h2, e2]), ?_⟩
    have : (rs.map (lowB N n)).all id = rs.all (lowB N n) := by rw [List.all_map]; rfl
    rw [this]
    exact q _ s2
theorem ok_shows (F : Fun K "shows" "shows" sShows f fd) (d_movable : Callee P w K mg base "movable" 11 ["board", "pressed", "stand"] (spMovable K)) (d_moved : Callee P w K mg base "moved" 1 ["stand", "relay"] spMoved) (d_leads_down : Callee P w K mg base "leads_down" 1 ["paper", "here", "onward"] (spLeads K)) : FnOk P w K mg base CX0 12 f fd ["board", "pressed", "stand", "paper"] (spShows K) := by
  have S : FnScope ["board", "pressed", "stand", "paper", "ends", "here", "onward"] ["board", "pressed", "stand", "paper"] (defScope sShows) := ⟨rfl, rfl, rfl, by decide +kernel, rfl, by decide +kernel, by decide +kernel⟩
  refine F.ok S (fun vs H Q E h => ?_) (fun cdv A outer s H vs Q E hr h => ?_)
  · obtain ⟨D, b, a, d, o, ws, pr, st, N, rfl, _⟩ := h
    rfl
  obtain ⟨D, b, a, d, o, ws, pr, st, N, rfl, hB, hA, hd, hN, q⟩ := h
  refine ⟨_, (pss_cons (ps_if (pt_cmp (pc_dnotin (hu_of hr) (pv 2) (pv 3)) rfl) (pss_one (ps_ret pe_bl)) pss_nil)
    (pss_cons (ps_set (i := 4) S.nd rfl (Or.inl rfl) pe_int)
    (pss_cons (ps_for PassesOwn.never rfl (pi_dict (pv 3)) (pg_name (i := 5) S.nd rfl (Or.inr rfl)) (pss_cons (ps_setC (i := 6) (ys := ["here"]) (ix := [5]) (.of S {}) rfl S.nd rfl rfl (pi_list (pe_callD d_movable hr (by omega) rfl (pa_cons (pv 0) (pa_cons (pv 1) (pa_cons (pv 5) pa_nil))))) (fun _ _ _ _ => pts_nil) (fun cl s3 H3 fp => (pe_callD d_moved hr (by omega) rfl (pa_cons (pv 1) (pa_cons (pv 0) pa_nil)))))
    (pss_cons (ps_if (PW.pt (pw_or (pt_cmpR op_lt (pe_dget (hu_of hr) (pv 3) (pv 5) (fun _ _ => rfl)) pe_int (nomark _)) (pw_or1 (pt_not (pt_val (pe_callD d_leads_down hr (by omega) rfl (pa_cons (pv 3) (pa_cons (pv 5) (pa_cons (pv 6) pa_nil))))))))) (pss_one (ps_ret pe_bl)) pss_nil)
    (pss_one (ps_if (pt_not (pt_truthK (K := K) rfl (pv 6) (fun _ => rfl))) (pss_one (ps_aug (i := 4) S.nd rfl (Or.inl rfl) pe_int ip_add)) pss_nil)))))
    (pss_one (ps_ret (pe_cmpR op_eq (pv 4) pe_int (nomark _))))))), ?_⟩
  have hn := hB.n
  have hN64 : N.length ≤ 64 := by
    have h1 := stands_le hN.nd hN.len
    have h2 := pow64 hn
    have h3 : (keysS N).length = N.length := List.length_map _
    omega
  refine ⟨_, rfl, _, rfl, d, _, rfl, getS (.inr ⟨o, hd⟩) hA, _, rfl, ?_⟩
  unfold showsB at q
  cases hv : valV N st with
  | none =>
    have hno : ¬ st ∈ keysS N := valV_none.mp hv
    refine iteT ?_
    have := q H (Same.refl _)
    rw [decide_eq_false hno] at this
    exact this
  | some v =>
    have hin : st ∈ keysS N := valV_isSome.mp (by rw [hv]; rfl)
    rw [decide_eq_true hin, Bool.true_and] at q
    refine iteF ⟨_, rfl, d, o, sP N, rfl, hd, ?_⟩
    refine for_dict (kvs := sP N) (fun i σ H' => ∃ o5 o6, σ = [some (.ref D), some (.ref b), some (.ref a), some (.ref d), some (.int (((N.take i).filter fun p => (movs ws pr p.1).isEmpty).length : Nat)), o5, o6] ∧ Same H H' ∧ (N.take i).all (okP ws pr N) = true)
      ⟨_, _, rfl, Same.refl _, rfl⟩ ?_ ?_ ?_
    · rintro i σ H' _ ⟨o5, o6, rfl, s1, _⟩
      exact s1 _ _ hd
    · rintro i kv e σ H1 hkv he ⟨o5, o6, rfl, s1, hall⟩
      obtain ⟨t, v, hm, rfl, hkt⟩ := sP_get hkv
      have het := kst_at he
      have htm : (t, v) ∈ N := List.mem_of_getElem? hm
      obtain ⟨n, rfl⟩ := hN.num t v htm
      have hval := valV_mem hN.nd htm
      have htl : t.length = ws.length := hN.len t (List.mem_map.mpr ⟨_, htm, rfl⟩)
      have htake : N.take (i + 1) = N.take i ++ [(t, V.int n)] := by rw [List.take_add_one, hm]; rfl
      -- the answer is False where it fails here
      have bad : okN ws pr N t n = false → ∀ H', Same H H' → Q (.bl false) H' := fun hb H' s' => by
        have := q H' s'
        have e1 : N.all (okP ws pr N) = false := by
          rw [List.all_eq_false]
          exact ⟨(t, .int n), htm, by show ¬ okN ws pr N t n = true; rw [hb]; decide⟩
        rw [e1] at this
        exact this
      refine ⟨_, rfl, _, rfl, _, rfl, D, b, e, ws, pr, t, rfl, hB.mono s1, het, htl, fun l H2 l0 s2 h2 => ⟨l, rfl, ⟨_, SqL.of h2⟩, ?_⟩⟩
      have hml := movs_len ws pr t
      have hnl := nats_len (movs ws pr t)
      refine body_list (SqL.of h2) (sz (by omega)) (fun i y H => ∃ k c, (movs ws pr t)[i]? = some k ∧ y = V.ref c ∧ BAt H c (flip t k)) (fun _ _ _ _ tt ⟨k, c, e1, e2, e3⟩ => ⟨k, c, e1, e2, tt _ _ e3⟩) (fun i' x H3 R hx s3 hR3 => ?_) (fun l4 us4 H4 l40 s4 h4 hlen4 hG4 => ?_)
      · obtain ⟨k, hk, rfl⟩ : ∃ k, (movs ws pr t)[i']? = some k ∧ x = .int (k : Nat) := by
          unfold nats at hx
          rw [List.getElem?_map] at hx
          cases ek : (movs ws pr t)[i']? with
          | none => rw [ek] at hx; cases hx
          | some k => rw [ek] at hx; cases hx; exact ⟨k, rfl, rfl⟩
        have hk' := (mem_movs.mp (List.mem_of_getElem? hk)).1
        exact ⟨_, rfl, _, rfl, e, t, k, rfl, s3 _ _ (s2 _ _ het), by omega, by omega, fun c H5 s5 h5 => hR3 _ _ s5 ⟨k, c, hk, rfl, h5⟩⟩
      have hR4 : RowsAt' H4 ((movs ws pr t).map (flip t)) us4 := paired_of_get (by rw [List.length_map]; omega) fun i' r u hr0 hu => by
        obtain ⟨k, c, e1, e2, e3⟩ := hG4 i' u hu
        rw [List.getElem?_map, e1] at hr0
        cases hr0
        exact ⟨c, e2, e3⟩
      have s4' := s1.trans (s2.trans s4)
      have het4 := s4 _ _ (s2 _ _ het)
      refine ⟨_, rfl, _, rfl, d, .int n, rfl, by rw [← hval]; exact getS (.inr ⟨o, s4' _ _ hd⟩) het4, _, _, rfl, rfl, _, rfl, ite2 (fun c => ?_) (fun c => ?_)⟩
      · have c' : n < 0 := of_decide_eq_true c
        refine iteT (bad ?_ _ s4')
        unfold okN
        rw [decide_eq_false (by omega)]
        rfl
      have c' : ¬ n < 0 := of_decide_eq_false (Bool.eq_false_iff.mpr c)
      have hall4 : ((movs ws pr t).map (flip t)).all (lowB N n) = okN ws pr N t n := by
        unfold okN
        rw [decide_eq_true (by omega), Bool.true_and, List.all_map]
        rfl
      refine ⟨_, rfl, _, rfl, _, rfl, d, e, l4, n, N, t, _, us4, rfl, .inr ⟨o, s4' _ _ hd⟩, hN.num, het4, hval, h4, hR4, by omega, fun H5 s5 => ?_⟩
      rw [hall4]
      refine ⟨_, rfl, ite2 (fun c2 => ?_) (fun c2 => ?_)⟩
      · exact bad (by simpa using c2) _ (s4'.trans s5)
      have hok : okN ws pr N t n = true := by simpa using c2
      have s5' := s4'.trans s5
      have hall' : (N.take (i + 1)).all (okP ws pr N) = true := by
        have h1 : okP ws pr N (t, V.int n) = true := hok
        rw [htake, List.all_append, hall]
        simp [h1]
      refine ⟨_, rfl, _, .inl ⟨us4, SqL.of (s5 _ _ h4), rfl⟩, ?_⟩
      have hemp : us4.isEmpty = (movs ws pr t).isEmpty := by
        cases us4 <;> cases hmv : movs ws pr t <;> simp_all
      rw [hemp]
      cases hmt : (movs ws pr t).isEmpty with
      | true =>
        refine iteT ⟨_, rfl, _, _, rfl, rfl, ?_⟩
        refine ⟨some (.ref e), some (.ref l4), ?_, s5', hall'⟩
        have : (((N.take (i + 1)).filter fun p => (movs ws pr p.1).isEmpty).length : Nat) = ((N.take i).filter fun p => (movs ws pr p.1).isEmpty).length + 1 := by
          rw [htake, List.filter_append]
          simp [hmt]
        rw [this]
        rfl
      | false =>
        refine iteF ⟨some (.ref e), some (.ref l4), ?_, s5', hall'⟩
        have : (((N.take (i + 1)).filter fun p => (movs ws pr p.1).isEmpty).length : Nat) = ((N.take i).filter fun p => (movs ws pr p.1).isEmpty).length := by
          rw [htake, List.filter_append]
          simp [hmt]
        rw [this]
        rfl
    · rintro σ H1 ⟨o5, o6, rfl, s1, hall⟩
      rw [sP_len, List.take_length] at hall
      refine ⟨_, rfl, rfl, ?_⟩
      have := q _ s1
      rw [hall, Bool.true_and] at this
      rw [sP_len, List.take_length, dec_int]
      have e1 : ((((N.filter fun p => (movs ws pr p.1).isEmpty).length : Nat) : Int) == 1) = decide (endsB ws pr N = 1) := by
        unfold endsB
        rw [Bool.beq_eq_decide_eq]
        exact decide_eq_decide.mpr (by omega)
      rw [e1]
      exact this
theorem ok_lmovable (F : Fun K "_law_movable" "_law_movable" sLMovable f fd) (d_law_worth : Callee P w K mg base "_law_worth" 9 ["word", "stand", "pressed"] (spLWorth 8)) (n_len : mg "len" = none) (n_range : mg "range" = none) : FnOk P w K mg base CX0 10 f fd ["board", "pressed", "stand"] (spMovable K) := by
  have S : FnScope ["board", "pressed", "stand"] ["board", "pressed", "stand"] (defScope sLMovable) := ⟨rfl, rfl, rfl, by decide +kernel, rfl, by decide +kernel, by decide +kernel⟩
  refine F.ok S (fun vs H Q E h => ?_) (fun cdv A outer s H vs Q E hr h => ?_)
  · obtain ⟨D, b, a, ws, pr, st, rfl, _⟩ := h
    rfl
  obtain ⟨D, b, a, ws, pr, st, rfl, hB, hA, hl, q⟩ := h
  refine ⟨_, (pss_one (ps_ret (pe_comp (ys := ["board", "pressed", "stand"]) (ix := [0, 1, 2]) (.of S {}) rfl (pi_range1 rfl n_range (pa_cons (pe_callB (call_len_seqK (K := K) rfl) rfl n_len PySem.boot_len (pa_cons (pv 0) pa_nil)) pa_nil)) (fun cl s3 H3 fp => pts_one (pt_cmpR op_ne (pe_callD d_law_worth hr (by omega) rfl (pa_cons (pe_ix (ix_listK (K := K) rfl) (pv 1) (pv 0) (fun _ _ => rfl)) (pa_cons (pv 3) (pa_cons (pv 2) pa_nil)))) (pe_ix (ix_tupK (K := K) rfl) (pv 3) (pv 0) (fun _ _ => rfl)) (nomark _))) (fun cl s3 H3 fp => (pv 0))))), ?_⟩
  obtain ⟨us, u1, u2⟩ := hB.l
  have hn := hB.n
  have hlu := u2.1
  refine ⟨_, rfl, D, us, rfl, .inl u1, us.length, rfl, by omega, by omega, ?_⟩
  refine body_rngF (by exact sz (by omega)) (canM ws pr st) (fun i y H => y = .int i) (fun _ _ _ _ _ h => h) (fun i H2 R hi s2 hR => ?_) (fun i H2 R hi hk s2 hR => ?_) (fun l ys H2 hl0 s2 hl2 hP => ?_)
  · have e0 : (0 : Int) + (i : Int) = (i : Int) := by omega
    rw [e0]
    have hB2 := hB.mono s2
    have hi' : i < ws.length := by omega
    obtain ⟨us', v, w1, w2, w3, w4, w5, w6⟩ := hB2.at hi'
    have hk' : (i : Int) < st.length := by omega
    refine ⟨_, rfl, _, rfl, D, us', i, v, rfl, rfl, w1, w3, _, rfl, _, rfl, v, _, a, b, st, pr, rfl, w4, s2 _ _ hA, hB2.p, (by rw [hl]; exact w5), w6, fun H3 s3 => ?_⟩
    refine ⟨_, rfl, _, rfl, a, _, i, _, rfl, rfl, SqT.of (s3 _ _ (s2 _ _ hA)), bools_at (by omega) hk', rfl, _, rfl, ?_⟩
    rw [dec_bl]
    exact hR _ s3
  · exact ⟨_, rfl, hR _ _ (Same.refl _) (by rw [Int.zero_add])⟩
  · refine q l H2 hl0 s2 ?_
    rw [hl2, paired_map hP]
    unfold nats movs
    rw [← hlu]
    simp
theorem ok_lmoved (F : Fun K "_law_moved" "_law_moved" sLMoved f fd) (n_len : mg "len" = none) (n_range : mg "range" = none) (n_tuple : mg "tuple" = none) : FnOk P w K mg base CX0 1 f fd ["stand", "relay"] spMoved := by
  have S : FnScope ["stand", "relay"] ["stand", "relay"] (defScope sLMoved) := ⟨rfl, rfl, rfl, by decide +kernel, rfl, by decide +kernel, by decide +kernel⟩
  refine F.ok S (fun vs H Q E h => ?_) (fun cdv A outer s H vs Q E hr h => ?_)
  · obtain ⟨a, st, k, rfl, _⟩ := h
    rfl
  obtain ⟨a, st, k, rfl, hA, hk, hn, q⟩ := h
  refine ⟨_, (pss_one (ps_ret (pe_callTy call_tuple_of rfl n_tuple PyProof.Rows.boot_tuple (pa_cons (pe_comp (ys := ["stand", "relay"]) (ix := [0, 1]) (.of S {}) rfl (pi_range1 rfl n_range (pa_cons (pe_callB (call_len_seqK (K := K) rfl) rfl n_len PySem.boot_len (pa_cons (pv 0) pa_nil)) pa_nil)) (fun _ _ _ _ => pts_nil) (fun cl s3 H3 fp => (pe_cmpR op_ne (pe_ix (ix_tupK (K := K) rfl) (pv 1) (pv 0) (fun _ _ => rfl)) (pe_cmpR op_eq (pv 0) (pv 2) (nomark _)) (nomark _)))) pa_nil)))), ?_⟩
  have hm : (st.map V.bl).length = st.length := List.length_map _
  refine ⟨_, rfl, a, _, rfl, .inr (SqT.of hA), _, rfl, by omega, by omega, ?_⟩
  refine body_rng (by exact sz (by omega)) (fun i y H => y = .bl ((flip st k).getD i false)) (fun _ _ _ _ _ h => h) (fun i H2 R hi s2 hR => ?_) (fun l ys H2 hl0 s2 hl2 hlen hG => ?_)
  · have e0 : (0 : Int) + (i : Int) = (i : Int) := by omega
    rw [e0]
    have hi' : (i : Int) < st.length := by omega
    refine ⟨_, rfl, _, rfl, a, _, i, _, rfl, rfl, SqT.of (s2 _ _ hA), bools_at (by omega) hi', _, rfl, _, rfl, rfl, rfl, ?_⟩
    refine hR _ _ (Same.refl _) ?_
    refine congrArg V.bl ?_
    rw [dec_bl, flip_getD hk, dec_int]
    have e2 : (((i : Nat) : Int) == ((k : Nat) : Int)) = decide (i = k) := by
      rw [Bool.beq_eq_decide_eq]; exact decide_eq_decide.mpr (by omega)
    rw [e2, Int.toNat_natCast]
    by_cases c : i = k
    · subst c; simp
    · simp [c]
  · refine ⟨l, ys, rfl, .inl ⟨SqL.of hl2, fun p hp => q p _ (s2.trans (Same.new hp _)) ?_⟩⟩
    show upd H2 p (.tup ys) p = _
    rw [upd_same]
    have e : ys = (flip st k).map V.bl := list_ext (by rw [List.length_map, flip_len, hlen, hm]; simp) fun i y hy => by
      have hi : i < (flip st k).length := by have := (List.getElem?_eq_some_iff.mp hy).1; rw [flip_len]; simp at hlen; omega
      rw [hG i y hy]
      simp [hi]
    rw [e]
theorem ok_reach (F : Fun K "_law_reach" "_law_reach" sLReach f fd) (d_law_movable : Callee P w K mg base "_law_movable" 10 ["board", "pressed", "stand"] (spMovable K)) (d_law_moved : Callee P w K mg base "_law_moved" 1 ["stand", "relay"] spMoved) (n_list : mg "list" = none) : FnOk P w K mg base CX0 11 f fd ["board", "pressed", "stand"] (spReach K) := by
  have S : FnScope ["board", "pressed", "stand", "seen", "left", "here", "relay", "then"] ["board", "pressed", "stand"] (defScope sLReach) := ⟨rfl, rfl, rfl, by decide +kernel, rfl, by decide +kernel, by decide +kernel⟩
  refine F.ok S (fun vs H Q E h => ?_) (fun cdv A outer s H vs Q E hr h => ?_)
  · obtain ⟨D, b, a, ws, pr, st, rfl, _⟩ := h
    rfl
  obtain ⟨D, b, a, ws, pr, st, rfl, hB, hA, hl, q⟩ := h
  refine ⟨_, (pss_cons (ps_set (i := 3) S.nd rfl (Or.inl rfl) (pe_disp1 (hu_of hr) (pv 2) pe_bl))
    (pss_cons (ps_set (i := 4) S.nd rfl (Or.inl rfl) (pe_lst (pa_cons (pv 2) pa_nil)))
    (pss_cons (ps_while PassesOwn.never (pt_cmpR (op_neD (K := K) rfl hr.units) (pv 4) (pe_lst pa_nil) (nomark _)) (pss_cons (ps_set (i := 5) S.nd rfl (Or.inl rfl) (pe_bm0 PySem.F.plainAttrs_list PySem.F.slot_list_pop PySem.F.type_list_pop mt_pop (pv 4)))
    (pss_one (ps_for PassesOwn.never rfl (pi_list (pe_callD d_law_movable hr (by omega) rfl (pa_cons (pv 0) (pa_cons (pv 1) (pa_cons (pv 5) pa_nil))))) (pg_name (i := 6) S.nd rfl (Or.inl rfl)) (pss_cons (ps_set (i := 7) S.nd rfl (Or.inl rfl) (pe_callD d_law_moved hr (by omega) rfl (pa_cons (pv 5) (pa_cons (pv 6) pa_nil))))
    (pss_one (ps_if (pt_cmp (pc_dnotin (hu_of hr) (pv 7) (pv 3)) rfl) (pss_cons (ps_dput (hu_of hr) (pv 3) (pv 7) pe_bl rfl)
    (pss_one (ps_expr (pe_bm PySem.F.plainAttrs_list PySem.F.slot_list_append PySem.F.type_list_append mt_append (pv 4) (pa_cons (pv 7) pa_nil))))) pss_nil)))))))
    (pss_one (ps_ret (pe_callTy (call_listT rfl) rfl n_list PyProof.Rows.boot_list (pa_cons (pv 3) pa_nil))))))), ?_⟩
  have hn := hB.n
  have h64 : 2 ^ st.length ≤ 64 := pow64 (by omega)
  intro d hd
  have n1 := Same.new hd (.dT [])
  refine ⟨_, rfl, upd_same, a, kst st, rfl, by rw [kst_kV]; exact n1 _ _ hA, ?_⟩
  have s1 : Same H (upd (upd H d (.dT [])) d (.dT [(kst st, .bl true)])) := n1.updNew hd
  have hd1 : upd (upd H d (.dT [])) d (.dT [(kst st, .bl true)]) d = some (sD [(st, .bl true)]) := upd_same
  generalize upd (upd H d (.dT [])) d (.dT [(kst st, .bl true)]) = H1 at s1 hd1
  refine ⟨_, rfl, (by show 1 ≤ sizeLine; decide), fun e he => ?_⟩
  have n2 := Same.new he (.lst [.ref a])
  have he0 : H e = none := s1.free he
  have hde : d ≠ e := ne_of_none hd1 he
  have hlenm : ∀ m : List (List Bool × V), (keysS m).Nodup → (∀ x ∈ keysS m, Reach ws pr st x) → m.length ≤ 64 := fun m nd h => by
    have := stands_le (n := st.length) nd fun x hx => (h x hx).len
    unfold keysS at this
    rw [List.length_map] at this
    omega
  refine ⟨fun n σ H' => ∃ m dl us o5 o6 o7, σ = [some (.ref D), some (.ref b), some (.ref a), some (.ref d), some (.ref e), o5, o6, o7] ∧ Same H H' ∧ H' d = some (sD m) ∧ H' e = some (.lst us) ∧ RowsAt' H' dl us ∧ Seen2 ws pr st m dl ∧ n = 2 * (64 - m.length) + dl.length,
    ⟨_, [(st, .bl true)], [st], [.ref a], _, _, _, rfl, s1.trans n2, n2 _ _ hd1, upd_same, .cons ⟨a, rfl, (s1.trans n2) _ _ hA⟩ .nil, ⟨by simp [keysS], fun x hx => ?_, by simp [keysS], fun x hx => by simpa [keysS] using hx, fun t ht => .inl (by simpa [keysS] using ht), by simp⟩, rfl⟩, ?_⟩
  · have : x = st := by simpa [keysS] using hx
    subst this
    exact .refl
  rintro n σ H2 ⟨m, dl, us, o5, o6, o7, rfl, s2, hd2, he2, hR, hG, rfl⟩
  have hml := hlenm m hG.nd hG.rch
  refine ⟨_, rfl, (by show 0 ≤ sizeLine; decide), fun z hz => ?_⟩
  have n3 := Same.new hz (.lst [])
  refine eqD_of (rowsD_at (SqL.of (n3 _ _ he2)) (hR.mono n3.tup)) (emptyD_at upd_same) (goodRows _) (goodNats _) (eqv_rows_nil _) ⟨_, rfl, ite2 (fun c => ?_) (fun c => ?_)⟩
  · obtain ⟨us', y, rfl⟩ : ∃ us' y, us = us' ++ [y] := by
      cases us with
      | nil => cases hR; cases c
      | cons x xs => exact ⟨_, _, (List.dropLast_concat_getLast (l := x :: xs) (by simp)).symm⟩
    obtain ⟨dl', s, rfl, hR', sa, rfl, hsa⟩ := paired_snoc_inv hR
    refine ⟨fun σ' H' => ∃ n', n' < 2 * (64 - m.length) + (dl' ++ [s]).length ∧ ∃ m dl us o5 o6 o7, σ' = [some (.ref D), some (.ref b), some (.ref a), some (.ref d), some (.ref e), o5, o6, o7] ∧ Same H H' ∧ H' d = some (sD m) ∧ H' e = some (.lst us) ∧ RowsAt' H' dl us ∧ Seen2 ws pr st m dl ∧ n' = 2 * (64 - m.length) + dl.length, fun σ' H' h => h, ?_⟩
    have he3 := n3 _ _ he2
    have hd3 := n3 _ _ hd2
    have hsa3 := n3 _ _ hsa
    have hR3 := RowsAt'.mono hR' n3.tup
    have s3 := s2.trans n3
    generalize upd H2 z (.lst []) = H3 at n3 he3 hd3 hsa3 hR3 s3
    refine ⟨_, rfl, .inl ⟨rfl, _, SqL.of he3⟩, e, us' ++ [.ref sa], .ref sa, rfl, rfl, he3, by simp, ?_⟩
    rw [List.dropLast_concat]
    have t4 : TupLe H3 (upd H3 e (.lst us')) := tup_upd fun xs z => by rw [he3] at z; cases z
    have s4 : Same H (upd H3 e (.lst us')) := s3.updNew he0
    have hd4 : upd H3 e (.lst us') d = some (sD m) := by rw [upd_ne hde]; exact hd3
    have he4 : upd H3 e (.lst us') e = some (.lst us') := upd_same
    have hR4 := RowsAt'.mono hR3 t4
    have hsa4 := t4 _ _ hsa3
    generalize upd H3 e (.lst us') = H4 at t4 s4 hd4 he4 hR4 hsa4
    clear hR hR' hR3 he3 hd3 hsa3 n3 t4
    have hsm : s ∈ keysS m := hG.left s (by simp)
    have hsr := hG.rch s hsm
    have hsl := hsr.len
    refine ⟨_, rfl, _, rfl, _, rfl, D, b, sa, ws, pr, s, rfl, hB.mono s4, hsa4, by omega, fun l H5 l0 s5 h5 => ⟨l, rfl, ⟨_, SqL.of h5⟩, ?_⟩⟩
    have hnl := nats_len (movs ws pr s)
    have hle : l ≠ e := fun z => by rw [z, he4] at l0; cases l0
    have hld : l ≠ d := fun z => by rw [z, hd4] at l0; cases l0
    have hlen0 : dl'.length + 1 ≤ m.length := by have := hG.len; simpa using this
    refine for_list (xs := nats (movs ws pr s)) (fun i σ H' => ∃ m' dl us o6 o7, σ = [some (.ref D), some (.ref b), some (.ref a), some (.ref d), some (.ref e), some (.ref sa), o6, o7] ∧ Same H H' ∧ H' l = some (.lst (nats (movs ws pr s))) ∧ BAt H' sa s ∧ H' d = some (sD m') ∧ H' e = some (.lst us) ∧ RowsAt' H' dl us ∧
        (keysS m').Nodup ∧ (∀ x ∈ keysS m', Reach ws pr st x) ∧ st ∈ keysS m' ∧ s ∈ keysS m' ∧ (∀ x ∈ dl, x ∈ keysS m') ∧ (∀ t ∈ keysS m', t = s ∨ t ∈ dl ∨ ∀ k ∈ movs ws pr t, flip t k ∈ keysS m') ∧ (∀ j, j < i → ∀ k, (movs ws pr s)[j]? = some k → flip s k ∈ keysS m') ∧ dl.length + 1 ≤ m'.length ∧ 2 * (64 - m'.length) + dl.length ≤ 2 * (64 - m.length) + dl'.length)
      ⟨m, dl', us', _, _, rfl, s4.trans s5, h5, s5 _ _ hsa4, s5 _ _ hd4, s5 _ _ he4, hR4.mono s5.tup, hG.nd, hG.rch, hG.start, hsm, fun x hx => hG.left x (by simp [hx]), fun t ht => ?_, fun j hj => absurd hj (Nat.not_lt_zero _), hlen0, Nat.le_refl _⟩ ?_ ?_ ?_
    · rcases hG.done t ht with h | h
      · rcases List.mem_append.mp h with h | h
        · exact .inr (.inl h)
        · exact .inl (by simpa using h)
      · exact .inr (.inr h)
    · rintro i σ H' _ ⟨m', dl, us, o6, o7, rfl, _, hl', _⟩
      exact SqL.of hl'
    · rintro i x σ H6 hx ⟨m', dl, us, o6, o7, rfl, s6, hl6, hsa6, hd6, he6, hR6, g1, g2, g3, g4, g5, g6, g7, g8, g9⟩
      obtain ⟨k, hk, rfl⟩ : ∃ k, (movs ws pr s)[i]? = some k ∧ x = .int (k : Nat) := by
        unfold nats at hx
        rw [List.getElem?_map] at hx
        cases ek : (movs ws pr s)[i]? with
        | none => rw [ek] at hx; cases hx
        | some k => rw [ek] at hx; cases hx; exact ⟨k, rfl, rfl⟩
      have hmem := List.mem_of_getElem? hk
      have hk' := (mem_movs.mp hmem).1
      have hml6 := hlenm m' g1 g2
      refine ⟨_, rfl, _, rfl, sa, s, k, rfl, hsa6, by omega, by omega, fun c H7 s7 hc => ?_⟩
      have next : ∀ mm : List (List Bool × V), (∀ y, y ∈ keysS m' → y ∈ keysS mm) → flip s k ∈ keysS mm → ∀ j, j < i + 1 → ∀ k, (movs ws pr s)[j]? = some k → flip s k ∈ keysS mm := fun mm hsub hnew j hj k' hk' => by
        by_cases cj : j < i
        · exact hsub _ (g7 j cj k' hk')
        · have : j = i := by omega
          subst this
          rw [hk] at hk'
          cases hk'
          exact hnew
      refine ⟨_, rfl, _, rfl, d, _, rfl, getS (.inl (s7 _ _ hd6)) hc, _, rfl, ?_⟩
      cases hv : valV m' (flip s k) with
      | some v =>
        have hin : flip s k ∈ keysS m' := valV_isSome.mp (by rw [hv]; rfl)
        exact iteF ⟨m', dl, us, _, _, rfl, s6.trans s7, s7 _ _ hl6, s7 _ _ hsa6, s7 _ _ hd6, s7 _ _ he6, hR6.mono s7.tup, g1, g2, g3, g4, g5, g6, next m' (fun y h => h) hin, g8, g9⟩
      | none =>
        have hout : flip s k ∉ keysS m' := valV_none.mp hv
        refine iteT ⟨_, rfl, _, rfl, d, _, rfl, putS (s7 _ _ hd6) hc (small1000 (by omega)), ?_⟩
        rw [keys_put_new hout]
        have hd7 := s7 _ _ hd6
        have he7 := s7 _ _ he6
        have hl7 := s7 _ _ hl6
        have t8 : TupLe H7 (upd H7 d (sD (m' ++ [(flip s k, .bl true)]))) := tup_upd fun xs z => by rw [hd7] at z; cases z
        have s8 : Same H (upd H7 d (sD (m' ++ [(flip s k, .bl true)]))) := (s6.trans s7).updNew hd
        have hd8 : upd H7 d (sD (m' ++ [(flip s k, .bl true)])) d = some (sD (m' ++ [(flip s k, .bl true)])) := upd_same
        have he8 : upd H7 d (sD (m' ++ [(flip s k, .bl true)])) e = some (.lst us) := by rw [upd_ne (Ne.symm hde)]; exact he7
        have hl8 : upd H7 d (sD (m' ++ [(flip s k, .bl true)])) l = some (.lst (nats (movs ws pr s))) := by rw [upd_ne hld]; exact hl7
        have hR8 := hR6.mono (s7.tup.trans t8)
        have hc8 := t8 _ _ hc
        have hsa8 := t8 _ _ (s7 _ _ hsa6)
        generalize upd H7 d (sD (m' ++ [(flip s k, .bl true)])) = H8 at t8 s8 hd8 he8 hl8 hR8 hc8 hsa8
        have hlu : us.length = dl.length := (Paired.length hR8).symm
        refine ⟨_, rfl, .inl ⟨rfl, _, SqL.of he8⟩, _, rfl, e, us, _, rfl, rfl, he8, small1000 (by omega), ?_⟩
        have t9 : TupLe H8 (upd H8 e (.lst (us ++ [.ref c]))) := tup_upd fun xs z => by rw [he8] at z; cases z
        have hmem2 : ∀ y, y ∈ keysS (m' ++ [(flip s k, V.bl true)]) ↔ y ∈ keysS m' ∨ y = flip s k := fun y => by rw [keys_snoc, List.mem_append]; simp
        have hnd9 : (keysS (m' ++ [(flip s k, V.bl true)])).Nodup := by rw [keys_snoc]; exact nodup_snoc g1 hout
        have hre9 : ∀ x ∈ keysS (m' ++ [(flip s k, V.bl true)]), Reach ws pr st x := fun x hx => by
          rcases (hmem2 x).mp hx with h | rfl
          · exact g2 x h
          · exact .step hsr hmem
        have hml9 := hlenm _ hnd9 hre9
        refine ⟨m' ++ [(flip s k, .bl true)], dl ++ [flip s k], us ++ [.ref c], _, _, rfl, s8.updNew he0, by rw [upd_ne hle]; exact hl8, t9 _ _ hsa8, by rw [upd_ne hde]; exact hd8, upd_same, Paired.snoc (hR8.mono t9) ⟨c, rfl, t9 _ _ hc8⟩, hnd9, hre9, (hmem2 _).mpr (.inl g3), (hmem2 _).mpr (.inl g4), fun x hx => ?_, fun t ht => ?_, next _ (fun y h => (hmem2 _).mpr (.inl h)) ((hmem2 _).mpr (.inr rfl)), by simp; omega, ?_⟩
        · rcases List.mem_append.mp hx with h | h
          · exact (hmem2 _).mpr (.inl (g5 x h))
          · exact (hmem2 _).mpr (.inr (by simpa using h))
        · rcases (hmem2 t).mp ht with h | rfl
          · rcases g6 t h with h | h | h
            · exact .inl h
            · exact .inr (.inl (by simp [h]))
            · exact .inr (.inr fun k' hk' => (hmem2 _).mpr (.inl (h k' hk')))
          · exact .inr (.inl (by simp))
        · simp at hml9 ⊢
          omega
    · rintro σ H6 ⟨m', dl, us, o6, o7, rfl, s6, hl6, hsa6, hd6, he6, hR6, g1, g2, g3, g4, g5, g6, g7, g8, g9⟩
      refine ⟨_, ?_, m', dl, us, _, _, _, rfl, s6, hd6, he6, hR6, ⟨g1, g2, g3, g5, fun t ht => ?_, by omega⟩, rfl⟩
      · simp; omega
      · rcases g6 t ht with rfl | h | h
        · refine .inr fun k hk => ?_
          obtain ⟨j, hj, ej⟩ := List.mem_iff_getElem.mp hk
          exact g7 j (by omega) k (by rw [List.getElem?_eq_getElem hj, ej])
        · exact .inl h
        · exact .inr h
  · have hdl : dl = [] := by
      cases dl with
      | nil => rfl
      | cons x xs => exact absurd rfl c
    subst hdl
    have hd3 := n3 _ _ hd2
    refine ⟨_, rfl, d, _, rfl, .inl hd3, fun l ys hl0 hys => ?_⟩
    have n4 := Same.new hl0 (.lst ys)
    refine q l (keysS m) ys _ (s2.free (n3.free hl0)) (s2.trans (n3.trans n4)) upd_same (RowsAt'.mono (rows_of_list hys) n4.tup) hG.nd fun x => ⟨hG.rch x, fun hx => Reach.closed hG.start (fun t ht k hk => ?_) hx⟩
    rcases hG.done t ht with h | h
    · cases h
    · exact h k hk
theorem ok_lshows (F : Fun K "_law_shows" "_law_shows" sLShows f fd) (d_law_movable : Callee P w K mg base "_law_movable" 10 ["board", "pressed", "stand"] (spMovable K)) (d_law_moved : Callee P w K mg base "_law_moved" 1 ["stand", "relay"] spMoved) (n_list : mg "list" = none) (n_int : mg "int" = none) : FnOk P w K mg base CX0 11 f fd ["board", "pressed", "stand", "paper"] (spLShows K) := by
  have S : FnScope ["board", "pressed", "stand", "paper", "ends", "one", "can", "relay", "then"] ["board", "pressed", "stand", "paper"] (defScope sLShows) := ⟨rfl, rfl, rfl, by decide +kernel, rfl, by decide +kernel, by decide +kernel⟩
  refine F.ok S (fun vs H Q E h => ?_) (fun cdv A outer s H vs Q E hr h => ?_)
  · obtain ⟨D, b, a, d, ws, pr, st, N, rfl, _⟩ := h
    rfl
  obtain ⟨D, b, a, d, ws, pr, st, N, rfl, hB, hA, hd, hN, hnn, q⟩ := h
  refine ⟨_, (pss_cons (ps_if (pt_cmp (pc_dnotin (hu_of hr) (pv 2) (pv 3)) rfl) (pss_one (ps_ret pe_bl)) pss_nil)
    (pss_cons (ps_set (i := 4) S.nd rfl (Or.inl rfl) pe_int)
    (pss_cons (ps_for PassesOwn.never rfl (pi_list (pe_callTy (call_listT rfl) rfl n_list PyProof.Rows.boot_list (pa_cons (pv 3) pa_nil))) (pg_name (i := 5) S.nd rfl (Or.inl rfl)) (pss_cons (ps_set (i := 6) S.nd rfl (Or.inl rfl) (pe_callD d_law_movable hr (by omega) rfl (pa_cons (pv 0) (pa_cons (pv 1) (pa_cons (pv 5) pa_nil)))))
    (pss_cons (ps_set (i := 4) S.nd rfl (Or.inl rfl) (pe_op op_add (pv 4) (pe_callTy call_int1 rfl n_int PyProof.Rows.boot_int (pa_cons (pe_cmpR (op_eqD (K := K) rfl hr.units) (pv 6) (pe_lst pa_nil) (nomark _)) pa_nil))))
    (pss_one (ps_for PassesOwn.never rfl (pi_list (pv 6)) (pg_name (i := 7) S.nd rfl (Or.inl rfl)) (pss_cons (ps_set (i := 8) S.nd rfl (Or.inl rfl) (pe_callD d_law_moved hr (by omega) rfl (pa_cons (pv 5) (pa_cons (pv 7) pa_nil))))
    (pss_one (ps_if (PW.pt (pw_or (pt_cmp (pc_dnotin (hu_of hr) (pv 8) (pv 3)) rfl) (pw_or1 (pt_cmpR op_ge (pe_dget (hu_of hr) (pv 3) (pv 8) (fun _ _ => rfl)) (pe_dget (hu_of hr) (pv 3) (pv 5) (fun _ _ => rfl)) (nomark _))))) (pss_one (ps_ret pe_bl)) pss_nil))))))))
    (pss_one (ps_ret (pe_cmpR op_eq (pv 4) pe_int (nomark _))))))), ?_⟩
  have hn := hB.n
  have hN64 : N.length ≤ 64 := by
    have h1 := stands_le hN.nd hN.len
    have h2 := pow64 hn
    have h3 : (keysS N).length = N.length := List.length_map _
    omega
  refine ⟨_, rfl, _, rfl, d, _, rfl, getS hd hA, _, rfl, ?_⟩
  unfold showsB at q
  cases hv : valV N st with
  | none =>
    have hno : ¬ st ∈ keysS N := valV_none.mp hv
    refine iteT ?_
    have := q H (Same.refl _)
    rw [decide_eq_false hno] at this
    exact this
  | some v =>
    have hin : st ∈ keysS N := valV_isSome.mp (by rw [hv]; rfl)
    rw [decide_eq_true hin, Bool.true_and] at q
    refine iteF ⟨_, rfl, d, sP N, rfl, hd, fun l0 ys hl0 hys => ⟨l0, rfl, ⟨_, SqL.of upd_same⟩, ?_⟩⟩
    have n0 := Same.new hl0 (.lst ys)
    have hR0 := RowsAt'.mono (rows_of_list hys) n0.tup
    have hlys : ys.length = N.length := by rw [← Paired.length hR0]; exact List.length_map _
    have e0 : upd H l0 (.lst ys) l0 = some (.lst ys) := upd_same
    generalize upd H l0 (.lst ys) = H0 at n0 hR0 e0
    refine for_list (xs := ys) (fun i σ H' => ∃ o5 o6 o7 o8, σ = [some (.ref D), some (.ref b), some (.ref a), some (.ref d), some (.int (((N.take i).filter fun p => (movs ws pr p.1).isEmpty).length : Nat)), o5, o6, o7, o8] ∧ Same H0 H' ∧ (N.take i).all (okP ws pr N) = true)
      ⟨_, _, _, _, rfl, Same.refl _, rfl⟩ ?_ ?_ ?_
    · rintro i σ H' _ ⟨o5, o6, o7, o8, rfl, s1, _⟩
      exact SqL.of (s1 _ _ e0)
    · rintro i x σ H1 hx ⟨o5, o6, o7, o8, rfl, s1', hall⟩
      obtain ⟨t, hm0, e, rfl, het0⟩ := paired_get hR0 hx
      have het := s1' _ _ het0
      have s1 := n0.trans s1'
      obtain ⟨v, hm⟩ : ∃ v, N[i]? = some (t, v) := by
        unfold keysS at hm0
        rw [List.getElem?_map] at hm0
        cases ek : N[i]? with
        | none => rw [ek] at hm0; cases hm0
        | some p => rw [ek] at hm0; cases hm0; exact ⟨p.2, rfl⟩
      have htm : (t, v) ∈ N := List.mem_of_getElem? hm
      obtain ⟨n, rfl⟩ := hnn t v htm
      have hval := valV_mem hN.nd htm
      have htl : t.length = ws.length := hN.len t (List.mem_map.mpr ⟨_, htm, rfl⟩)
      have htake : N.take (i + 1) = N.take i ++ [(t, V.int n)] := by rw [List.take_add_one, hm]; rfl
      have bad : okN ws pr N t n = false → ∀ H', Same H H' → Q (.bl false) H' := fun hb H' s' => by
        have := q H' s'
        have e1 : N.all (okP ws pr N) = false := by
          rw [List.all_eq_false]
          exact ⟨(t, .int n), htm, by show ¬ okN ws pr N t n = true; rw [hb]; decide⟩
        rw [e1] at this
        exact this
      refine ⟨_, rfl, _, rfl, _, rfl, D, b, e, ws, pr, t, rfl, hB.mono s1, het, htl, fun l H2 l0 s2 h2 => ⟨_, rfl, _, rfl, (by show 0 ≤ sizeLine; decide), fun z hz => ?_⟩⟩
      have hml := movs_len ws pr t
      have hnl := nats_len (movs ws pr t)
      have n3 := Same.new hz (.lst [])
      refine eqD_of (natsD_at (SqL.of (n3 _ _ h2))) (emptyD_at upd_same) (goodNats _) (goodNats _) (eqv_empty _) (.inr ⟨_, rfl, _, _, rfl, rfl, _, rfl, l, rfl, ⟨_, SqL.of (n3 _ _ h2)⟩, ?_⟩)
      have h3 := n3 _ _ h2
      have s3 := s1.trans (s2.trans n3)
      have s3' := s1'.trans (s2.trans n3)
      have het3 := n3 _ _ (s2 _ _ het)
      generalize upd H2 z (.lst []) = H3 at n3 h3 s3 s3' het3
      refine for_list (xs := nats (movs ws pr t)) (fun j σ H' => ∃ o7 o8, σ = [some (.ref D), some (.ref b), some (.ref a), some (.ref d), some (.int ((((N.take i).filter fun p => (movs ws pr p.1).isEmpty).length : Nat) + (if (movs ws pr t).isEmpty = true then 1 else 0))), some (.ref e), some (.ref l), o7, o8] ∧ Same H3 H' ∧ ∀ j', j' < j → ∀ k, (movs ws pr t)[j']? = some k → lowB N n (flip t k) = true)
        ⟨_, _, rfl, Same.refl _, fun j' h => absurd h (Nat.not_lt_zero _)⟩ ?_ ?_ ?_
      · rintro j σ H' _ ⟨o7, o8, rfl, s4, _⟩
        exact SqL.of (s4 _ _ h3)
      · rintro j x σ H4 hx ⟨o7, o8, rfl, s4, hlow⟩
        obtain ⟨k, hk, rfl⟩ : ∃ k, (movs ws pr t)[j]? = some k ∧ x = .int (k : Nat) := by
          unfold nats at hx
          rw [List.getElem?_map] at hx
          cases ek : (movs ws pr t)[j]? with
          | none => rw [ek] at hx; cases hx
          | some k => rw [ek] at hx; cases hx; exact ⟨k, rfl, rfl⟩
        have hmem := List.mem_of_getElem? hk
        have hk' := (mem_movs.mp hmem).1
        refine ⟨_, rfl, _, rfl, e, t, k, rfl, s4 _ _ het3, by omega, by omega, fun c H5 s5 h5 => ?_⟩
        have hd5 := rd_same hd (s3.trans (s4.trans s5))
        have badk : lowB N n (flip t k) = false → okN ws pr N t n = false := fun hb => by
          unfold okN
          rw [Bool.and_eq_false_iff]
          right
          rw [List.all_eq_false]
          exact ⟨k, hmem, by rw [hb]; decide⟩
        refine ⟨_, rfl, _, rfl, d, _, rfl, getS hd5 h5, _, rfl, ?_⟩
        cases hv2 : valV N (flip t k) with
        | none =>
          refine iteT (iteT (bad (badk ?_) _ (s3.trans (s4.trans s5))))
          unfold lowB numOf
          rw [hv2]
        | some v2 =>
          obtain ⟨n2, rfl⟩ := hnn _ _ (valV_some hv2)
          have elow : lowB N n (flip t k) = decide ((n2 : Int) < n) := by
            unfold lowB numOf
            rw [hv2]
          refine iteF ⟨_, rfl, _, rfl, d, .int n2, rfl, by rw [← hv2]; exact getS hd5 h5, _, rfl, _, rfl, d, .int n, rfl, by rw [← hval]; exact getS hd5 (s5 _ _ (s4 _ _ het3)), _, _, rfl, rfl, _, rfl, ite2 (fun c2 => ?_) (fun c2 => ?_)⟩
          · have c2' : (n : Int) ≤ n2 := of_decide_eq_true c2
            exact bad (badk (by rw [elow]; exact decide_eq_false (by omega))) _ (s3.trans (s4.trans s5))
          · have c2' : ¬ (n : Int) ≤ n2 := of_decide_eq_false (Bool.eq_false_iff.mpr c2)
            refine ⟨_, _, rfl, s4.trans s5, fun j' hj' k' hk' => ?_⟩
            by_cases cj : j' < j
            · exact hlow j' cj k' hk'
            · have : j' = j := by omega
              subst this
              rw [hk] at hk'
              cases hk'
              rw [elow]
              exact decide_eq_true (by omega)
      · rintro σ H4 ⟨o7, o8, rfl, s4, hlow⟩
        have hok : okN ws pr N t n = true := by
          unfold okN
          rw [decide_eq_true (by omega), Bool.true_and, List.all_eq_true]
          intro k hk
          obtain ⟨j, hj, ej⟩ := List.mem_iff_getElem.mp hk
          exact hlow j (by omega) k (by rw [List.getElem?_eq_getElem hj, ej])
        have hall' : (N.take (i + 1)).all (okP ws pr N) = true := by
          have h1 : okP ws pr N (t, V.int n) = true := hok
          rw [htake, List.all_append, hall]
          simp [h1]
        refine ⟨some (.ref e), some (.ref l), o7, o8, ?_, s3'.trans s4, hall'⟩
        have : ((((N.take (i + 1)).filter fun p => (movs ws pr p.1).isEmpty).length : Nat) : Int) = (((N.take i).filter fun p => (movs ws pr p.1).isEmpty).length : Nat) + (if (movs ws pr t).isEmpty = true then 1 else 0) := by
          rw [htake, List.filter_append]
          cases hmt : (movs ws pr t).isEmpty <;> simp [hmt]
        rw [this]
    · rintro σ H1 ⟨o5, o6, o7, o8, rfl, s1, hall⟩
      rw [hlys, List.take_length] at hall
      refine ⟨_, rfl, rfl, ?_⟩
      have := q _ (n0.trans s1)
      rw [hall, Bool.true_and] at this
      rw [hlys, List.take_length, dec_int]
      have e1 : ((((N.filter fun p => (movs ws pr p.1).isEmpty).length : Nat) : Int) == 1) = decide (endsB ws pr N = 1) := by
        unfold endsB
        rw [Bool.beq_eq_decide_eq]
        exact decide_eq_decide.mpr (by omega)
      rw [e1]
      exact this
theorem ints_of {ys : List V} (h : ∀ (i : Nat) (y : V), ys[i]? = some y → ∃ n : Int, y = V.int n) : ∃ ns : List Int, ys = ns.map V.int := by
  induction ys with
  | nil => exact ⟨[], rfl⟩
  | cons y ys ih =>
    obtain ⟨n, rfl⟩ := h 0 y rfl
    obtain ⟨ns, rfl⟩ := ih fun i y e => h (i + 1) y e
    exact ⟨n :: ns, rfl⟩
theorem flat_ints : ∀ ns : List Int, (ns.map V.int).all flatV = true
  | [] => rfl
  | n :: ns => by
    rw [List.map_cons, List.all_cons, flat_ints ns]
    rfl
theorem ok_paper (F : Fun K "_law_paper" "_law_paper" sLPaper f fd) (d_law_movable : Callee P w K mg base "_law_movable" 10 ["board", "pressed", "stand"] (spMovable K)) (d_law_moved : Callee P w K mg base "_law_moved" 1 ["stand", "relay"] spMoved) (d_law_reach : Callee P w K mg base "_law_reach" 11 ["board", "pressed", "stand"] (spReach K)) (n_max : mg "max" = none) (n_len : mg "len" = none) : FnOk P w K mg base CX0 12 f fd ["board", "pressed", "stand"] (spPaper8 K) := by
  have S : FnScope ["board", "pressed", "stand", "stands", "found", "more", "one", "after"] ["board", "pressed", "stand"] (defScope sLPaper) := ⟨rfl, rfl, rfl, by decide +kernel, rfl, by decide +kernel, by decide +kernel⟩
  refine F.ok S (fun vs H Q E h => ?_) (fun cdv A outer s H vs Q E hr h => ?_)
  · obtain ⟨D, b, a, ws, pr, st, rfl, _⟩ := h
    rfl
  obtain ⟨D, b, a, ws, pr, st, rfl, hB, hA, hl, q⟩ := h
  refine ⟨_, (pss_cons (ps_set (i := 3) S.nd rfl (Or.inl rfl) (pe_callD d_law_reach hr (by omega) rfl (pa_cons (pv 0) (pa_cons (pv 1) (pa_cons (pv 2) pa_nil)))))
    (pss_cons (ps_set (i := 4) S.nd rfl (Or.inr rfl) pe_dnewT)
    (pss_cons (ps_set (i := 5) S.nd rfl (Or.inl rfl) pe_bl)
    (pss_cons (ps_while PassesOwn.never (pt_val (pv 5)) (pss_cons (ps_set (i := 5) S.nd rfl (Or.inl rfl) pe_bl)
    (pss_one (ps_for PassesOwn.never rfl (pi_list (pv 3)) (pg_name (i := 6) S.nd rfl (Or.inr rfl)) (pss_cons (ps_setC (i := 7) (ys := ["found", "one"]) (ix := [4, 6]) (.of S {}) rfl S.nd rfl rfl (pi_list (pe_callD d_law_movable hr (by omega) rfl (pa_cons (pv 0) (pa_cons (pv 1) (pa_cons (pv 6) pa_nil))))) (fun _ _ _ _ => pts_nil) (fun cl s3 H3 fp => (pe_dget2 (hu_of hr) (pv 1) (pe_callD d_law_moved hr (by omega) rfl (pa_cons (pv 2) (pa_cons (pv 0) pa_nil))) (pe_un un_neg pe_int) ⟨rfl, rfl, rfl, rfl⟩)))
    (pss_one (ps_if (PW.pt (pw_and (pt_cmp (pc_dnotin (hu_of hr) (pv 6) (pv 4)) rfl) (pw_and1 (pt_cmpR (op_notIn_seqK (K := K) rfl) (pe_un un_neg pe_int) (pv 7) rfl)))) (pss_cons (ps_dput (hu_of hr) (pv 4) (pv 6) (pe_op op_add pe_int (pe_callB (call_maxL (K := K) rfl rfl) rfl n_max PyProof.Rows.boot_max (pa_cons (pe_op op_cat (pv 7) (pe_lst (pa_cons (pe_un un_neg pe_int) pa_nil))) pa_nil))) rfl)
    (pss_one (ps_set (i := 5) S.nd rfl (Or.inl rfl) pe_bl))) pss_nil)))))))
    (pss_cons (ps_for PassesOwn.never rfl (pi_list (pv 3)) (pg_name (i := 6) S.nd rfl (Or.inr rfl)) (pss_one (ps_if (pt_cmp (pc_dnotin (hu_of hr) (pv 6) (pv 4)) rfl) (pss_one (ps_dput (hu_of hr) (pv 4) (pv 6) (pe_callB call_lenT rfl n_len PySem.boot_len (pa_cons (pv 4) pa_nil)) rfl)) pss_nil)))
    (pss_one (ps_ret (pv 4)))))))), ?_⟩
  have hn := hB.n
  have h64 : 2 ^ st.length ≤ 64 := pow64 (by omega)
  refine ⟨_, rfl, _, rfl, _, rfl, D, b, a, ws, pr, st, rfl, hB, hA, hl, fun l ss us H1 l0 s1 h1 hR1 hnd hss d hd => ?_⟩
  have n1 := Same.new hd (.dT [])
  have hd0 : H d = none := s1.free hd
  have hld : l ≠ d := ne_of_none h1 hd
  have s2 := s1.trans n1
  have h2 := n1 _ _ h1
  have hR2 := hR1.mono n1.tup
  have hd2 : upd H1 d (.dT []) d = some (sD []) := upd_same
  generalize upd H1 d (.dT []) = H2 at n1 s2 h2 hR2 hd2
  have hlenm : ∀ m : List (List Bool × V), (keysS m).Nodup → (∀ x ∈ keysS m, Reach ws pr st x) → m.length ≤ 64 := fun m nd h => by
    have := stands_le (n := st.length) nd fun x hx => (h x hx).len
    unfold keysS at this
    rw [List.length_map] at this
    omega
  refine ⟨fun n σ H' => ∃ m c o6 o7, σ = [some (.ref D), some (.ref b), some (.ref a), some (.ref l), some (.ref d), some (.bl c), o6, o7] ∧ Same H H' ∧ H' l = some (.lst us) ∧ RowsAt' H' ss us ∧ H' d = some (sD m) ∧ (keysS m).Nodup ∧ (∀ x ∈ keysS m, Reach ws pr st x) ∧ NonNeg m ∧ n = 2 * (64 - m.length) + (if c = true then 1 else 0),
    ⟨_, [], true, _, _, rfl, s2, h2, hR2, hd2, List.nodup_nil, fun x hx => absurd hx (List.not_mem_nil), fun s v h => absurd h (List.not_mem_nil), rfl⟩, ?_⟩
  rintro n σ H3 ⟨m, c, o6, o7, rfl, s3, h3, hR3, hd3, hm1, hm2, hm3, rfl⟩
  refine ⟨_, rfl, _, rfl, ?_⟩
  cases c with
  | true =>
    refine iteT ⟨fun σ' H' => ∃ n', n' < 2 * (64 - m.length) + 1 ∧ ∃ m c o6 o7, σ' = [some (.ref D), some (.ref b), some (.ref a), some (.ref l), some (.ref d), some (.bl c), o6, o7] ∧ Same H H' ∧ H' l = some (.lst us) ∧ RowsAt' H' ss us ∧ H' d = some (sD m) ∧ (keysS m).Nodup ∧ (∀ x ∈ keysS m, Reach ws pr st x) ∧ NonNeg m ∧ n' = 2 * (64 - m.length) + (if c = true then 1 else 0), fun σ' H' h => h, ?_⟩
    refine ⟨_, rfl, l, rfl, ⟨_, SqL.of h3⟩, ?_⟩
    refine for_list (xs := us) (fun i σ H' => ∃ m' c' o6 o7, σ = [some (.ref D), some (.ref b), some (.ref a), some (.ref l), some (.ref d), some (.bl c'), o6, o7] ∧ Same H H' ∧ H' l = some (.lst us) ∧ RowsAt' H' ss us ∧ H' d = some (sD m') ∧ (keysS m').Nodup ∧ (∀ x ∈ keysS m', Reach ws pr st x) ∧ NonNeg m' ∧ m.length ≤ m'.length ∧ (c' = true → m.length < m'.length))
      ⟨m, false, _, _, rfl, s3, h3, hR3, hd3, hm1, hm2, hm3, Nat.le_refl _, fun h => by cases h⟩ ?_ ?_ ?_
    · rintro i σ H' _ ⟨m', c', o6, o7, rfl, _, h4, _⟩
      exact SqL.of h4
    · rintro i x σ H4 hx ⟨m', c', o6, o7, rfl, s4, h4, hR4, hd4, g1, g2, g3, g4, g5⟩
      obtain ⟨t, ht0, e, rfl, het⟩ := paired_get hR4 hx
      have htr := (hss t).mp (List.mem_of_getElem? ht0)
      have htl : t.length = ws.length := by rw [htr.len, hl]
      refine ⟨_, rfl, _, rfl, _, rfl, D, b, e, ws, pr, t, rfl, hB.mono s4, het, htl, fun l2 H5 l20 s5 h5 => ⟨l2, rfl, ⟨_, SqL.of h5⟩, ?_⟩⟩
      have hml := movs_len ws pr t
      have hnl := nats_len (movs ws pr t)
      have hd5 := s5 _ _ hd4
      refine body_list (SqL.of h5) (sz (by omega)) (fun _ y _ => ∃ n : Int, y = V.int n) (fun _ _ _ _ _ h => h) (fun i' x H6 R hx s6 hR6 => ?_) (fun l7 us7 H7 l70 s7 h7 hlen7 hG7 => ?_)
      · obtain ⟨k, hk, rfl⟩ : ∃ k, (movs ws pr t)[i']? = some k ∧ x = .int (k : Nat) := by
          unfold nats at hx
          rw [List.getElem?_map] at hx
          cases ek : (movs ws pr t)[i']? with
          | none => rw [ek] at hx; cases hx
          | some k => rw [ek] at hx; cases hx; exact ⟨k, rfl, rfl⟩
        have hk' := (mem_movs.mp (List.mem_of_getElem? hk)).1
        refine ⟨_, rfl, d, rfl, .inr ⟨_, .inl (s6 _ _ hd5)⟩, _, rfl, _, rfl, e, t, k, rfl, s6 _ _ (s5 _ _ het), by omega, by omega, fun c8 H8 s8 h8 => ⟨1, rfl, _, getS (.inl (s8 _ _ (s6 _ _ hd5))) h8, hR6 _ _ s8 ?_⟩⟩
        cases hv : valV m' (flip t k) with
        | none => exact ⟨-1, rfl⟩
        | some v =>
          obtain ⟨n, rfl⟩ := g3 _ _ (valV_some hv)
          exact ⟨n, rfl⟩
      obtain ⟨ns, rfl⟩ := ints_of hG7
      have s7' := s4.trans (s5.trans s7)
      have hd7 := s7 _ _ hd5
      have het7 := s7 _ _ (s5 _ _ het)
      have h47 := s7 _ _ (s5 _ _ h4)
      have hR7 := hR4.mono (s5.trans s7).tup
      have hl7d : l7 ≠ d := fun z => by rw [z, hd5] at l70; cases l70
      refine ⟨_, rfl, _, rfl, d, _, rfl, getS (.inl hd7) het7, _, rfl, ?_⟩
      cases hv : valV m' t with
      | some v => exact iteF (iteF ⟨m', c', _, _, rfl, s7', h47, hR7, hd7, g1, g2, g3, g4, g5⟩)
      | none =>
        have hout : t ∉ keysS m' := valV_none.mp hv
        refine iteT ⟨1, rfl, _, rfl, l7, _, rfl, .inl (SqL.of h7), rfl, flat_ints _, _, rfl, ite2 (fun cc => ?_) (fun cc => ?_)⟩
        · refine ⟨_, rfl, 1, rfl, (by show 1 ≤ sizeLine; decide), fun z hz => ?_⟩
          have n8 := Same.new hz (.lst [.int (-1)])
          have hlns : (ns.map V.int).length ≤ 6 := by rw [hlen7, hnl]; omega
          refine ⟨l7, z, ns.map V.int, [.int (-1)], rfl, rfl, n8 _ _ h7, upd_same, small1000 (by simp at hlns ⊢; omega), fun y hy => ?_⟩
          have n9 := Same.new hy (.lst (ns.map V.int ++ [.int (-1)]))
          refine ⟨y, ns ++ [-1], rfl, SqL.of (by rw [List.map_append]; exact upd_same), by simp, fun mx hmx hle => ⟨1, mx, rfl, rfl, _, rfl, _, rfl, d, _, rfl, putS (n9 _ _ (n8 _ _ hd7)) (n9 _ _ (n8 _ _ het7)) (small1000 (by have := hlenm m' g1 g2; omega)), ?_⟩⟩
          have hge : -1 ≤ mx := hle (-1) (by simp)
          rw [keys_put_new hout]
          have s9 := s7'.trans (n8.trans n9)
          have hd9 := n9 _ _ (n8 _ _ hd7)
          have h49 := n9 _ _ (n8 _ _ h47)
          have hR9 := hR7.mono (n8.trans n9).tup
          generalize upd (upd H7 z (.lst [.int (-1)])) y (.lst (ns.map V.int ++ [.int (-1)])) = H9 at n9 s9 hd9 h49 hR9
          have hmem2 : ∀ y, y ∈ keysS (m' ++ [(t, V.int (1 + mx))]) ↔ y ∈ keysS m' ∨ y = t := fun y => by rw [keys_snoc, List.mem_append]; simp
          refine ⟨m' ++ [(t, .int (1 + mx))], true, _, _, rfl, s9.updNew hd0, by rw [upd_ne hld]; exact h49, hR9.mono (tup_upd fun xs z => by rw [hd9] at z; cases z), upd_same, by rw [keys_snoc]; exact nodup_snoc g1 hout, fun x hx => ?_, fun x v hx => ?_, by simp; omega, fun _ => by simp; omega⟩
          · rcases (hmem2 x).mp hx with h | rfl
            · exact g2 x h
            · exact htr
          · rcases List.mem_append.mp hx with h | h
            · exact g3 x v h
            · simp at h
              obtain ⟨rfl, rfl⟩ := h
              exact ⟨(1 + mx).toNat, by rw [Int.toNat_of_nonneg (by omega)]⟩
        · exact ⟨m', c', _, _, rfl, s7', h47, hR7, hd7, g1, g2, g3, g4, g5⟩
    · rintro σ H4 ⟨m', c', o6, o7, rfl, s4, h4, hR4, hd4, g1, g2, g3, g4, g5⟩
      have hle := hlenm m' g1 g2
      refine ⟨_, ?_, m', c', _, _, rfl, s4, h4, hR4, hd4, g1, g2, g3, rfl⟩
      cases c' with
      | true =>
        have := g5 rfl
        simp
        omega
      | false =>
        simp
        omega
  | false =>
    refine iteF ⟨_, rfl, l, rfl, ⟨_, SqL.of h3⟩, ?_⟩
    refine for_list (xs := us) (fun i σ H' => ∃ m' o6 o7, σ = [some (.ref D), some (.ref b), some (.ref a), some (.ref l), some (.ref d), some (.bl false), o6, o7] ∧ Same H H' ∧ H' l = some (.lst us) ∧ RowsAt' H' ss us ∧ H' d = some (sD m') ∧ (keysS m').Nodup ∧ (∀ x ∈ keysS m', Reach ws pr st x) ∧ NonNeg m' ∧ ∀ j, j < i → ∀ t, ss[j]? = some t → t ∈ keysS m')
      ⟨m, _, _, rfl, s3, h3, hR3, hd3, hm1, hm2, hm3, fun j h => absurd h (Nat.not_lt_zero _)⟩ ?_ ?_ ?_
    · rintro i σ H' _ ⟨m', o6, o7, rfl, _, h4, _⟩
      exact SqL.of h4
    · rintro i x σ H4 hx ⟨m', o6, o7, rfl, s4, h4, hR4, hd4, g1, g2, g3, g4⟩
      obtain ⟨t, ht0, e, rfl, het⟩ := paired_get hR4 hx
      have htr := (hss t).mp (List.mem_of_getElem? ht0)
      have next : ∀ mm : List (List Bool × V), (∀ y, y ∈ keysS m' → y ∈ keysS mm) → t ∈ keysS mm → ∀ j, j < i + 1 → ∀ k, ss[j]? = some k → k ∈ keysS mm := fun mm hsub hnew j hj k' hk' => by
        by_cases cj : j < i
        · exact hsub _ (g4 j cj k' hk')
        · have : j = i := by omega
          subst this
          rw [ht0] at hk'
          cases hk'
          exact hnew
      refine ⟨_, rfl, _, rfl, d, _, rfl, getS (.inl hd4) het, _, rfl, ?_⟩
      cases hv : valV m' t with
      | some v => exact iteF ⟨m', _, _, rfl, s4, h4, hR4, hd4, g1, g2, g3, next m' (fun y h => h) (valV_isSome.mp (by rw [hv]; rfl))⟩
      | none =>
        have hout : t ∉ keysS m' := valV_none.mp hv
        refine iteT ⟨_, rfl, d, _, rfl, .inl hd4, _, rfl, _, rfl, d, _, rfl, putS hd4 het (small1000 (by have := hlenm m' g1 g2; omega)), ?_⟩
        rw [keys_put_new hout]
        have hmem2 : ∀ v y, y ∈ keysS (m' ++ [(t, v)]) ↔ y ∈ keysS m' ∨ y = t := fun v y => by rw [keys_snoc, List.mem_append]; simp
        refine ⟨m' ++ [(t, _)], _, _, rfl, s4.updNew hd0, by rw [upd_ne hld]; exact h4, hR4.mono (tup_upd fun xs z => by rw [hd4] at z; cases z), upd_same, by rw [keys_snoc]; exact nodup_snoc g1 hout, fun x hx => ?_, fun x v hx => ?_, next _ (fun y h => (hmem2 _ _).mpr (.inl h)) ((hmem2 _ _).mpr (.inr rfl))⟩
        · rcases (hmem2 _ x).mp hx with h | rfl
          · exact g2 x h
          · exact htr
        · rcases List.mem_append.mp hx with h | h
          · exact g3 x v h
          · simp only [List.mem_singleton, Prod.mk.injEq] at h
            obtain ⟨rfl, rfl⟩ := h
            exact ⟨_, rfl⟩
    · rintro σ H4 ⟨m', o6, o7, rfl, s4, h4, hR4, hd4, g1, g2, g3, g4⟩
      have hst : st ∈ keysS m' := by
        have h := (hss st).mpr .refl
        obtain ⟨j, hj, ej⟩ := List.mem_iff_getElem.mp h
        exact g4 j (by rw [← Paired.length hR4]; exact hj) st (by rw [List.getElem?_eq_getElem hj, ej])
      refine ⟨_, rfl, q d m' H4 hd0 s4 hd4 ⟨g1, fun x hx => by rw [(g2 x hx).len, hl], fun x v hx => ?_⟩ g3 ?_⟩
      · obtain ⟨n, rfl⟩ := g3 x v hx
        exact ⟨_, rfl⟩
      · unfold keysS at hst
        cases m' with
        | nil => cases hst
        | cons _ _ => simp
theorem ok_spoilt8 (F : Fun K "_law_spoilt" "_law_spoilt" sLSpoilt f fd) (d_law_bits : Callee P w K mg base "_law_bits" 1 ["number", "size"] spBits) (n_dict : mg "dict" = none) (n_sorted : mg "sorted" = none) (n_list : mg "list" = none) (n_len : mg "len" = none) : FnOk P w K mg base CX0 12 f fd ["paper", "size", "cell"] spSpoilt8 := by
  have S : FnScope ["paper", "size", "cell", "found", "rows", "one", "other"] ["paper", "size", "cell"] (defScope sLSpoilt) := ⟨rfl, rfl, rfl, by decide +kernel, rfl, by decide +kernel, by decide +kernel⟩
  refine F.ok S (fun vs H Q E h => ?_) (fun cdv A outer s H vs Q E hr h => ?_)
  · obtain ⟨d, n, c, N, rfl, _⟩ := h
    rfl
  obtain ⟨d, n, c, N, rfl, hd, hn1, hn6, hN, hnn, hne, q⟩ := h
  refine ⟨_, (pss_cons (ps_set (i := 3) S.nd rfl (Or.inl rfl) (pe_callTy call_dictD rfl n_dict PyProof.Rows.boot_dict (pa_cons (pv 0) pa_nil)))
    (pss_cons (ps_set (i := 4) S.nd rfl (Or.inl rfl) (pe_callB (call_sortedT (K := K) rfl) rfl n_sorted PyProof.Rows.boot_sorted (pa_cons (pe_callTy (call_listT rfl) rfl n_list PyProof.Rows.boot_list (pa_cons (pv 3) pa_nil)) pa_nil)))
    (pss_cons (ps_set (i := 5) S.nd rfl (Or.inl rfl) (pe_ix (ix_listK (K := K) rfl) (pv 4) (pe_op op_mod (pe_op op_fdiv (pv 2) pe_int) (pe_callB (call_len_seqK (K := K) rfl) rfl n_len PySem.boot_len (pa_cons (pv 4) pa_nil))) (fun _ _ => rfl)))
    (pss_cons (ps_set (i := 6) S.nd rfl (Or.inl rfl) (pe_callD d_law_bits hr (by omega) rfl (pa_cons (pe_op op_fdiv (pv 2) pe_int) (pa_cons (pv 1) pa_nil))))
    (pss_cons (ps_join (ps_if (pt_cmpR op_eq (pe_op op_mod (pv 2) pe_int) pe_int (nomark _)) (pss_one (ps_expr (pe_bm PySem.F.plainAttrs_dict PySem.F.slot_dict_pop PySem.F.type_dict_pop (mt_popD (hu_of hr)) (pv 3) (pa_cons (pv 5) pa_nil)))) pss_nil))
    (pss_cons (ps_join (ps_if (pt_cmpR op_eq (pe_op op_mod (pv 2) pe_int) pe_int (nomark _)) (pss_one (ps_dput (hu_of hr) (pv 3) (pv 5) (pe_op op_mod (pe_op op_fdiv (pv 2) pe_int) pe_int) rfl)) pss_nil))
    (pss_cons (ps_join (ps_if (pt_cmpR op_eq (pe_op op_mod (pv 2) pe_int) pe_int (nomark _)) (pss_one (ps_dput (hu_of hr) (pv 3) (pv 6) (pe_op op_mod (pe_op op_fdiv (pv 2) pe_int) pe_int) rfl)) pss_nil))
    (pss_cons (ps_join (ps_if (pt_cmpR op_eq (pe_op op_mod (pv 2) pe_int) pe_int (nomark _)) (pss_one (ps_set (i := 3) S.nd rfl (Or.inl rfl) pe_dnewT)) pss_nil))
    (pss_one (ps_ret (pv 3))))))))))), ?_⟩
  have hl64 := nums_le hN hn6
  refine ⟨_, rfl, d, sP N, n, rfl, hd, row_keys hN, hn6, by rw [sP_len]; omega, fun d1 hd1 => ?_⟩
  have n1 := Same.new hd1 (.dT (sP N))
  have e1 : upd H d1 (.dT (sP N)) d1 = some (sD N) := upd_same
  generalize upd H d1 (.dT (sP N)) = H1 at n1 e1
  refine ⟨_, rfl, d1, sP N, rfl, .inl e1, fun l ys hl0 hys => ?_⟩
  have n2 := Same.new hl0 (.lst ys)
  have hR2 := RowsAt'.mono (rows_of_list hys) n2.tup
  have e2 : upd H1 l (.lst ys) l = some (.lst ys) := upd_same
  have hly : N.length = ys.length := by
    have := Paired.length hR2
    unfold keysS at this
    rw [List.length_map] at this
    exact this
  generalize upd H1 l (.lst ys) = H2 at n2 hR2 e2
  obtain ⟨as, rfl, has⟩ := refs_of hR2
  rw [List.length_map] at hly
  refine ⟨l, as, rfl, SqL.of e2, fun x hx => ?_, fun z => ?_, by omega, fun D as' hD0 hperm => ?_⟩
  · obtain ⟨t, h1, h2⟩ := has x hx
    refine ⟨t, h2, fun z => ?_⟩
    have := hN.len t h1
    rw [z] at this
    simp at this
    omega
  · rw [z, List.length_nil] at hly
    omega
  have n3 := Same.new hD0 (.lst (as'.map V.ref))
  have e3 : upd H2 D (.lst (as'.map V.ref)) D = some (.lst (as'.map V.ref)) := upd_same
  have hla := hperm.length_eq
  have has3 : ∀ a ∈ as', ∃ s ∈ keysS N, BAt (upd H2 D (.lst (as'.map V.ref))) a s := fun a ha => by
    obtain ⟨t, h1, h2⟩ := has a (hperm.mem_iff.mp ha)
    exact ⟨t, h1, n3 _ _ h2⟩
  have s3 : Same H (upd H2 D (.lst (as'.map V.ref))) := n1.trans (n2.trans n3)
  have e13 := n3 _ _ (n2 _ _ e1)
  generalize upd H2 D (.lst (as'.map V.ref)) = H3 at n3 e3 has3 s3 e13
  have hlm : (as'.map V.ref).length = N.length := by rw [List.length_map, hla, ← hly]
  have hpos : (0 : Int) < (((as'.map V.ref).length : Nat) : Int) := by omega
  have hi0 := Int.emod_nonneg (c / 6) (show ((((as'.map V.ref).length : Nat) : Int)) ≠ 0 by omega)
  have hi1 := Int.emod_lt_of_pos (c / 6) hpos
  obtain ⟨i, hi⟩ : ∃ i : Nat, c / 6 % (((as'.map V.ref).length : Nat) : Int) = (i : Int) := ⟨_, (Int.toNat_of_nonneg hi0).symm⟩
  have hil : i < as'.length := by
    rw [hi, List.length_map] at hi1
    omega
  obtain ⟨t, ht1, ht2⟩ := has3 as'[i] (List.getElem_mem hil)
  refine ⟨_, rfl, _, rfl, _, _, rfl, rfl, ⟨by decide, by decide⟩, _, rfl, D, _, rfl, .inl (SqL.of e3), _, _, rfl, rfl, hpos, D, _, _, V.ref as'[i], rfl, rfl, SqL.of e3, ?_, ?_⟩
  · rw [hi]
    exact atI_nat (by rw [List.getElem?_map, List.getElem?_eq_getElem hil]; rfl)
  generalize as'[i] = e at ht2
  refine ⟨_, rfl, _, _, rfl, rfl, ⟨by decide, by decide⟩, _, rfl, c / 6, n, rfl, by omega, fun o H4 s4 ho => ?_⟩
  have hbl := bits_length (c / 6) n
  have ho' : BAt H4 o (bitsOf (c / 6) n) := ho
  generalize bitsOf (c / 6) n = t2 at ho' hbl
  have htl := hN.len t ht1
  have key : ∃ N', H d1 = none ∧ Same H H4 ∧ H4 d1 = some (sD N') ∧ NumsD n N' ∧ NonNeg N' ∧ BAt H4 e t ∧ BAt H4 o t2 := ⟨N, hd1, s3.trans s4, s4 _ _ e13, hN, hnn, s4 _ _ ht2, ho'⟩
  have w9 : 0 ≤ c / 600 % 9 := Int.emod_nonneg _ (by decide)
  have put : ∀ (H5 : Hp) (N5 : List (List Bool × V)) (x : Addr) (tx : List Bool), (H d1 = none ∧ Same H H5 ∧ H5 d1 = some (sD N5) ∧ NumsD n N5 ∧ NonNeg N5 ∧ BAt H5 e t ∧ BAt H5 o t2) → BAt H5 x tx → tx.length = n →
      DPut H5 d1 (.ref x) (.int (c / 600 % 9)) (upd H5 d1 (sD (putK N5 tx (.int (c / 600 % 9))))) ∧ (H d1 = none ∧ Same H (upd H5 d1 (sD (putK N5 tx (.int (c / 600 % 9))))) ∧ upd H5 d1 (sD (putK N5 tx (.int (c / 600 % 9)))) d1 = some (sD (putK N5 tx (.int (c / 600 % 9)))) ∧ NumsD n (putK N5 tx (.int (c / 600 % 9))) ∧ NonNeg (putK N5 tx (.int (c / 600 % 9))) ∧ BAt (upd H5 d1 (sD (putK N5 tx (.int (c / 600 % 9))))) e t ∧ BAt (upd H5 d1 (sD (putK N5 tx (.int (c / 600 % 9))))) o t2) := by
    rintro H5 N5 x tx ⟨k1, k2, k3, k4, k5, k6, k7⟩ hx htx
    have tu : TupLe H5 (upd H5 d1 (sD (putK N5 tx (.int (c / 600 % 9))))) := tup_upd fun xs z => by rw [k3] at z; cases z
    exact ⟨putS k3 hx (small1000 (by have := nums_le k4 hn6; omega)), k1, k2.updNew k1, upd_same, nums_put k4 htx, nonneg_put k5 w9, tu _ _ k6, tu _ _ k7⟩
  refine ⟨fun σ' H' => σ' = [some (.ref d), some (.int n), some (.int c), some (.ref d1), some (.ref D), some (.ref e), some (.ref o)] ∧ ∃ N', H d1 = none ∧ Same H H' ∧ H' d1 = some (sD N') ∧ NumsD n N' ∧ NonNeg N' ∧ BAt H' e t ∧ BAt H' o t2, ?_, ?_⟩
  · refine ⟨_, rfl, _, _, rfl, rfl, (by dsimp only; decide), rfl, _, rfl, ite2 (fun _ => ?_) (fun _ => ⟨rfl, key⟩)⟩
    have e14 := s4 _ _ e13
    obtain ⟨p, hp, rfl⟩ := List.mem_map.mp ht1
    obtain ⟨pre, post, hsplit⟩ := List.append_of_mem hp
    have esp : sP N = sP pre ++ (kst p.1, p.2) :: sP post := by
      rw [hsplit]
      unfold sP
      rw [List.map_append, List.map_cons]
    refine ⟨_, rfl, ?_, _, rfl, d1, e, kst p.1, p.2, sP pre, sP post, rfl, rfl, by rw [← esp]; exact e14, by rw [kst_kV]; exact s4 _ _ ht2, by rw [← esp, sP_len]; omega, rfl, pre ++ post, hd1, (s3.trans s4).updNew hd1, ?_, ?_, ?_, ?_, ?_⟩
    · exact .inr (.inr (.inl ⟨rfl, .inr ⟨_, e14⟩⟩))
    · rw [upd_same]
      unfold sD sP
      rw [List.map_append]
    · refine nums_sub hN ?_
      rw [hsplit]
      exact (List.Sublist.refl pre).append (List.sublist_cons_self _ _)
    · intro x y hx
      refine hnn x y ?_
      rw [hsplit]
      rcases List.mem_append.mp hx with h | h
      · exact List.mem_append.mpr (.inl h)
      · exact List.mem_append.mpr (.inr (List.mem_cons_of_mem _ h))
    · have tu : TupLe H4 (upd H4 d1 (.dT (sP pre ++ sP post))) := tup_upd fun xs z => by rw [e14] at z; cases z
      exact tu _ _ (s4 _ _ ht2)
    · have tu : TupLe H4 (upd H4 d1 (.dT (sP pre ++ sP post))) := tup_upd fun xs z => by rw [e14] at z; cases z
      exact tu _ _ ho'
  clear key
  rintro σ5 H5 ⟨rfl, N5, key⟩
  refine ⟨fun σ' H' => σ' = [some (.ref d), some (.int n), some (.int c), some (.ref d1), some (.ref D), some (.ref e), some (.ref o)] ∧ ∃ N', H d1 = none ∧ Same H H' ∧ H' d1 = some (sD N') ∧ NumsD n N' ∧ NonNeg N' ∧ BAt H' e t ∧ BAt H' o t2, ?_, ?_⟩
  · refine ⟨_, rfl, _, _, rfl, rfl, (by dsimp only; decide), rfl, _, rfl, ite2 (fun _ => ?_) (fun _ => ⟨rfl, N5, key⟩)⟩
    obtain ⟨h1, h2⟩ := put H5 N5 e t key key.2.2.2.2.2.1 htl
    exact ⟨_, rfl, _, _, rfl, rfl, ⟨by decide, by decide⟩, _, _, rfl, rfl, (by dsimp only; decide), _, rfl, _, rfl, d1, _, rfl, h1, rfl, _, h2⟩
  clear key
  rintro σ6 H6 ⟨rfl, N6, key⟩
  refine ⟨fun σ' H' => σ' = [some (.ref d), some (.int n), some (.int c), some (.ref d1), some (.ref D), some (.ref e), some (.ref o)] ∧ ∃ N', H d1 = none ∧ Same H H' ∧ H' d1 = some (sD N') ∧ NumsD n N' ∧ NonNeg N' ∧ BAt H' e t ∧ BAt H' o t2, ?_, ?_⟩
  · refine ⟨_, rfl, _, _, rfl, rfl, (by dsimp only; decide), rfl, _, rfl, ite2 (fun _ => ?_) (fun _ => ⟨rfl, N6, key⟩)⟩
    obtain ⟨h1, h2⟩ := put H6 N6 o t2 key key.2.2.2.2.2.2 hbl
    exact ⟨_, rfl, _, _, rfl, rfl, ⟨by decide, by decide⟩, _, _, rfl, rfl, (by dsimp only; decide), _, rfl, _, rfl, d1, _, rfl, h1, rfl, _, h2⟩
  clear key
  rintro σ7 H7 ⟨rfl, N7, key⟩
  refine ⟨fun σ' H' => ∃ d' N', σ' = [some (.ref d), some (.int n), some (.int c), some (.ref d'), some (.ref D), some (.ref e), some (.ref o)] ∧ H d' = none ∧ Same H H' ∧ H' d' = some (sD N') ∧ NumsD n N' ∧ NonNeg N', ?_, ?_⟩
  · refine ⟨_, rfl, _, _, rfl, rfl, (by dsimp only; decide), rfl, _, rfl, ite2 (fun _ => ?_) (fun _ => ⟨d1, N7, rfl, key.1, key.2.1, key.2.2.1, key.2.2.2.1, key.2.2.2.2.1⟩)⟩
    refine fun d2 hd2 => ⟨d2, [], rfl, key.2.1.free hd2, key.2.1.trans (Same.new hd2 _), upd_same, ⟨List.nodup_nil, fun x h => absurd h (List.not_mem_nil), fun x y h => absurd h (List.not_mem_nil)⟩, fun x y h => absurd h (List.not_mem_nil)⟩
  rintro σ8 H8 ⟨d', N', rfl, k1, k2, k3, k4, k5⟩
  exact ⟨_, rfl, q d' N' H8 k1 k2 k3 k4 k5⟩
end
end RR

end
section
set_option Elab.async false
set_option maxHeartbeats 4000000
set_option linter.all false
set_option maxRecDepth 100000
namespace RR
open PySem L2
section
variable {P : Program} {w : World} {K : PySem.W.Frag} {mg : Str → Option Value} {base : Heap} {f : Addr} {fd : FuncData}
def spLaw (K : PySem.W.Frag) : Sp := fun vs H Q _ => ∃ (a : Addr) (ns : List Int), vs = [.ref a] ∧ SqL K H a (ns.map V.int) ∧ ns.length ≤ 63 ∧ ∀ H', Q (.bl true) H'
theorem ok_law (F : Fun K "law" "law" sLaw f fd) (d_law_cell_at : Callee P w K mg base "_law_cell_at" 1 ["script", "k"] (spCell K)) (d_law_mix : Callee P w K mg base "_law_mix" 1 ["cell", "k"] spMix) (d_law_bits : Callee P w K mg base "_law_bits" 1 ["number", "size"] spBits) (d_law_room : Callee P w K mg base "_law_room" 14 ["script"] (spRoom K))
    (d_law_paper : Callee P w K mg base "_law_paper" 12 ["board", "pressed", "stand"] (spPaper8 K)) (d_law_spoilt : Callee P w K mg base "_law_spoilt" 12 ["paper", "size", "cell"] spSpoilt8) (d_shows : Callee P w K mg base "shows" 12 ["board", "pressed", "stand", "paper"] (spShows K)) (d_law_shows : Callee P w K mg base "_law_shows" 11 ["board", "pressed", "stand", "paper"] (spLShows K))
    (n_dict : mg "dict" = none) (n_len : mg "len" = none) (n_isinstance : mg "isinstance" = none) (n_bool : mg "bool" = none) : FnOk P w K mg base CX0 15 f fd ["script"] (spLaw K) := by
  have S : FnScope ["script", "room", "board", "paper", "cell", "stand", "handed", "found"] ["script"] (defScope sLaw) := ⟨rfl, rfl, rfl, by decide +kernel, rfl, by decide +kernel, by decide +kernel⟩
  refine F.ok S (fun vs H Q E h => ?_) (fun cdv A outer s H vs Q E hr h => ?_)
  · obtain ⟨a, ns, rfl, _⟩ := h
    rfl
  obtain ⟨a, ns, rfl, hS, _, q⟩ := h
  refine ⟨_, (pss_cons (ps_set (i := 1) S.nd rfl (Or.inl rfl) (pe_callD d_law_room hr (by omega) rfl (pa_cons (pv 0) pa_nil)))
    (pss_cons (ps_set (i := 2) S.nd rfl (Or.inl rfl) (pe_ix (ix_tupK (K := K) rfl) (pv 1) pe_int (fun _ _ => rfl)))
    (pss_cons (ps_set (i := 3) S.nd rfl (Or.inl rfl) (pe_callD d_law_paper hr (by omega) rfl (pa_cons (pv 2) (pa_cons (pe_ix (ix_tupK (K := K) rfl) (pv 1) pe_int (fun _ _ => rfl)) (pa_cons (pe_ix (ix_tupK (K := K) rfl) (pv 1) pe_int (fun _ _ => rfl)) pa_nil)))))
    (pss_cons (ps_set (i := 4) S.nd rfl (Or.inl rfl) (pe_callD d_law_cell_at hr (by omega) rfl (pa_cons (pv 0) (pa_cons pe_int pa_nil))))
    (pss_cons (ps_join (ps_if (pt_cmpR op_gt (pe_op op_mod (pv 4) pe_int) pe_int (nomark _)) (pss_one (ps_set (i := 3) S.nd rfl (Or.inl rfl) (pe_callD d_law_spoilt hr (by omega) rfl (pa_cons (pv 3) (pa_cons (pe_callB (call_len_seqK (K := K) rfl) rfl n_len PySem.boot_len (pa_cons (pv 2) pa_nil)) (pa_cons (pe_op op_fdiv (pe_callD d_law_mix hr (by omega) rfl (pa_cons (pv 4) (pa_cons pe_int pa_nil))) pe_int) pa_nil)))))) pss_nil))
    (pss_cons (ps_set (i := 5) S.nd rfl (Or.inl rfl) (pe_ix (ix_tupK (K := K) rfl) (pv 1) pe_int (fun _ _ => rfl)))
    (pss_cons (ps_join (ps_if (pt_cmpR op_eq (pe_op op_mod (pe_op op_fdiv (pv 4) pe_int) pe_int) pe_int (nomark _)) (pss_one (ps_set (i := 5) S.nd rfl (Or.inl rfl) (pe_callD d_law_bits hr (by omega) rfl (pa_cons (pe_op op_fdiv (pv 4) pe_int) (pa_cons (pe_callB (call_len_seqK (K := K) rfl) rfl n_len PySem.boot_len (pa_cons (pv 2) pa_nil)) pa_nil))))) pss_nil))
    (pss_cons (ps_set (i := 6) S.nd rfl (Or.inl rfl) (pe_frz (pe_callTy call_dictD rfl n_dict PyProof.Rows.boot_dict (pa_cons (pv 3) pa_nil))))
    (pss_cons (ps_set (i := 7) S.nd rfl (Or.inl rfl) (pe_callD d_shows hr (by omega) rfl (pa_cons (pv 2) (pa_cons (pe_ix (ix_tupK (K := K) rfl) (pv 1) pe_int (fun _ _ => rfl)) (pa_cons (pv 5) (pa_cons (pv 6) pa_nil))))))
    (pss_one (ps_ret (pe_and (pe_callB (call_isinst (K := K) rfl) rfl n_isinstance PyProof.Rows.boot_isinstance (pa_cons (pv 7) (pa_cons (pe_bltn (v := .ty "bool") rfl n_bool PyProof.Rows.boot_bool rfl) pa_nil))) (pe_and (pe_cmpR op_eq (pv 7) (pe_callD d_law_shows hr (by omega) rfl (pa_cons (pv 2) (pa_cons (pe_ix (ix_tupK (K := K) rfl) (pv 1) pe_int (fun _ _ => rfl)) (pa_cons (pv 5) (pa_cons (pv 3) pa_nil))))) (nomark _)) (pe_one (pe_cmpR (op_eqDT (hu_of hr)) (pv 6) (pv 3) (nomark _)))))))))))))))), ?_⟩
  refine ⟨_, rfl, a, ns, rfl, hS, fun p H1 s1 hroom => ?_⟩
  obtain ⟨D, us, bp, cp, hp, hD, hW, hb, hc⟩ := hroom
  have hB : Bd K H1 D bp (roomBoard ns) (roomPressed ns) := room_bd (SqL.of hD) hW hb
  have hst := room_stand ns
  have hr1 : 1 ≤ (roomBoard ns).length := by
    have := rRelays_in (cellAt ns 0)
    simp only [roomBoard, List.length_map, List.length_range]
    omega
  have hSc : SqL K H1 a (ns.map V.int) := s1.seq hS
  have hlu : us.length = (roomBoard ns).length := hW.1
  generalize roomStand ns = st at *
  generalize roomBoard ns = ws at *
  generalize roomPressed ns = pr at *
  have hn := hB.n
  refine ⟨_, rfl, p, _, _, _, rfl, rfl, SqT.of hp, at0 _ _, ?_⟩
  refine ⟨_, rfl, _, rfl, p, _, _, _, rfl, rfl, SqT.of hp, at1 _ _ _, _, rfl, p, _, _, _, rfl, rfl, SqT.of hp, at2 _ _ _ _, D, bp, cp, ws, pr, st, rfl, hB, hc, hst, fun d N H2 d0 s2 hd hN hnn hN1 => ?_⟩
  refine ⟨_, rfl, a, ns, 3, rfl, s2.seq hSc, by decide, ?_⟩
  generalize cellAt ns 3 = c
  refine ⟨fun σ' H' => ∃ d N, σ' = [some (.ref a), some (.ref p), some (.ref D), some (.ref d), some (.int c), none, none, none] ∧ Same H1 H' ∧ H' d = some (sD N) ∧ NumsD ws.length N ∧ NonNeg N, ?_, ?_⟩
  · refine ⟨_, rfl, _, _, rfl, rfl, (by dsimp only; decide), _, _, rfl, rfl, _, rfl, ite2 (fun _ => ?_) (fun _ => ?_)⟩
    · refine ⟨_, rfl, _, rfl, D, us, rfl, .inl (SqL.of (s2 _ _ hD)), _, rfl, c, 5, rfl, _, _, rfl, rfl, ⟨by decide, by decide⟩, ?_⟩
      refine ⟨d, ws.length, mix c 5 / 7, N, by rw [hlu]; rfl, .inl hd, hr1, hn, hN, hnn, hN1, fun d' N' H' d0' s' hd' hN' hnn' => ?_⟩
      exact ⟨d', N', rfl, s2.trans s', hd', hN', hnn'⟩
    · exact ⟨d, N, rfl, s2, hd, hN, hnn⟩
  rintro σ H3 ⟨d, N, rfl, s3, hd, hN, hnn⟩
  have hp3 := s3 _ _ hp
  refine ⟨_, rfl, p, _, _, _, rfl, rfl, SqT.of hp3, at2 _ _ _ _, ?_⟩
  refine ⟨fun σ' H' => ∃ e t, σ' = [some (.ref a), some (.ref p), some (.ref D), some (.ref d), some (.int c), some (.ref e), none, none] ∧ Same H3 H' ∧ BAt H' e t, ?_, ?_⟩
  · refine ⟨_, rfl, _, _, rfl, rfl, ⟨by decide, by decide⟩, _, _, rfl, rfl, (by dsimp only; decide), rfl, _, rfl, ite2 (fun _ => ?_) (fun _ => ?_)⟩
    · refine ⟨_, rfl, _, _, rfl, rfl, ⟨by decide, by decide⟩, _, rfl, D, us, rfl, .inl (SqL.of (s3 _ _ hD)), c / 15, ws.length, by rw [hlu]; rfl, by omega, fun e H' s' he => ?_⟩
      exact ⟨e, _, rfl, s', he⟩
    · exact ⟨cp, st, rfl, Same.refl _, s3 _ _ hc⟩
  rintro σ H4 ⟨e, t, rfl, s4, he⟩
  have hd4 := s4 _ _ hd
  have s4' := s3.trans s4
  have hl64 := nums_le hN hn
  refine ⟨_, rfl, d, sP N, ws.length, rfl, .inl hd4, row_keys hN, hn, by rw [sP_len]; omega, fun d5 hd5 => ?_⟩
  have n5 := Same.new hd5 (.dT (sP N))
  have e5 : upd H4 d5 (.dT (sP N)) d5 = some (.dT (sP N)) := upd_same
  generalize upd H4 d5 (.dT (sP N)) = H5 at n5 e5
  refine ⟨d5, _, rfl, e5, fun o => ?_⟩
  have s6 : Same H4 (upd H5 d5 (.frz o (.dT (sP N)))) := n5.updNew hd5
  have hd6 : upd H5 d5 (.frz o (.dT (sP N))) d5 = some (.frz o (sD N)) := upd_same
  generalize upd H5 d5 (.frz o (.dT (sP N))) = H6 at s6 hd6
  have s6' := s4'.trans s6
  refine ⟨_, rfl, _, rfl, p, _, _, _, rfl, rfl, SqT.of (s6' _ _ hp), at1 _ _ _, _, rfl, _, rfl, D, bp, e, d5, o, ws, pr, t, N, rfl, hB.mono s6', s6 _ _ he, hd6, hN, fun H7 s7 => ?_⟩
  have s7' := s6'.trans s7
  refine ⟨_, rfl, _, _, _, true, rfl, TyOf.bl _, rfl, _, rfl, iteT ?_⟩
  refine ⟨_, rfl, _, rfl, _, rfl, p, _, _, _, rfl, rfl, SqT.of (s7' _ _ hp), at1 _ _ _, _, rfl, _, rfl, D, bp, e, d, ws, pr, t, N, rfl, hB.mono s7', s7 _ _ (s6 _ _ he), .inl (s7 _ _ (s6 _ _ hd4)), hN, hnn, fun H8 s8 => ?_⟩
  refine ⟨rfl, _, rfl, iteTh (decide_eq_true rfl) ?_⟩
  refine ⟨_, rfl, _, rfl, d5, d, sP N, rfl, rfl, .inr ⟨o, s8 _ _ (s7 _ _ hd6)⟩, .inl (s8 _ _ (s7 _ _ (s6 _ _ hd4))), fun kv hk => ?_, q _⟩
  obtain ⟨x, hx, rfl⟩ := List.mem_map.mp hk
  exact hN.num x.1 x.2 hx
end
theorem all_mk {l : PySem.W.OpenLaw} {w : World} {K : PySem.W.Frag} {h : Heap} {mg : Str → Option Value} {fa f1 f2 f3 f4 f5 f6 f7 f8 f9 f10 f11 f12 f13 f14 f15 f16 f17 f18 f19 f20 f21 f22 f23 : Addr} (X : K.In h) (G : h.Ns mainGlobals mg) (hfa : mg "law" = some (.ref fa))
    {od1 an1 od2 an2 od3 an3 od4 an4 od5 an5 od6 an6 od7 an7 od8 an8 od9 an9 od10 an10 od11 an11 od12 an12 od13 an13 od14 an14 od15 an15 od16 an16 od17 an17 od18 an18 od19 an19 od20 an20 od21 an21 od22 an22 od23 an23 : Option Addr} {sl1 sl2 sl3 sl4 sl5 sl6 sl7 sl8 sl9 sl10 sl11 sl12 sl13 sl14 sl15 sl16 sl17 sl18 sl19 sl20 sl21 sl22 sl23 : Array (Option Value)} {oc1 kV1 dc1 pm1 cd1 ct1 oc2 kV2 dc2 pm2 cd2 ct2 oc3 kV3 dc3 pm3 cd3 ct3 oc4 kV4 dc4 pm4 cd4 ct4 oc5 kV5 dc5 pm5 cd5 ct5 oc6 kV6 dc6 pm6 cd6 ct6 oc7 kV7 dc7 pm7 cd7 ct7 oc8 kV8 dc8 pm8 cd8 ct8 oc9 kV9 dc9 pm9 cd9 ct9 oc10 kV10 dc10 pm10 cd10 ct10 oc11 kV11 dc11 pm11 cd11 ct11 oc12 kV12 dc12 pm12 cd12 ct12 oc13 kV13 dc13 pm13 cd13 ct13 oc14 kV14 dc14 pm14 cd14 ct14 oc15 kV15 dc15 pm15 cd15 ct15 oc16 kV16 dc16 pm16 cd16 ct16 oc17 kV17 dc17 pm17 cd17 ct17 oc18 kV18 dc18 pm18 cd18 ct18 oc19 kV19 dc19 pm19 cd19 ct19 oc20 kV20 dc20 pm20 cd20 ct20 oc21 kV21 dc21 pm21 cd21 ct21 oc22 kV22 dc22 pm22 cd22 ct22 oc23 kV23 dc23 pm23 cd23 ct23 : Value}
    (a1 : PySem.W.nsIn K mainGlobals "worth" = some (some (.ref f1))) (l1 : K.lookup f1 = some ⟨oc1, od1, .func (PySem.W.fnOf "worth" "worth" (defArgs sWorth) (defBody sWorth) (defScope sWorth) .none kV1 dc1 pm1 an1 cd1 ct1), sl1⟩) (c1 : PySem.W.codeIn K cd1 "worth" = true) (k1 : PySem.W.keepIn K (.ref f1) = true)
    (a2 : PySem.W.nsIn K mainGlobals "movable" = some (some (.ref f2))) (l2 : K.lookup f2 = some ⟨oc2, od2, .func (PySem.W.fnOf "movable" "movable" (defArgs sMovable) (defBody sMovable) (defScope sMovable) .none kV2 dc2 pm2 an2 cd2 ct2), sl2⟩) (c2 : PySem.W.codeIn K cd2 "movable" = true) (k2 : PySem.W.keepIn K (.ref f2) = true)
    (a3 : PySem.W.nsIn K mainGlobals "can_move" = some (some (.ref f3))) (l3 : K.lookup f3 = some ⟨oc3, od3, .func (PySem.W.fnOf "can_move" "can_move" (defArgs sCanMove) (defBody sCanMove) (defScope sCanMove) .none kV3 dc3 pm3 an3 cd3 ct3), sl3⟩) (c3 : PySem.W.codeIn K cd3 "can_move" = true) (k3 : PySem.W.keepIn K (.ref f3) = true)
    (a4 : PySem.W.nsIn K mainGlobals "moved" = some (some (.ref f4))) (l4 : K.lookup f4 = some ⟨oc4, od4, .func (PySem.W.fnOf "moved" "moved" (defArgs sMoved) (defBody sMoved) (defScope sMoved) .none kV4 dc4 pm4 an4 cd4 ct4), sl4⟩) (c4 : PySem.W.codeIn K cd4 "moved" = true) (k4 : PySem.W.keepIn K (.ref f4) = true)
    (a5 : PySem.W.nsIn K mainGlobals "shows" = some (some (.ref f5))) (l5 : K.lookup f5 = some ⟨oc5, od5, .func (PySem.W.fnOf "shows" "shows" (defArgs sShows) (defBody sShows) (defScope sShows) .none kV5 dc5 pm5 an5 cd5 ct5), sl5⟩) (c5 : PySem.W.codeIn K cd5 "shows" = true) (k5 : PySem.W.keepIn K (.ref f5) = true)
    (a6 : PySem.W.nsIn K mainGlobals "leads_down" = some (some (.ref f6))) (l6 : K.lookup f6 = some ⟨oc6, od6, .func (PySem.W.fnOf "leads_down" "leads_down" (defArgs sLeadsDown) (defBody sLeadsDown) (defScope sLeadsDown) .none kV6 dc6 pm6 an6 cd6 ct6), sl6⟩) (c6 : PySem.W.codeIn K cd6 "leads_down" = true) (k6 : PySem.W.keepIn K (.ref f6) = true)
    (a7 : PySem.W.nsIn K mainGlobals "_law_cell_at" = some (some (.ref f7))) (l7 : K.lookup f7 = some ⟨oc7, od7, .func (PySem.W.fnOf "_law_cell_at" "_law_cell_at" (defArgs sCell) (defBody sCell) (defScope sCell) .none kV7 dc7 pm7 an7 cd7 ct7), sl7⟩) (c7 : PySem.W.codeIn K cd7 "_law_cell_at" = true) (k7 : PySem.W.keepIn K (.ref f7) = true)
    (a8 : PySem.W.nsIn K mainGlobals "_law_pick" = some (some (.ref f8))) (l8 : K.lookup f8 = some ⟨oc8, od8, .func (PySem.W.fnOf "_law_pick" "_law_pick" (defArgs sPick) (defBody sPick) (defScope sPick) .none kV8 dc8 pm8 an8 cd8 ct8), sl8⟩) (c8 : PySem.W.codeIn K cd8 "_law_pick" = true) (k8 : PySem.W.keepIn K (.ref f8) = true)
    (a9 : PySem.W.nsIn K mainGlobals "_law_mix" = some (some (.ref f9))) (l9 : K.lookup f9 = some ⟨oc9, od9, .func (PySem.W.fnOf "_law_mix" "_law_mix" (defArgs sMix) (defBody sMix) (defScope sMix) .none kV9 dc9 pm9 an9 cd9 ct9), sl9⟩) (c9 : PySem.W.codeIn K cd9 "_law_mix" = true) (k9 : PySem.W.keepIn K (.ref f9) = true)
    (a10 : PySem.W.nsIn K mainGlobals "_law_leaf" = some (some (.ref f10))) (l10 : K.lookup f10 = some ⟨oc10, od10, .func (PySem.W.fnOf "_law_leaf" "_law_leaf" (defArgs sLeaf) (defBody sLeaf) (defScope sLeaf) .none kV10 dc10 pm10 an10 cd10 ct10), sl10⟩) (c10 : PySem.W.codeIn K cd10 "_law_leaf" = true) (k10 : PySem.W.keepIn K (.ref f10) = true)
    (a11 : PySem.W.nsIn K mainGlobals "_law_word" = some (some (.ref f11))) (l11 : K.lookup f11 = some ⟨oc11, od11, .func (PySem.W.fnOf "_law_word" "_law_word" (defArgs sWord) (defBody sWord) (defScope sWord) .none kV11 dc11 pm11 an11 cd11 ct11), sl11⟩) (c11 : PySem.W.codeIn K cd11 "_law_word" = true) (k11 : PySem.W.keepIn K (.ref f11) = true)
    (a12 : PySem.W.nsIn K mainGlobals "_law_board" = some (some (.ref f12))) (l12 : K.lookup f12 = some ⟨oc12, od12, .func (PySem.W.fnOf "_law_board" "_law_board" (defArgs sBoard) (defBody sBoard) (defScope sBoard) .none kV12 dc12 pm12 an12 cd12 ct12), sl12⟩) (c12 : PySem.W.codeIn K cd12 "_law_board" = true) (k12 : PySem.W.keepIn K (.ref f12) = true)
    (a13 : PySem.W.nsIn K mainGlobals "_law_bits" = some (some (.ref f13))) (l13 : K.lookup f13 = some ⟨oc13, od13, .func (PySem.W.fnOf "_law_bits" "_law_bits" (defArgs sBits) (defBody sBits) (defScope sBits) .none kV13 dc13 pm13 an13 cd13 ct13), sl13⟩) (c13 : PySem.W.codeIn K cd13 "_law_bits" = true) (k13 : PySem.W.keepIn K (.ref f13) = true)
    (a14 : PySem.W.nsIn K mainGlobals "_law_wrapped" = some (some (.ref f14))) (l14 : K.lookup f14 = some ⟨oc14, od14, .func (PySem.W.fnOf "_law_wrapped" "_law_wrapped" (defArgs sWrapped) (defBody sWrapped) (defScope sWrapped) .none kV14 dc14 pm14 an14 cd14 ct14), sl14⟩) (c14 : PySem.W.codeIn K cd14 "_law_wrapped" = true) (k14 : PySem.W.keepIn K (.ref f14) = true)
    (a15 : PySem.W.nsIn K mainGlobals "_law_room" = some (some (.ref f15))) (l15 : K.lookup f15 = some ⟨oc15, od15, .func (PySem.W.fnOf "_law_room" "_law_room" (defArgs sRoom) (defBody sRoom) (defScope sRoom) .none kV15 dc15 pm15 an15 cd15 ct15), sl15⟩) (c15 : PySem.W.codeIn K cd15 "_law_room" = true) (k15 : PySem.W.keepIn K (.ref f15) = true)
    (a16 : PySem.W.nsIn K mainGlobals "_law_worth" = some (some (.ref f16))) (l16 : K.lookup f16 = some ⟨oc16, od16, .func (PySem.W.fnOf "_law_worth" "_law_worth" (defArgs sLWorth) (defBody sLWorth) (defScope sLWorth) .none kV16 dc16 pm16 an16 cd16 ct16), sl16⟩) (c16 : PySem.W.codeIn K cd16 "_law_worth" = true) (k16 : PySem.W.keepIn K (.ref f16) = true)
    (a17 : PySem.W.nsIn K mainGlobals "_law_movable" = some (some (.ref f17))) (l17 : K.lookup f17 = some ⟨oc17, od17, .func (PySem.W.fnOf "_law_movable" "_law_movable" (defArgs sLMovable) (defBody sLMovable) (defScope sLMovable) .none kV17 dc17 pm17 an17 cd17 ct17), sl17⟩) (c17 : PySem.W.codeIn K cd17 "_law_movable" = true) (k17 : PySem.W.keepIn K (.ref f17) = true)
    (a18 : PySem.W.nsIn K mainGlobals "_law_moved" = some (some (.ref f18))) (l18 : K.lookup f18 = some ⟨oc18, od18, .func (PySem.W.fnOf "_law_moved" "_law_moved" (defArgs sLMoved) (defBody sLMoved) (defScope sLMoved) .none kV18 dc18 pm18 an18 cd18 ct18), sl18⟩) (c18 : PySem.W.codeIn K cd18 "_law_moved" = true) (k18 : PySem.W.keepIn K (.ref f18) = true)
    (a19 : PySem.W.nsIn K mainGlobals "_law_reach" = some (some (.ref f19))) (l19 : K.lookup f19 = some ⟨oc19, od19, .func (PySem.W.fnOf "_law_reach" "_law_reach" (defArgs sLReach) (defBody sLReach) (defScope sLReach) .none kV19 dc19 pm19 an19 cd19 ct19), sl19⟩) (c19 : PySem.W.codeIn K cd19 "_law_reach" = true) (k19 : PySem.W.keepIn K (.ref f19) = true)
    (a20 : PySem.W.nsIn K mainGlobals "_law_paper" = some (some (.ref f20))) (l20 : K.lookup f20 = some ⟨oc20, od20, .func (PySem.W.fnOf "_law_paper" "_law_paper" (defArgs sLPaper) (defBody sLPaper) (defScope sLPaper) .none kV20 dc20 pm20 an20 cd20 ct20), sl20⟩) (c20 : PySem.W.codeIn K cd20 "_law_paper" = true) (k20 : PySem.W.keepIn K (.ref f20) = true)
    (a21 : PySem.W.nsIn K mainGlobals "_law_spoilt" = some (some (.ref f21))) (l21 : K.lookup f21 = some ⟨oc21, od21, .func (PySem.W.fnOf "_law_spoilt" "_law_spoilt" (defArgs sLSpoilt) (defBody sLSpoilt) (defScope sLSpoilt) .none kV21 dc21 pm21 an21 cd21 ct21), sl21⟩) (c21 : PySem.W.codeIn K cd21 "_law_spoilt" = true) (k21 : PySem.W.keepIn K (.ref f21) = true)
    (a22 : PySem.W.nsIn K mainGlobals "_law_shows" = some (some (.ref f22))) (l22 : K.lookup f22 = some ⟨oc22, od22, .func (PySem.W.fnOf "_law_shows" "_law_shows" (defArgs sLShows) (defBody sLShows) (defScope sLShows) .none kV22 dc22 pm22 an22 cd22 ct22), sl22⟩) (c22 : PySem.W.codeIn K cd22 "_law_shows" = true) (k22 : PySem.W.keepIn K (.ref f22) = true)
    (a23 : PySem.W.nsIn K mainGlobals "law" = some (some (.ref f23))) (l23 : K.lookup f23 = some ⟨oc23, od23, .func (PySem.W.fnOf "law" "law" (defArgs sLaw) (defBody sLaw) (defScope sLaw) .none kV23 dc23 pm23 an23 cd23 ct23), sl23⟩) (c23 : PySem.W.codeIn K cd23 "law" = true) (k23 : PySem.W.keepIn K (.ref f23) = true)
    (z1 : PySem.W.nsIn K mainGlobals "len" = some none)
    (z2 : PySem.W.nsIn K mainGlobals "range" = some none)
    (z3 : PySem.W.nsIn K mainGlobals "tuple" = some none)
    (z4 : PySem.W.nsIn K mainGlobals "isinstance" = some none)
    (z5 : PySem.W.nsIn K mainGlobals "bool" = some none)
    (z6 : PySem.W.nsIn K mainGlobals "all" = some none)
    (z7 : PySem.W.nsIn K mainGlobals "int" = some none)
    (z8 : PySem.W.nsIn K mainGlobals "list" = some none)
    (z9 : PySem.W.nsIn K mainGlobals "max" = some none)
    (z10 : PySem.W.nsIn K mainGlobals "dict" = some none)
    (z11 : PySem.W.nsIn K mainGlobals "sorted" = some none)
    : ∃ fd : FuncData, (∀ (s : Shared) (v : Value), BindsTo s fd ⟨[v], []⟩ [("script", v)]) ∧ ∀ base : Heap, K.In base → base.Ns mainGlobals mg → FnOk l.prog w K mg base CX0 15 fa fd ["script"] (spLaw K) := by
  have e := hfa.symm.trans (PySem.W.mg_of X G a23)
  cases e
  have F1 := fun_mk (st := sWorth) l1 c1 k1
  have F2 := fun_mk (st := sMovable) l2 c2 k2
  have F3 := fun_mk (st := sCanMove) l3 c3 k3
  have F4 := fun_mk (st := sMoved) l4 c4 k4
  have F5 := fun_mk (st := sShows) l5 c5 k5
  have F6 := fun_mk (st := sLeadsDown) l6 c6 k6
  have F7 := fun_mk (st := sCell) l7 c7 k7
  have F8 := fun_mk (st := sPick) l8 c8 k8
  have F9 := fun_mk (st := sMix) l9 c9 k9
  have F10 := fun_mk (st := sLeaf) l10 c10 k10
  have F11 := fun_mk (st := sWord) l11 c11 k11
  have F12 := fun_mk (st := sBoard) l12 c12 k12
  have F13 := fun_mk (st := sBits) l13 c13 k13
  have F14 := fun_mk (st := sWrapped) l14 c14 k14
  have F15 := fun_mk (st := sRoom) l15 c15 k15
  have F16 := fun_mk (st := sLWorth) l16 c16 k16
  have F17 := fun_mk (st := sLMovable) l17 c17 k17
  have F18 := fun_mk (st := sLMoved) l18 c18 k18
  have F19 := fun_mk (st := sLReach) l19 c19 k19
  have F20 := fun_mk (st := sLPaper) l20 c20 k20
  have F21 := fun_mk (st := sLSpoilt) l21 c21 k21
  have F22 := fun_mk (st := sLShows) l22 c22 k22
  have F23 := fun_mk (st := sLaw) l23 c23 k23
  have b1 := F1.binds (ps := ["word", "stand", "pressed"]) fun _ _ _ _ _ _ us hl => match us, hl with | [_, _, _], _ => rfl
  have m1 := PySem.W.mg_of X G a1
  have b2 := F2.binds (ps := ["board", "pressed", "stand"]) fun _ _ _ _ _ _ us hl => match us, hl with | [_, _, _], _ => rfl
  have m2 := PySem.W.mg_of X G a2
  have b3 := F3.binds (ps := ["board", "pressed", "stand", "relay"]) fun _ _ _ _ _ _ us hl => match us, hl with | [_, _, _, _], _ => rfl
  have m3 := PySem.W.mg_of X G a3
  have b4 := F4.binds (ps := ["stand", "relay"]) fun _ _ _ _ _ _ us hl => match us, hl with | [_, _], _ => rfl
  have m4 := PySem.W.mg_of X G a4
  have b5 := F5.binds (ps := ["board", "pressed", "stand", "paper"]) fun _ _ _ _ _ _ us hl => match us, hl with | [_, _, _, _], _ => rfl
  have m5 := PySem.W.mg_of X G a5
  have b6 := F6.binds (ps := ["paper", "here", "onward"]) fun _ _ _ _ _ _ us hl => match us, hl with | [_, _, _], _ => rfl
  have m6 := PySem.W.mg_of X G a6
  have b7 := F7.binds (ps := ["script", "k"]) fun _ _ _ _ _ _ us hl => match us, hl with | [_, _], _ => rfl
  have m7 := PySem.W.mg_of X G a7
  have b8 := F8.binds (ps := ["script", "k"]) fun _ _ _ _ _ _ us hl => match us, hl with | [_, _], _ => rfl
  have m8 := PySem.W.mg_of X G a8
  have b9 := F9.binds (ps := ["cell", "k"]) fun _ _ _ _ _ _ us hl => match us, hl with | [_, _], _ => rfl
  have m9 := PySem.W.mg_of X G a9
  have b10 := F10.binds (ps := ["mixed", "relays", "buttons"]) fun _ _ _ _ _ _ us hl => match us, hl with | [_, _, _], _ => rfl
  have m10 := PySem.W.mg_of X G a10
  have b11 := F11.binds (ps := ["cell", "k", "deep", "relays", "buttons"]) fun _ _ _ _ _ _ us hl => match us, hl with | [_, _, _, _, _], _ => rfl
  have m11 := PySem.W.mg_of X G a11
  have b12 := F12.binds (ps := ["script", "start", "relays", "buttons", "deep"]) fun _ _ _ _ _ _ us hl => match us, hl with | [_, _, _, _, _], _ => rfl
  have m12 := PySem.W.mg_of X G a12
  have b13 := F13.binds (ps := ["number", "size"]) fun _ _ _ _ _ _ us hl => match us, hl with | [_, _], _ => rfl
  have m13 := PySem.W.mg_of X G a13
  have b14 := F14.binds (ps := ["word", "mixed"]) fun _ _ _ _ _ _ us hl => match us, hl with | [_, _], _ => rfl
  have m14 := PySem.W.mg_of X G a14
  have b15 := F15.binds (ps := ["script"]) fun _ _ _ _ _ _ us hl => match us, hl with | [_], _ => rfl
  have m15 := PySem.W.mg_of X G a15
  have b16 := F16.binds (ps := ["word", "stand", "pressed"]) fun _ _ _ _ _ _ us hl => match us, hl with | [_, _, _], _ => rfl
  have m16 := PySem.W.mg_of X G a16
  have b17 := F17.binds (ps := ["board", "pressed", "stand"]) fun _ _ _ _ _ _ us hl => match us, hl with | [_, _, _], _ => rfl
  have m17 := PySem.W.mg_of X G a17
  have b18 := F18.binds (ps := ["stand", "relay"]) fun _ _ _ _ _ _ us hl => match us, hl with | [_, _], _ => rfl
  have m18 := PySem.W.mg_of X G a18
  have b19 := F19.binds (ps := ["board", "pressed", "stand"]) fun _ _ _ _ _ _ us hl => match us, hl with | [_, _, _], _ => rfl
  have m19 := PySem.W.mg_of X G a19
  have b20 := F20.binds (ps := ["board", "pressed", "stand"]) fun _ _ _ _ _ _ us hl => match us, hl with | [_, _, _], _ => rfl
  have m20 := PySem.W.mg_of X G a20
  have b21 := F21.binds (ps := ["paper", "size", "cell"]) fun _ _ _ _ _ _ us hl => match us, hl with | [_, _, _], _ => rfl
  have m21 := PySem.W.mg_of X G a21
  have b22 := F22.binds (ps := ["board", "pressed", "stand", "paper"]) fun _ _ _ _ _ _ us hl => match us, hl with | [_, _, _, _], _ => rfl
  have m22 := PySem.W.mg_of X G a22
  have b23 := F23.binds (ps := ["script"]) fun _ _ _ _ _ _ us hl => match us, hl with | [_], _ => rfl
  have m23 := PySem.W.mg_of X G a23
  have n_len := PySem.W.mg_none_of X G z1
  have n_range := PySem.W.mg_none_of X G z2
  have n_tuple := PySem.W.mg_none_of X G z3
  have n_isinstance := PySem.W.mg_none_of X G z4
  have n_bool := PySem.W.mg_none_of X G z5
  have n_all := PySem.W.mg_none_of X G z6
  have n_int := PySem.W.mg_none_of X G z7
  have n_list := PySem.W.mg_none_of X G z8
  have n_max := PySem.W.mg_none_of X G z9
  have n_dict := PySem.W.mg_none_of X G z10
  have n_sorted := PySem.W.mg_none_of X G z11
  refine ⟨PySem.W.fnOf "law" "law" (defArgs sLaw) (defBody sLaw) (defScope sLaw) .none kV23 dc23 pm23 an23 cd23 ct23, fun s v => .of_eq rfl, fun base _ _ => ?_⟩
  have C7 : Callee l.prog w K mg base "_law_cell_at" 1 ["script", "k"] (spCell K) := ⟨_, _, ok_cell F7 n_len, b7, k7, m7⟩
  have C8 : Callee l.prog w K mg base "_law_pick" 2 ["script", "k"] (spPick K) := ⟨_, _, ok_pick F8 C7 n_len, b8, k8, m8⟩
  have C9 : Callee l.prog w K mg base "_law_mix" 1 ["cell", "k"] spMix := ⟨_, _, ok_mix F9, b9, k9, m9⟩
  have C10 : Callee l.prog w K mg base "_law_leaf" 1 ["mixed", "relays", "buttons"] spLeaf := ⟨_, _, ok_leaf F10, b10, k10, m10⟩
  have C11 : Callee l.prog w K mg base "_law_word" 12 ["cell", "k", "deep", "relays", "buttons"] (spWord 10) := ⟨_, _, ok_word F11 b11 m11 C9 C10 10, b11, k11, m11⟩
  have C13 : Callee l.prog w K mg base "_law_bits" 1 ["number", "size"] spBits := ⟨_, _, ok_bits F13 n_range n_tuple, b13, k13, m13⟩
  have C14 : Callee l.prog w K mg base "_law_wrapped" 1 ["word", "mixed"] spWrapped := ⟨_, _, ok_wrapped F14 n_range n_int, b14, k14, m14⟩
  have C12 : Callee l.prog w K mg base "_law_board" 13 ["script", "start", "relays", "buttons", "deep"] (spBoard K) := ⟨_, _, ok_board F12 n_range C8 C11, b12, k12, m12⟩
  have C15 : Callee l.prog w K mg base "_law_room" 14 ["script"] (spRoom K) := ⟨_, _, ok_room F15 n_range C7 C12 C14 C9 C13, b15, k15, m15⟩
  have C1 : Callee l.prog w K mg base "worth" 9 ["word", "stand", "pressed"] (spWorth 8) := ⟨_, _, ok_worth F1 b1 m1 8, b1, k1, m1⟩
  have C16 : Callee l.prog w K mg base "_law_worth" 9 ["word", "stand", "pressed"] (spLWorth 8) := ⟨_, _, ok_lworth F16 b16 m16 8, b16, k16, m16⟩
  have C3 : Callee l.prog w K mg base "can_move" 10 ["board", "pressed", "stand", "relay"] (spCan K) := ⟨_, _, ok_can F3 C1, b3, k3, m3⟩
  have C2 : Callee l.prog w K mg base "movable" 11 ["board", "pressed", "stand"] (spMovable K) := ⟨_, _, ok_movable F2 C3 n_len n_range, b2, k2, m2⟩
  have C4 : Callee l.prog w K mg base "moved" 1 ["stand", "relay"] spMoved := ⟨_, _, ok_moved F4, b4, k4, m4⟩
  have C17 : Callee l.prog w K mg base "_law_movable" 10 ["board", "pressed", "stand"] (spMovable K) := ⟨_, _, ok_lmovable F17 C16 n_len n_range, b17, k17, m17⟩
  have C18 : Callee l.prog w K mg base "_law_moved" 1 ["stand", "relay"] spMoved := ⟨_, _, ok_lmoved F18 n_len n_range n_tuple, b18, k18, m18⟩
  have C19 : Callee l.prog w K mg base "_law_reach" 11 ["board", "pressed", "stand"] (spReach K) := ⟨_, _, ok_reach F19 C17 C18 n_list, b19, k19, m19⟩
  have C6 : Callee l.prog w K mg base "leads_down" 1 ["paper", "here", "onward"] (spLeads K) := ⟨_, _, ok_leads F6 n_all, b6, k6, m6⟩
  have C5 : Callee l.prog w K mg base "shows" 12 ["board", "pressed", "stand", "paper"] (spShows K) := ⟨_, _, ok_shows F5 C2 C4 C6, b5, k5, m5⟩
  have C20 : Callee l.prog w K mg base "_law_paper" 12 ["board", "pressed", "stand"] (spPaper8 K) := ⟨_, _, ok_paper F20 C17 C18 C19 n_max n_len, b20, k20, m20⟩
  have C21 : Callee l.prog w K mg base "_law_spoilt" 12 ["paper", "size", "cell"] spSpoilt8 := ⟨_, _, ok_spoilt8 F21 C13 n_dict n_sorted n_list n_len, b21, k21, m21⟩
  have C22 : Callee l.prog w K mg base "_law_shows" 11 ["board", "pressed", "stand", "paper"] (spLShows K) := ⟨_, _, ok_lshows F22 C17 C18 n_list n_int, b22, k22, m22⟩
  exact ok_law F23 C7 C9 C13 C15 C20 C21 C5 C22 n_dict n_len n_isinstance n_bool
theorem walk {l : PySem.W.OpenLaw} {q : Program} {loose : List Str} {XP : (Str → Option Value) → Heap → Prop} {YP : World → Heap → Prop} {d : DefRec} {K : Params → PySem.W.Frag} (hn : l.most = some 63) (hdf : d.params.defaults = [])
    (hY : ∀ (w : World) (h : Heap), YP w h → (K w.params).In h)
    (F : ∀ (w : World) (mg : Str → Option Value) (fa : Addr) (h : Heap), (K w.params).In h → h.Ns mainGlobals mg → mg d.name = some (.ref fa) →
      ∃ fd : FuncData, (∀ (s : Shared) (u : Value), BindsTo s fd ⟨[u], []⟩ [("script", u)]) ∧ ∀ base : Heap, (K w.params).In base → base.Ns mainGlobals mg → FnOk l.prog w (K w.params) mg base CX0 15 fa fd ["script"] (spLaw (K w.params))) :
    PySem.W.WalkO q loose XP YP l.row.toRowW d [] (fun f vs => PySem.call f vs) :=
  L2.walk_of (n := 63) (k := 15) (x := "script") (CX := fun _ => CX0) (sp := fun w => spLaw (K w.params)) hn (by decide) hdf ⟨rfl, by decide, by decide⟩ hY F (fun _ _ a ns hl _ hS => ⟨a, ns, rfl, hS, hl, fun _ => rfl⟩) fun _ _ _ _ _ z => z
end RR
open PySem PySem.W PyProof.Rows
set_option maxRecDepth 100000 in
set_option maxHeartbeats 0 in
theorem PySem.Challenge.cw_relayroom_k08_showings_holds : PySem.Challenge.rw_relayroom_k08_showings.Holds := by
  w_on; o_law; k_head; (case hw => w_witness2)
  k_fill
  refine RR.walk (l := PySem.Challenge.rw_relayroom_k08_showings) rfl rfl (fun w h Y => PySem.W.kIn_of Y) ?F
  case F =>
    intro w mg fa h KX G hmg
    refine' RR.all_mk KX G hmg ?a1 ?l1 ?c1 ?k1 ?a2 ?l2 ?c2 ?k2 ?a3 ?l3 ?c3 ?k3 ?a4 ?l4 ?c4 ?k4 ?a5 ?l5 ?c5 ?k5 ?a6 ?l6 ?c6 ?k6 ?a7 ?l7 ?c7 ?k7 ?a8 ?l8 ?c8 ?k8 ?a9 ?l9 ?c9 ?k9 ?a10 ?l10 ?c10 ?k10 ?a11 ?l11 ?c11 ?k11 ?a12 ?l12 ?c12 ?k12 ?a13 ?l13 ?c13 ?k13 ?a14 ?l14 ?c14 ?k14 ?a15 ?l15 ?c15 ?k15 ?a16 ?l16 ?c16 ?k16 ?a17 ?l17 ?c17 ?k17 ?a18 ?l18 ?c18 ?k18 ?a19 ?l19 ?c19 ?k19 ?a20 ?l20 ?c20 ?k20 ?a21 ?l21 ?c21 ?k21 ?a22 ?l22 ?c22 ?k22 ?a23 ?l23 ?c23 ?k23 ?z1 ?z2 ?z3 ?z4 ?z5 ?z6 ?z7 ?z8 ?z9 ?z10 ?z11
    (case a1 => k_is); (case l1 => k_is); (case c1 => k_is); (case k1 => k_is)
    (case a2 => k_is); (case l2 => k_is); (case c2 => k_is); (case k2 => k_is)
    (case a3 => k_is); (case l3 => k_is); (case c3 => k_is); (case k3 => k_is)
    (case a4 => k_is); (case l4 => k_is); (case c4 => k_is); (case k4 => k_is)
    (case a5 => k_is); (case l5 => k_is); (case c5 => k_is); (case k5 => k_is)
    (case a6 => k_is); (case l6 => k_is); (case c6 => k_is); (case k6 => k_is)
    (case a7 => k_is); (case l7 => k_is); (case c7 => k_is); (case k7 => k_is)
    (case a8 => k_is); (case l8 => k_is); (case c8 => k_is); (case k8 => k_is)
    (case a9 => k_is); (case l9 => k_is); (case c9 => k_is); (case k9 => k_is)
    (case a10 => k_is); (case l10 => k_is); (case c10 => k_is); (case k10 => k_is)
    (case a11 => k_is); (case l11 => k_is); (case c11 => k_is); (case k11 => k_is)
    (case a12 => k_is); (case l12 => k_is); (case c12 => k_is); (case k12 => k_is)
    (case a13 => k_is); (case l13 => k_is); (case c13 => k_is); (case k13 => k_is)
    (case a14 => k_is); (case l14 => k_is); (case c14 => k_is); (case k14 => k_is)
    (case a15 => k_is); (case l15 => k_is); (case c15 => k_is); (case k15 => k_is)
    (case a16 => k_is); (case l16 => k_is); (case c16 => k_is); (case k16 => k_is)
    (case a17 => k_is); (case l17 => k_is); (case c17 => k_is); (case k17 => k_is)
    (case a18 => k_is); (case l18 => k_is); (case c18 => k_is); (case k18 => k_is)
    (case a19 => k_is); (case l19 => k_is); (case c19 => k_is); (case k19 => k_is)
    (case a20 => k_is); (case l20 => k_is); (case c20 => k_is); (case k20 => k_is)
    (case a21 => k_is); (case l21 => k_is); (case c21 => k_is); (case k21 => k_is)
    (case a22 => k_is); (case l22 => k_is); (case c22 => k_is); (case k22 => k_is)
    (case a23 => k_is); (case l23 => k_is); (case c23 => k_is); (case k23 => k_is)
    (case z1 => k_is)
    (case z2 => k_is)
    (case z3 => k_is)
    (case z4 => k_is)
    (case z5 => k_is)
    (case z6 => k_is)
    (case z7 => k_is)
    (case z8 => k_is)
    (case z9 => k_is)
    (case z10 => k_is)
    (case z11 => k_is)

end
