import PyProof.Rows.All
import Wide.All
import OpenK.AllK
import Wide.FinOn
import PyProof.TupleKey
import Lean
import PyProof.EqAt
import PyProof.EqKinds
import PyProof.TupleCall
import PyProof.NeData
import PyProof.NsDelKeeps
import PyProof.MinMaxWalk
import PyProof.WalkInts
import KE.KDictList
import PyProof.Rows.TupDisplay
import PyProof.AttrMissHeap
import KE.KDictOf
import PyProof.StrWalks
import PyProof.MeetsStr
import PyProof.MeetsStr2
import PyProof.PureStr
import PyProof.Rows.StrItems
import PyProof.Rows.StrSplitCount
import PyProof.StrLawsChain
import PyProof.P3In
import PySem.Challenge.RW_relayroom_k14_read
section
set_option Elab.async false
set_option linter.all false
set_option maxRecDepth 100000
/-! THE HAND LAYER, for ints, bools, texts, own classes, LISTS and tuples (index, slices, in, append, pop ..), calls, loops. Paste it whole ahead of your own text; what your proof does not reach may be deleted. -/
namespace L2
open PySem PySem.Spec PyProof.Rows

def bInt (b : Bool) : Int := if b = true then 1 else 0
def bHash (b : Bool) : Int := reduceHash (bInt b)
theorem pyHash_bool {prog : Program} {w : World} {A : Around} {E : Value → Shared → Prop} {s : Shared} {b : Bool} {Q : Int → Shared → Prop} (h : Q (bHash b) { s with toks := s.toks + 1 }) :
    wpAny (model prog w) A (pyHash (.bool b)) Q E s := by
  refine PySem.W.pyHash_slot (T := "bool") rfl PySem.F.slot_bool_hash entry_int_hash (args_int_hash _) (beq_builtin_none _) (.inl rfl) ?_
  have body : ∀ n : Int, Q (reduceHash n) { s with toks := s.toks + 1 } → wpAny (model prog w) A.in1 (do ret (← mkInt n)) (fun fin s' => ∃ m t, fin = .done (.ret (.int m t)) ∧ Q (reduceHash m) s') E s := fun n hn => wpAny_bind (wpAny_mkInt (wpAny_pure ⟨_, _, rfl, hn⟩))
  cases b with
  | false => exact body 0 h
  | true => exact body 1 h
def boolIs (k : Bool) : Value → Bool
  | .bool b => b == k
  | _ => false
theorem boolIs_shape {k : Bool} {v : Value} (h : boolIs k v = true) : v = .bool k := by
  cases v <;> simp_all [boolIs]
def boolKind (prog : Program) (w : World) : PySem.KeyKind prog w Bool where
  is := boolIs
  hash := bHash
  inj := fun v a b ha hb => by
    have e1 := boolIs_shape ha
    have e2 := boolIs_shape hb
    rw [e1] at e2
    injection e2
  byValue := fun k v h => by rw [boolIs_shape h]; rfl
  pyHash := fun hv h => by rw [boolIs_shape hv]; exact pyHash_bool h
  eqBool := fun {A E s a b u v Q} hu hv h => by
    rw [boolIs_shape hu, boolIs_shape hv]
    refine SeqAt.EqAt.bool_bool a b _ _ _ _ ?_
    have : decide (a = b) = (a == b) := by cases a <;> cases b <;> rfl
    rw [← this]
    exact h
  «strs» := fun k x t v h => by have := boolIs_shape h; cases this

abbrev Key := Sum Bool Str
def keyIs : Key → Value → Bool
  | .inl k, v => boolIs k v
  | .inr x, v => Value.isStrOf x v
def keyH (w : World) : Key → Int
  | .inl k => bHash k
  | .inr x => hashStr w x
theorem keyIs_shape {k : Key} {v : Value} (h : keyIs k v = true) : (∃ b, k = Sum.inl b ∧ v = Value.bool b) ∨ (∃ x t, k = Sum.inr x ∧ v = Value.str x t) := by
  cases k with
  | inl b => exact .inl ⟨b, rfl, boolIs_shape h⟩
  | inr x => obtain ⟨t, e⟩ := Value.isStrOf_shape (x := x) (v := v) h; exact .inr ⟨x, t, rfl, e⟩
def mixKind (prog : Program) (w : World) : PySem.KeyKind prog w Key where
  is := keyIs
  hash := keyH w
  inj := fun v a b ha hb => by
    rcases keyIs_shape ha with ⟨i, rfl, rfl⟩ | ⟨x, t, rfl, rfl⟩ <;> rcases keyIs_shape hb with ⟨j, rfl, e⟩ | ⟨y, u, rfl, e⟩
    · injection e with e; rw [e]
    · cases e
    · cases e
    · injection e with e _; rw [e]
  byValue := fun k v h => by
    rcases keyIs_shape h with ⟨i, rfl, rfl⟩ | ⟨x, t, rfl, rfl⟩ <;> rfl
  pyHash := fun hv h => by
    rcases keyIs_shape hv with ⟨i, rfl, rfl⟩ | ⟨x, t, rfl, rfl⟩
    · exact pyHash_bool h
    · exact wpAny_pyHash_str h
  eqBool := fun hu hv h => by
    rcases keyIs_shape hu with ⟨i, rfl, rfl⟩ | ⟨x, t, rfl, rfl⟩ <;> rcases keyIs_shape hv with ⟨j, rfl, rfl⟩ | ⟨y, u, rfl, rfl⟩
    · refine SeqAt.EqAt.bool_bool i j _ _ _ _ ?_
      have e : decide ((Sum.inl i : Key) = Sum.inl j) = (i == j) := by cases i <;> cases j <;> decide
      rw [← e]; exact h
    · refine SeqAt.EqAt.bool_str i y u _ _ _ _ ?_
      rw [decide_eq_false (fun z => nomatch z)] at h; exact h
    · refine SeqAt.EqAt.str_bool x t j _ _ _ _ ?_
      rw [decide_eq_false (fun z => nomatch z)] at h; exact h
    · have e : decide ((Sum.inr x : Key) = Sum.inr y) = decide (x = y) := by
        by_cases c : x = y
        · rw [decide_eq_true c, decide_eq_true (by rw [c])]
        · rw [decide_eq_false c, decide_eq_false (fun z => c (Sum.inr.inj z))]
      rw [e] at h; exact wpAny_eqBool_str h
  «strs» := fun k x t v h => by
    rcases keyIs_shape h with ⟨i, rfl, e⟩ | ⟨y, u, rfl, e⟩
    · cases e
    · injection e with e1 _
      subst e1
      cases v <;> rfl
theorem mixKind_is (prog : Program) (w : World) (k : Key) (v : Value) : (mixKind prog w).is k v = keyIs k v := rfl
theorem mixKind_int (prog : Program) (w : World) (i : Bool) : (mixKind prog w).is (.inl i) (.bool i) = true := by show boolIs i (.bool i) = true; simp [boolIs]
theorem mixKind_str (prog : Program) (w : World) (x : Str) (t : Tok) : (mixKind prog w).is (.inr x) (.str x t) = true := by show Value.isStrOf x (.str x t) = true; simp [Value.isStrOf]

end L2

namespace L2
open PySem PySem.Spec PyProof.Rows

/-- a value, without the heap -/
inductive V where
  | non | bl (b : Bool) | int (i : Int) | str (x : Str) | byt (b : Array UInt8) | flt (b : UInt64) | ref (a : Addr) | ty (n : String)
  deriving DecidableEq

def RelV : V → Value → Prop
  | .non, u => u = Value.none
  | .bl b, u => u = Value.bool b
  | .int i, u => ∃ t, u = Value.int i t
  | .str x, u => ∃ t, u = Value.str x t
  | .byt b, u => ∃ t, u = Value.bytes b t
  | .flt b, u => ∃ t, u = Value.float b t
  | .ref a, u => u = Value.ref a
  | .ty n, u => u = Value.type n

abbrev Vals : List V → List Value → Prop := Paired RelV
theorem Vals.length {xs : List V} {us : List Value} (r : Vals xs us) : xs.length = us.length := Paired.length r
theorem Vals.get : ∀ {xs : List V} {us : List Value} {i : Nat} {x : V}, Vals xs us → xs[i]? = some x → ∃ u, us[i]? = some u ∧ RelV x u
  | _, _, _, _, .nil, e => by simp at e
  | _, _, 0, _, .cons r _, e => by simp at e; subst e; exact ⟨_, rfl, r⟩
  | _, _, i + 1, x, .cons _ t, e => by
    obtain ⟨u, h1, h2⟩ := Vals.get (i := i) (x := x) t (by simpa using e)
    exact ⟨u, by simpa using h1, h2⟩
theorem Vals.set {x : V} {u : Value} (r : RelV x u) : ∀ {xs : List V} {us : List Value} (i : Nat), Vals xs us → Vals (xs.set i x) (us.set i u)
  | _, _, _, .nil => .nil
  | _, _, 0, .cons _ t => .cons r t
  | _, _, i + 1, .cons q t => .cons q (Vals.set r i t)
theorem Vals.append : ∀ {xs ys : List V} {us ws : List Value}, Vals xs us → Vals ys ws → Vals (xs ++ ys) (us ++ ws)
  | _, _, _, _, .nil, s => s
  | _, _, _, _, .cons r t, s => .cons r (Vals.append t s)
theorem Vals.take : ∀ {xs : List V} {us : List Value} (n : Nat), Vals xs us → Vals (xs.take n) (us.take n)
  | _, _, 0, _ => .nil
  | _, _, _ + 1, .nil => .nil
  | _, _, n + 1, .cons r t => .cons r (Vals.take n t)
theorem Vals.drop : ∀ {xs : List V} {us : List Value} (n : Nat), Vals xs us → Vals (xs.drop n) (us.drop n)
  | _, _, 0, r => r
  | _, _, _ + 1, .nil => .nil
  | _, _, n + 1, .cons _ t => Vals.drop n t
theorem Vals.none_of : ∀ {xs : List V} {us : List Value} {i : Nat}, Vals xs us → xs[i]? = none → us[i]? = none := fun {xs us i} r e => by
  have h1 := r.length
  have h2 : xs.length ≤ i := List.getElem?_eq_none_iff.mp e
  exact List.getElem?_eq_none_iff.mpr (by omega)

def RelO : Option V → Option Value → Prop
  | some v, some u => RelV v u
  | none, none => True
  | _, _ => False
def KV {κ : Type} : List (κ × V) → List (κ × Value) → Prop := Paired fun (p : κ × V) (q : κ × Value) => p.1 = q.1 ∧ RelV p.2 q.2

/-- a key of a dict (00_mix): an int or a text -/
def kV : Key → V
  | .inl i => .bl i
  | .inr x => .str x

/-- what stands at a tracked address -/
inductive HO where
  /-- a list -/
  | lst (xs : List V)
  /-- a tuple (never changes) -/
  | tup (xs : List V)
  /-- a dict whose keys are ints and texts; one whose keys are tuples of ints and texts (the empty one is both) -/
  | dK (kvs : List (Key × V)) | dT (kvs : List (List Key × V))
  /-- a set of ints: its members, its size -/
  | set (S : Int → Bool) (n : Nat)
  /-- an instance of the class at C, its dict at dx, its attributes -/
  | ins (C dx : Addr) (fs : List (Str × V))
  /-- the dict of the instance at x -/
  | own (x : Addr)
  /-- the dict of an exception -/
  | xd (fs : List (Str × V))
  /-- a bound method, f of x -/
  | met (f x : Addr)
  /-- a range object lo, lo + 1, .. below hi -/
  | rng (lo hi : Int)
  /-- a thing that is known to the object (the script; a dict while a loop walks it): read, never written while it is so -/
  | frz (o : Obj) (u : HO)
  /-- a code object's table -/
  | tbl (ps : Array Value)
  /-- any other thing, by what is true of its one object (a def of one's own: SetO a S n := HO.ext fun h => ..) -/
  | ext (φ : Heap → Prop)

abbrev Hp := Addr → Option HO
def upd (H : Hp) (a : Addr) (o : HO) : Hp := fun b => if b = a then some o else H b
theorem upd_same {H : Hp} {a : Addr} {o : HO} : upd H a o a = some o := by unfold upd; rw [if_pos rfl]
theorem upd_ne {H : Hp} {a b : Addr} {o : HO} (h : b ≠ a) : upd H a o b = H b := by unfold upd; rw [if_neg h]
theorem upd_upd {H : Hp} {a : Addr} {o u : HO} : upd (upd H a o) a u = upd H a u := by
  funext b; unfold upd; split <;> rfl
/-- two objects of different content stand apart -/
theorem ne_of {H : Hp} {a b : Addr} {o u : HO} (h : H a = some o) (h' : H b = some u) (d : o ≠ u) : a ≠ b := by
  intro e; subst e; rw [h] at h'; exact d (Option.some.inj h')
theorem ne_of_none {H : Hp} {a b : Addr} {o : HO} (h : H a = some o) (h' : H b = none) : a ≠ b := by
  intro e; subst e; rw [h] at h'; cases h'

section
variable (P : Program) (w : World)
def ObjOk (H : Hp) (h : Heap) (a : Addr) : HO → Prop
  | .lst xs => xs.length ≤ sizeLine ∧ ∃ (its : List Value) (n : Nat), Vals xs its ∧ h.get? a = some { cls := .type "list", data := .seq its.toArray n }
  | .tup xs => xs.length ≤ sizeLine ∧ ∃ its : List Value, Vals xs its ∧ IsTup h a its.toArray
  | .dK kvs => kvs.length ≤ sizeLine ∧ (a == sysModules) = false ∧ ∃ vs, KV kvs vs ∧ h.DictOf (mixKind P w) a vs
  | .dT kvs => kvs.length ≤ sizeLine ∧ (a == sysModules) = false ∧ ∃ xs : List (List Key × Addr × Value),
      Paired (fun (p : List Key × V) (q : List Key × Addr × Value) => p.1 = q.1 ∧ H q.2.1 = some (.tup (p.1.map kV)) ∧ RelV p.2 q.2.2) kvs xs ∧
      ∃ o es ep, h.get? a = some o ∧ o.ExactDict ∧ o.data = .dict es ep ∧ es.toList = xs.map (entryOfKey (tupleKind (mixKind P w))) ∧ (xs.map (·.1)).Nodup
  | .set S n => h.SetOf (intKind P w) a S n
  | .ins C dx fs => H dx = some (.own a) ∧ fs.length ≤ 1000 ∧ dx ≠ a ∧ h.get? a = some (PySem.W.instObj C dx) ∧
      ∃ mA, h.Ns1 dx mA ∧ (∀ f, RelO (fs.lookup f) (mA f)) ∧ PySem.Within mA (fs.map (·.1))
  | .own _ => ∃ o, h.get? a = some o
  | .xd fs => ∃ mA, h.Ns1 a mA ∧ ∀ f, RelO (fs.lookup f) (mA f)
  | .rng lo hi => ∃ t u v, h.get? a = some { cls := .type "range", data := .fields #[.int lo t, .int hi u, .int 1 v] }
  | .frz o u => h.get? a = some o ∧ ObjOk H h a u
  | .tbl ps => h.get? a = some { cls := .none, data := .fields ps }
  | .met f x => h.get? a = some (PySem.W.methodObj (.ref f) (.ref x))
  | .ext φ => φ h ∧ (∃ o, h.get? a = some o) ∧ ∀ h1 h2 : Heap, φ h1 → (∀ o, h1.get? a = some o → h2.get? a = some o) → φ h2
/-- the abstract heap is held -/
def HOk (H : Hp) (h : Heap) : Prop := ∀ a o, H a = some o → ObjOk P w H h a o
end

section
variable {P : Program} {w : World} {H H' : Hp} {h h' : Heap} {a : Addr} {o : HO}
theorem ObjOk.lt (x : ObjOk P w H h a o) : a < h.objs.size := by
  cases o with
  | lst xs => obtain ⟨_, _, _, _, e⟩ := x; exact Heap.lt_size e
  | tup xs => obtain ⟨_, _, _, p⟩ := x; exact p.lt
  | dK kvs => obtain ⟨_, _, _, _, o, _, _, e, _⟩ := x; exact Heap.lt_size e
  | dT kvs => obtain ⟨_, _, _, _, o, _, _, e, _⟩ := x; exact Heap.lt_size e
  | set S n => obtain ⟨o, _, _, _, e, _⟩ := x; exact Heap.lt_size e
  | ins C dx fs => obtain ⟨_, _, _, e, _⟩ := x; exact Heap.lt_size e
  | own y => obtain ⟨_, e⟩ := x; exact Heap.lt_size e
  | xd fs => obtain ⟨_, ⟨_, _, _, e, _⟩, _⟩ := x; exact Heap.lt_size e
  | rng lo hi => obtain ⟨_, _, _, e⟩ := x; exact Heap.lt_size e
  | frz ob u => obtain ⟨e, _⟩ := x; exact Heap.lt_size e
  | tbl ps => exact Heap.lt_size (show h.get? a = some _ from x)
  | met f y => exact Heap.lt_size (show h.get? a = some _ from x)
  | ext φ => obtain ⟨_, ⟨_, e⟩, _⟩ := x; exact Heap.lt_size e
theorem Paired.mapP {α β : Type} {F G : α → β → Prop} : ∀ {l₁ : List α} {l₂ : List β}, Paired F l₁ l₂ → (∀ a b, F a b → G a b) → Paired G l₁ l₂
  | _, _, .nil, _ => .nil
  | _, _, .cons r t, f => .cons (f _ _ r) (Paired.mapP t f)
theorem Paired.imp' {α β : Type} {F G : α → β → Prop} (f : ∀ a b, F a b → G a b) {l₁ : List α} {l₂ : List β} (r : Paired F l₁ l₂) : Paired G l₁ l₂ := Paired.mapP r f
/-- what an object's description leans on: its own object, its own dict, the tuples -/
theorem ObjOk.stay (x : ObjOk P w H h a o) (k : ∀ b u, (b = a ∨ H b = some (.own a)) → h.get? b = some u → h'.get? b = some u)
    (ho : ∀ b, H b = some (.own a) → H' b = some (.own a)) (ht : ∀ b xs, H b = some (.tup xs) → H' b = some (.tup xs)) : ObjOk P w H' h' a o := by
  induction o with
  | lst xs => obtain ⟨z, its, n, r, e⟩ := x; exact ⟨z, its, n, r, k _ _ (.inl rfl) e⟩
  | tup xs => obtain ⟨z, its, r, ob, e, c⟩ := x; exact ⟨z, its, r, ob, k _ _ (.inl rfl) e, c⟩
  | dK kvs => obtain ⟨z, y, vs, r, ob, es, ep, e, c⟩ := x; exact ⟨z, y, vs, r, ob, es, ep, k _ _ (.inl rfl) e, c⟩
  | dT kvs =>
    obtain ⟨z, y, xs, r, ob, es, ep, e, c⟩ := x
    exact ⟨z, y, xs, Paired.mapP r fun p q z => ⟨z.1, ht _ _ z.2.1, z.2.2⟩, ob, es, ep, k _ _ (.inl rfl) e, c⟩
  | set S n => obtain ⟨ob, es, ep, t, e, c⟩ := x; exact ⟨ob, es, ep, t, k _ _ (.inl rfl) e, c⟩
  | ins C dx fs =>
    obtain ⟨d, z, ne, e, mA, ⟨od, es, ep, e2, c⟩, r⟩ := x
    exact ⟨ho _ d, z, ne, k _ _ (.inl rfl) e, mA, ⟨od, es, ep, k _ _ (.inr d) e2, c⟩, r⟩
  | own y => obtain ⟨ob, e⟩ := x; exact ⟨ob, k _ _ (.inl rfl) e⟩
  | xd fs => obtain ⟨mA, ⟨od, es, ep, e, c⟩, r⟩ := x; exact ⟨mA, ⟨od, es, ep, k _ _ (.inl rfl) e, c⟩, r⟩
  | rng lo hi => obtain ⟨t, u, v, e⟩ := x; exact ⟨t, u, v, k _ _ (.inl rfl) e⟩
  | frz ob u ih => obtain ⟨e, q⟩ := x; exact ⟨k _ _ (.inl rfl) e, ih q⟩
  | tbl ps =>
    have e : h.get? a = some { cls := .none, data := .fields ps } := x
    show h'.get? a = some { cls := .none, data := .fields ps }
    exact k a _ (.inl rfl) e
  | met f y =>
    have e : h.get? a = some (PySem.W.methodObj (.ref f) (.ref y)) := x
    show h'.get? a = some (PySem.W.methodObj (.ref f) (.ref y))
    exact k a _ (.inl rfl) e
  | ext φ => obtain ⟨p, ⟨o, e⟩, st⟩ := x; exact ⟨st _ _ p fun o q => k _ _ (.inl rfl) q, ⟨o, k _ _ (.inl rfl) e⟩, st⟩
theorem HOk.lt (x : HOk P w H h) (e : H a = some o) : a < h.objs.size := (x a o e).lt
theorem HOk.fresh (x : HOk P w H h) (e : h.objs.size ≤ a) : H a = none := by
  cases q : H a with
  | none => rfl
  | some u => exact absurd (Nat.lt_of_lt_of_le (x.lt q) e) (Nat.lt_irrefl _)
/-- every object of the heap is kept -/
theorem HOk.kept (x : HOk P w H h) (k : ∀ b u, h.get? b = some u → h'.get? b = some u) : HOk P w H h' := fun a o e =>
  (x a o e).stay (fun b u _ q => k b u q) (fun _ q => q) fun _ _ q => q
/-- a new object is laid and tracked -/
theorem HOk.laid (x : HOk P w H h) (k : ∀ b u, h.get? b = some u → h'.get? b = some u) (hp : h.objs.size ≤ a) (new : ObjOk P w (upd H a o) h' a o) : HOk P w (upd H a o) h' := fun b u e => by
  have hn := x.fresh hp
  by_cases hb : b = a
  · subst hb; rw [upd_same] at e; cases e; exact new
  · rw [upd_ne hb] at e
    exact (x b u e).stay (fun c v _ q => k c v q) (fun c q => by rw [upd_ne (ne_of_none q hn)]; exact q) fun c xs q => by rw [upd_ne (ne_of_none q hn)]; exact q
end

/-- what may be read as u: it is u, or a known u -/
def Rd (H : Hp) (a : Addr) (u : HO) : Prop := H a = some u ∨ ∃ o, H a = some (.frz o u)
theorem Rd.of {H : Hp} {a : Addr} {u : HO} (h : H a = some u) : Rd H a u := .inl h
theorem Rd.ok {P : Program} {w : World} {H : Hp} {h : Heap} {a : Addr} {u : HO} (r : Rd H a u) (x : HOk P w H h) : ObjOk P w H h a u := by
  rcases r with r | ⟨o, r⟩
  · exact x a u r
  · obtain ⟨_, q⟩ := x a _ r
    exact q
/-- what may be written -/
def Mut : Option HO → Prop
  | some (.lst _) => True
  | some (.dK _) => True
  | some (.dT _) => True
  | some (.set _ _) => True
  | some (.ins _ _ _) => True
  | some (.ext _) => True
  | _ => False
section
variable {P : Program} {w : World} {H : Hp} {h h' : Heap} {x e : Addr} {o' : HO}
/-- the object at e is changed: x itself, or the dict of the instance x -/
theorem HOk.write (ok : HOk P w H h) (mu : Mut (H x)) (he : e = x ∨ H e = some (.own x)) (k : ∀ b u, b ≠ e → h.get? b = some u → h'.get? b = some u) (heo : ∃ u, h'.get? e = some u)
    (new : ObjOk P w (upd H x o') h' x o') : HOk P w (upd H x o') h' := fun b u q => by
  have nown : ∀ c y, H c = some (.own y) → c ≠ x := fun c y r z => by subst z; rw [r] at mu; exact mu
  have ntup : ∀ c xs, H c = some (.tup xs) → c ≠ x := fun c xs r z => by subst z; rw [r] at mu; exact mu
  by_cases hb : b = x
  · subst hb; rw [upd_same] at q; cases q; exact new
  · rw [upd_ne hb] at q
    by_cases hbe : b = e
    · have q' : H b = some (.own x) := by
        rcases he with z | z
        · exact absurd (hbe.trans z) hb
        · rw [hbe]; exact z
      rw [q] at q'; cases q'
      obtain ⟨v, hv⟩ := heo
      exact ⟨v, by rw [hbe]; exact hv⟩
    · refine (ok b u q).stay (fun c v hc r => k c v ?_ r) (fun c r => by rw [upd_ne (nown c b r)]; exact r) fun c xs r => by rw [upd_ne (ntup c xs r)]; exact r
      rcases hc with rfl | hc
      · exact hbe
      · rintro rfl
        rcases he with z | z
        · exact nown c b hc z
        · rw [hc] at z; cases z; exact hb rfl
end

/-! ### kept unless tracked; of the frames at fs (the callers') the slots may change (an exception that passes writes there); of the records at ex (iterators) nothing is said -/
structure Un (fs ex : List Addr) (H H' : Hp) (h h' : Heap) : Prop where
  keep : ∀ b o, h.get? b = some o → H b = none → b ∉ fs → b ∉ ex → h'.get? b = some o
  slot : ∀ b o, h.get? b = some o → H b = none → b ∈ fs → b ∉ ex → ∃ sl, h'.get? b = some { o with slots := sl }
  free : ∀ b o, h.get? b = some o → H b = none → b ∉ ex → H' b = none
  there : ∀ b o, h.get? b = some o → b ∉ ex → ∃ o', h'.get? b = some o'
  tups : ∀ b xs, H b = some (.tup xs) → H' b = some (.tup xs)
  frzs : ∀ b o u, H b = some (.frz o u) → H' b = some (.frz o u)
  tbls : ∀ b ps, H b = some (.tbl ps) → ∃ more, H' b = some (.tbl (ps ++ more))
section
variable {fs fs' ex ex' : List Addr} {H H1 H2 : Hp} {h h1 h2 h' : Heap} {a x e : Addr} {o : HO}
theorem Un.any (u : Un fs ex H H1 h h1) {b : Addr} {ob : Obj} (q : h.get? b = some ob) (n : H b = none) (hx : b ∉ ex) : ∃ sl, h1.get? b = some { ob with slots := sl } := by
  by_cases hb : b ∈ fs
  · exact u.slot b ob q n hb hx
  · exact ⟨ob.slots, u.keep b ob q n hb hx⟩
theorem Un.trans (a : Un fs ex H H1 h h1) (b : Un fs ex H1 H2 h1 h2) : Un fs ex H H2 h h2 where
  keep := fun c ob q n hc hx => b.keep c ob (a.keep c ob q n hc hx) (a.free c ob q n hx) hc hx
  slot := fun c ob q n hc hx => by
    obtain ⟨sl, e1⟩ := a.slot c ob q n hc hx
    obtain ⟨sl', e2⟩ := b.slot c _ e1 (a.free c ob q n hx) hc hx
    exact ⟨sl', e2⟩
  free := fun c ob q n hx => by
    obtain ⟨o', e1⟩ := a.there c ob q hx
    exact b.free c o' e1 (a.free c ob q n hx) hx
  there := fun c ob q hx => by
    obtain ⟨o', e1⟩ := a.there c ob q hx
    exact b.there c o' e1 hx
  tups := fun c xs q => b.tups c xs (a.tups c xs q)
  frzs := fun c ob xs q => b.frzs c ob xs (a.frzs c ob xs q)
  tbls := fun c ps q => by
    obtain ⟨m1, e1⟩ := a.tbls c ps q
    obtain ⟨m2, e2⟩ := b.tbls c _ e1
    exact ⟨m1 ++ m2, by rw [e2, Array.append_assoc]⟩
theorem Un.kept (k : ∀ b u, h.get? b = some u → h'.get? b = some u) : Un fs ex H H h h' :=
  ⟨fun b ob q _ _ _ => k b ob q, fun b ob q _ _ _ => ⟨ob.slots, k b ob q⟩, fun _ _ _ n _ => n, fun b ob q _ => ⟨ob, k b ob q⟩, fun _ _ q => q, fun _ _ _ q => q, fun _ ps q => ⟨#[], by rw [q]; simp⟩⟩
theorem Un.refl : Un fs ex H H h h := Un.kept fun _ _ q => q
theorem Un.laid (k : ∀ b u, h.get? b = some u → h'.get? b = some u) (hp : h.objs.size ≤ a) (hn : H a = none) : Un fs ex H (upd H a o) h h' where
  keep := fun b u q _ _ _ => k b u q
  slot := fun b u q _ _ _ => ⟨u.slots, k b u q⟩
  free := fun b u q n _ => by rw [upd_ne (Nat.ne_of_lt (Nat.lt_of_lt_of_le (Heap.lt_size q) hp))]; exact n
  there := fun b u q _ => ⟨u, k b u q⟩
  tups := fun b xs q => by rw [upd_ne (ne_of_none q hn)]; exact q
  frzs := fun b u xs q => by rw [upd_ne (ne_of_none q hn)]; exact q
  tbls := fun b ps q => ⟨#[], by rw [upd_ne (ne_of_none q hn), q]; simp⟩
theorem Un.write (mu : Mut (H x)) (he : e = x ∨ H e = some (.own x)) (k : ∀ b u, b ≠ e → h.get? b = some u → h'.get? b = some u) (heo : ∃ u, h'.get? e = some u) : Un fs ex H (upd H x o) h h' := by
  have hx : ∀ b, H b = none → b ≠ x := fun b n z => by subst z; rw [n] at mu; exact mu
  have hb : ∀ b, H b = none → b ≠ e := fun b n z => by
    subst z
    rcases he with r | r
    · exact hx b n r
    · rw [n] at r; cases r
  have hm : ∀ b u, H b = some u → ¬ Mut (some u) → b ≠ x := fun b u q nm z => by subst z; rw [q] at mu; exact nm mu
  refine ⟨fun b u q n _ _ => k b u (hb b n) q, fun b u q n _ _ => ⟨u.slots, k b u (hb b n) q⟩, fun b u q n _ => by rw [upd_ne (hx b n)]; exact n, fun b u q _ => ?_,
    fun b xs q => by rw [upd_ne (hm b _ q fun z => z)]; exact q, fun b u xs q => by rw [upd_ne (hm b _ q fun z => z)]; exact q, fun b ps q => ⟨#[], by rw [upd_ne (hm b _ q fun z => z), q]; simp⟩⟩
  by_cases hbe : b = e
  · subst hbe; exact heo
  · exact ⟨u, k b u hbe q⟩
theorem Un.mono (u : Un fs ex H H1 h h1) (hs : ∀ b ∈ fs, b ∈ fs') (hx : ∀ b ∈ ex, b ∈ ex') : Un fs' ex' H H1 h h1 :=
  ⟨fun b ob q n hb he => u.keep b ob q n (fun z => hb (hs b z)) fun z => he (hx b z), fun _ _ q n _ he => u.any q n fun z => he (hx _ z), fun b ob q n he => u.free b ob q n fun z => he (hx b z), fun b ob q he => u.there b ob q fun z => he (hx b z), u.tups, u.frzs, u.tbls⟩
end

/-! ### the heap without what is tracked -/
def trk (h : Heap) (H : Hp) : List Addr := (List.range h.objs.size).filter fun a => (H a).isSome
def hidT (h : Heap) (H : Hp) : Heap := PySem.W.hideAll h (trk h H)
theorem hidT_size (h : Heap) (H : Hp) : (hidT h H).objs.size = h.objs.size := PySem.W.hideAll_size _ _
theorem hidT_get {h : Heap} {H : Hp} {b : Addr} {o : Obj} (e : h.get? b = some o) (n : H b = none) : (hidT h H).get? b = some o :=
  PySem.W.hideAll_get _ e fun hm => by
    have q : (H b).isSome = true := (List.mem_filter.mp hm).2
    rw [n] at q; simp at q
theorem of_hidT {h : Heap} {H : Hp} {b : Addr} {o : Obj} (e : (hidT h H).get? b = some o) : h.get? b = some o ∧ H b = none := by
  have e' : h.get? b = some o := PySem.W.of_hideAll (trk h H) e
  refine ⟨e', ?_⟩
  cases q : H b with
  | none => rfl
  | some x =>
    have hm : b ∈ trk h H := List.mem_filter.mpr ⟨List.mem_range.mpr (Heap.lt_size e'), by simp [q]⟩
    have z : (hidT h H).get? b = none := PySem.W.hideAll_none (trk h H) hm
    rw [z] at e; cases e

/-! ### OpenK's ledger, filled with every new object but one -/
def allNews (g h : Heap) (L : Addr) : List (Addr × Obj) := (List.range h.objs.size).filterMap fun a => if a = L ∨ (g.get? a).isSome = true then none else (h.get? a).map fun o => (a, o)
theorem mem_allNews {g h : Heap} {L a : Addr} {o : Obj} (h1 : a ≠ L) (h2 : g.get? a = none) (h3 : h.get? a = some o) : (a, o) ∈ allNews g h L :=
  List.mem_filterMap.mpr ⟨a, List.mem_range.mpr (Heap.lt_size h3), by simp [h1, h2, h3]⟩
theorem of_mem_allNews {g h : Heap} {L : Addr} {p : Addr × Obj} (hp : p ∈ allNews g h L) : p.1 ≠ L ∧ g.get? p.1 = none ∧ h.get? p.1 = some p.2 := by
  obtain ⟨b, _, e⟩ := List.mem_filterMap.mp hp
  split at e
  · cases e
  · rename_i hn
    cases q : h.get? b with
    | none => rw [q] at e; simp at e
    | some u =>
      rw [q] at e
      simp only [Option.map_some, Option.some.injEq] at e
      subst e
      refine ⟨fun z => hn (.inl z), ?_, q⟩
      show g.get? b = none
      cases r : g.get? b with
      | none => rfl
      | some v => exact (hn (.inr (by simp [r]))).elim
def rest (g h : Heap) (L d : Addr) : List (Addr × Obj) := (allNews g h L).filter fun p => decide (p.1 ≠ d)
theorem rest_ne {g h : Heap} {L d : Addr} : ∀ p ∈ rest g h L d, p.1 ≠ d := fun p hp => of_decide_eq_true (List.mem_filter.mp hp).2
theorem mem_rest {g h : Heap} {L d a : Addr} {o : Obj} (h1 : a ≠ L) (h2 : g.get? a = none) (h3 : h.get? a = some o) (h4 : a ≠ d) : (a, o) ∈ rest g h L d :=
  List.mem_filter.mpr ⟨mem_allNews h1 h2 h3, decide_eq_true h4⟩
theorem news_all {g h : Heap} {L : Addr} : News g L h (allNews g h L) := fun p hp => let ⟨a, b, c⟩ := of_mem_allNews hp; ⟨c, a, b⟩
theorem news_at {g h : Heap} {L d : Addr} {o : Obj} (h1 : d ≠ L) (h2 : g.get? d = none) (h3 : h.get? d = some o) : News g L h ((d, o) :: rest g h L d) := fun p hp => by
  rcases List.mem_cons.mp hp with rfl | hp
  · exact ⟨h3, h1, h2⟩
  · exact news_all p (List.mem_filter.mp hp).1
/-- behind a rule that changed d alone: all else but the frame is kept -/
theorem kept_of_news {g h h' : Heap} {L d : Addr} {m : Str → Option Value} (k : ∀ b o, g.get? b = some o → h.get? b = some o) (F : Fr g L h' m) (N : News g L h' (rest g h L d)) :
    ∀ b o, b ≠ L → b ≠ d → h.get? b = some o → h'.get? b = some o := fun b o h1 h2 e => by
  cases q : g.get? b with
  | some u =>
    have := k b u q
    rw [e] at this; cases this
    exact F.keep b _ q
  | none => exact (N (b, o) (mem_rest h1 q e h2)).1
end L2

namespace L2
open PySem PySem.Spec PyProof.Rows

/-- the module's facts, over the base: the heap at the law's entry without what is tracked there -/
structure Mod (K : PySem.W.Frag) (mg : Str → Option Value) (base : Heap) : Prop where
  kin : K.In base
  glob : base.Ns mainGlobals mg
  blt : ∃ mb, base.Ns builtinsNs mb ∧ ∀ x : Str, x ≠ "__name__" → mb x = bootBuiltins x
  nolimit : base.NoLimit

/-- the context: a def's body (or a comprehension's block) running. base: fixed through the whole law; s₀, H₀: the entry; outer: the frames whose slots others may change (a def's callers); stack: all frames that run;
   ex: iterators that were made ahead of the entry and are walked here (a comprehension's); fn: the names whose cells were made at the entry (a def: all; a comprehension's block: its own); calm: not within an except suite; pn: pins that every state bears; xe: what is wanted of an exception that leaves the code -/
structure Cx where
  prog : Program
  w : World
  K : PySem.W.Frag
  mg : Str → Option Value
  base : Heap
  A : Around
  N : List Str
  s₀ : Shared
  H₀ : Hp
  env : Env
  outer : List Env
  stack : List Env
  ex : List Addr
  fn : Str → Bool
  calm : Bool
  pn : List (Addr × Obj)
  xe : Value → Shared → Prop
/-- the callers' frames -/
def frs (l : List Env) : List Addr := l.filterMap (·.frame)
abbrev Cx.fs (X : Cx) : List Addr := frs X.outer

def Vis (sc : Scope) (x : Str) : Prop := sc.names.lookup x = some .local ∨ sc.names.lookup x = some .cell ∨ sc.names.lookup x = some .free
def Loc (sc : Scope) (x : Str) : Prop := sc.names.lookup x = some .local ∨ sc.names.lookup x = some .cell
def Look (env : Env) (h : Heap) (m : Str → Option Value) (x : Str) (u : Value) : Prop :=
  (env.kindOf x = some .local ∧ m x = some u) ∨ ((env.kindOf x = some .cell ∨ env.kindOf x = some .free) ∧ ∃ c, env.cells.lookup x = some c ∧ h.IsCell c (some u))

structure Cx.Ok (X : Cx) : Prop where
  mod : Mod X.K X.mg X.base
  kind : X.env.scope.kind = .function
  glob : X.env.globals = mainGlobals
  blt : X.env.builtins = builtinsNs
  above : X.s₀.heap.objs.size ≤ X.env.locals
  inj : ∀ x y c, X.env.cells.lookup x = some c → X.env.cells.lookup y = some c → x = y
  has : ∀ x, (X.env.kindOf x = some .cell ∨ X.env.kindOf x = some .free) → ∃ c, X.env.cells.lookup x = some c
  cab : ∀ x c, X.fn x = true → X.env.cells.lookup x = some c → X.s₀.heap.objs.size ≤ c
  hd : X.calm = true → X.A.handled = none
  frames : X.A.frames = some X.stack
  stk : X.stack = X.outer ∨ (X.stack = X.env :: X.outer ∧ X.env.frame = some X.env.locals)
  exf : ∀ b ∈ X.ex, b ≠ X.env.locals ∧ ∀ x c, X.env.cells.lookup x = some c → c ≠ b
  bs : ∀ b o, X.base.get? b = some o → X.s₀.heap.get? b = some o ∧ X.H₀ b = none
  bsz : X.base.objs.size ≤ X.s₀.heap.objs.size
  noex : ∀ b o, X.base.get? b = some o → b ∉ X.ex
  exfs : ∀ b ∈ X.ex, b ∉ X.fs
  funs : X.s₀.heap.FunFrames X.base X.outer
  frf : ∀ b ∈ X.fs, X.H₀ b = none

structure Inv (X : Cx) (pins : List (Addr × Obj)) (σ : List (Option V)) (H : Hp) (s : Shared) : Prop where
  ok : X.Ok
  os : s.os = X.s₀.os
  bare : AllBare s.gens
  base : Un X.fs X.ex X.H₀ H X.s₀.heap s.heap
  loc : ∃ m, s.heap.Ns X.env.locals m ∧ ∀ (i : Nat) (x : Str) (v : V), X.N[i]? = some x → σ[i]? = some (some v) → Vis X.env.scope x → ∃ u, RelV v u ∧ Look X.env s.heap m x u
  cell : ∀ x c, X.env.cells.lookup x = some c → ∃ v, s.heap.IsCell c v
  free : H X.env.locals = none
  freeC : ∀ x c, X.env.cells.lookup x = some c → H c = none
  pin : ∀ p ∈ X.pn ++ pins, s.heap.get? p.1 = some p.2 ∧ H p.1 = none ∧ p.1 ≠ X.env.locals ∧ p.1 ∉ X.fs ∧ ∀ v, p.2.data ≠ .cell v
  hok : HOk X.prog X.w H s.heap
  len : σ.length = X.N.length

section
variable {X : Cx} {pins : List (Addr × Obj)} {σ : List (Option V)} {H H' : Hp} {s : Shared} {h' : Heap}

theorem Cx.Ok.nofr (ok : X.Ok) {b : Addr} {o : Obj} (e : X.base.get? b = some o) : b ∉ X.fs := fun hb => by
  have := (ok.funs.mem hb).1
  rw [e] at this; cases this
theorem Inv.bs (I : Inv X pins σ H s) : ∀ b o, X.base.get? b = some o → s.heap.get? b = some o ∧ H b = none := fun b o e =>
  ⟨I.base.keep b o (I.ok.bs b o e).1 (I.ok.bs b o e).2 (I.ok.nofr e) (I.ok.noex b o e), I.base.free b o (I.ok.bs b o e).1 (I.ok.bs b o e).2 (I.ok.noex b o e)⟩
theorem Inv.bk (I : Inv X pins σ H s) : ∀ b o, X.base.get? b = some o → s.heap.get? b = some o := fun b o e => (I.bs b o e).1
theorem Inv.mod (I : Inv X pins σ H s) : Mod X.K X.mg X.base := I.ok.mod
theorem Inv.kIn (I : Inv X pins σ H s) : X.K.In s.heap := I.ok.mod.kin.keeps I.bk
theorem Inv.nolimit (I : Inv X pins σ H s) : s.heap.NoLimit := I.ok.mod.nolimit.keeps I.bk
/-- the frame over the base: for OpenK's rules (K.In X.base is I.mod.kin) -/
theorem Inv.fr (I : Inv X pins σ H s) : ∃ m, Fr X.base X.env.locals s.heap m :=
  let ⟨m, hn, _⟩ := I.loc
  ⟨m, hn, I.bk, Nat.le_trans I.ok.bsz I.ok.above⟩
theorem Inv.lt (I : Inv X pins σ H s) : X.env.locals < s.heap.objs.size := let ⟨_, hn, _⟩ := I.loc; hn.lt
theorem Inv.sz (I : Inv X pins σ H s) : X.s₀.heap.objs.size ≤ s.heap.objs.size := Nat.le_trans I.ok.above (Nat.le_of_lt I.lt)
theorem Inv.nofs (I : Inv X pins σ H s) {a : Addr} (h : s.heap.objs.size ≤ a) : a ∉ X.fs := fun hb => by
  obtain ⟨_, o, ho, _⟩ := I.ok.funs.mem hb
  exact absurd (Nat.lt_of_lt_of_le (Heap.lt_size ho) (Nat.le_trans I.sz h)) (Nat.lt_irrefl _)
theorem Inv.cne (I : Inv X pins σ H s) : ∀ x c, X.env.cells.lookup x = some c → c ≠ X.env.locals := fun x c e z => by
  obtain ⟨v, o, ho, hd⟩ := I.cell x c e
  obtain ⟨m, ⟨o', es, ep, ho', hd', _⟩, _⟩ := I.loc
  rw [z, ho'] at ho; cases ho; rw [hd'] at hd; cases hd
theorem Inv.funs (I : Inv X pins σ H s) : s.heap.FunFrames X.base X.outer := by
  have all : ∀ (l : List Env), (∀ b ∈ frs l, b ∈ X.fs) → X.s₀.heap.FunFrames X.base l → s.heap.FunFrames X.base l := by
    intro l
    induction l with
    | nil => intro _ _; trivial
    | cons env r ih =>
      intro hs hl
      obtain ⟨hk, ⟨L, o, hf, hn, ho, hd⟩, hr⟩ := hl
      have hL : L ∈ X.fs := hs L (by unfold frs; rw [List.filterMap_cons, hf]; exact List.mem_cons_self)
      obtain ⟨sl, e⟩ := I.base.slot L o ho (I.ok.frf L hL) hL fun z => I.ok.exfs L z hL
      exact ⟨hk, ⟨L, _, hf, hn, e, hd⟩, ih (fun b hb => hs b (by unfold frs; rw [List.filterMap_cons, hf]; exact List.mem_cons_of_mem _ hb)) hr⟩
  exact all X.outer (fun _ hb => hb) I.ok.funs

/-- the frames that run, for a call -/
theorem Inv.stack (I : Inv X pins σ H s) : s.heap.FunFrames X.base X.stack := by
  rcases I.ok.stk with e | ⟨e, hf⟩
  · rw [e]; exact I.funs
  · rw [e]
    obtain ⟨m, hn, _⟩ := I.loc
    refine .cons (by rw [I.ok.kind]; decide) hf hn ?_ I.funs
    exact Heap.get?_none_of_le (Nat.le_trans I.ok.bsz I.ok.above)
theorem Inv.stkSub (I : Inv X pins σ H s) : ∀ b ∈ frs X.stack, b ∈ X.env.locals :: X.fs := fun b hb => by
  rcases I.ok.stk with e | ⟨e, hf⟩
  · rw [e] at hb; exact List.mem_cons_of_mem _ hb
  · rw [e] at hb
    unfold frs at hb
    rw [List.filterMap_cons, hf] at hb
    exact hb
theorem Inv.stkFree (I : Inv X pins σ H s) : ∀ b ∈ frs X.stack, H b = none := fun b hb => by
  rcases List.mem_cons.mp (I.stkSub b hb) with e | hb
  · rw [e]; exact I.free
  · obtain ⟨_, o, ho, _⟩ := I.ok.funs.mem hb
    exact I.base.free b o ho (I.ok.frf b hb) fun z => I.ok.exfs b z hb

/-- THE STEP: the untracked objects but the frame and the records at ch are kept (the callers' frames up to slots), the frame's map is kept, the new abstract heap is held -/
theorem Inv.step {g' : Array GenState} {t' : Nat} {d' : Drawn} {ch : List Addr} (I : Inv X pins σ H s)
    (hch : ∀ b ∈ ch, (b ∈ X.ex ∨ X.s₀.heap.objs.size ≤ b) ∧ b ≠ X.env.locals ∧ (∀ x c, X.env.cells.lookup x = some c → c ≠ b) ∧ ∀ p ∈ X.pn ++ pins, p.1 ≠ b)
    (keep : ∀ b o, b ≠ X.env.locals → b ∉ X.fs → b ∉ ch → s.heap.get? b = some o → H b = none → h'.get? b = some o)
    (slot : ∀ b o, b ≠ X.env.locals → b ∈ X.fs → b ∉ ch → s.heap.get? b = some o → H b = none → ∃ sl, h'.get? b = some { o with slots := sl }) (free : ∀ b o, b ∉ ch → s.heap.get? b = some o → H b = none → H' b = none)
    (there : ∀ b o, b ∉ ch → s.heap.get? b = some o → ∃ o', h'.get? b = some o')
    (tups : ∀ b xs, H b = some (.tup xs) → H' b = some (.tup xs)) (frzs : ∀ b o u, H b = some (.frz o u) → H' b = some (.frz o u)) (tbls : ∀ b ps, H b = some (.tbl ps) → ∃ more, H' b = some (.tbl (ps ++ more)))
    (ns : ∀ m, s.heap.Ns X.env.locals m → h'.Ns X.env.locals m) (hok : HOk X.prog X.w H' h') (hg : AllBare g') :
    Inv X pins σ H' { s with heap := h', gens := g', drawn := d', toks := t' } := by
  have neL : ∀ b o, X.s₀.heap.get? b = some o → b ≠ X.env.locals := fun b o e => Nat.ne_of_lt (Nat.lt_of_lt_of_le (Heap.lt_size e) I.ok.above)
  have neC : ∀ b o, X.s₀.heap.get? b = some o → b ∉ X.ex → b ∉ ch := fun b o e hx hb => by
    rcases (hch b hb).1 with z | z
    · exact hx z
    · exact absurd (Nat.lt_of_lt_of_le (Heap.lt_size e) z) (Nat.lt_irrefl _)
  have cellK : ∀ x c, X.env.cells.lookup x = some c → ∀ v, s.heap.IsCell c v → h'.IsCell c v := fun x c e v ⟨o, ho, hd⟩ => by
    have nch : c ∉ ch := fun z => (hch c z).2.2.1 x c e rfl
    by_cases hc : c ∈ X.fs
    · obtain ⟨sl, q⟩ := slot c o (I.cne x c e) hc nch ho (I.freeC x c e)
      exact ⟨_, q, hd⟩
    · exact ⟨o, keep c o (I.cne x c e) hc nch ho (I.freeC x c e), hd⟩
  refine ⟨I.ok, I.os, hg, ⟨fun b o e n hb hx => ?_, fun b o e n hb hx => ?_, fun b o e n hx => ?_, fun b o e hx => ?_, fun b xs e => tups b xs (I.base.tups b xs e), fun b o xs e => frzs b o xs (I.base.frzs b o xs e), fun b ps e => ?_⟩, ?_, fun x c e => ?_, ?_, fun x c e => ?_, fun p hp => ?_, hok, I.len⟩
  · exact keep b o (neL b o e) hb (neC b o e hx) (I.base.keep b o e n hb hx) (I.base.free b o e n hx)
  · obtain ⟨sl, e1⟩ := I.base.slot b o e n hb hx
    obtain ⟨sl', e2⟩ := slot b _ (neL b o e) hb (neC b o e hx) e1 (I.base.free b o e n hx)
    exact ⟨sl', e2⟩
  · obtain ⟨o', e1⟩ := I.base.there b o e hx
    exact free b o' (neC b o e hx) e1 (I.base.free b o e n hx)
  · obtain ⟨o', e1⟩ := I.base.there b o e hx
    exact there b o' (neC b o e hx) e1
  · obtain ⟨m1, e1⟩ := I.base.tbls b ps e
    obtain ⟨m2, e2⟩ := tbls b _ e1
    exact ⟨m1 ++ m2, by rw [e2, Array.append_assoc]⟩
  · obtain ⟨m, hn, hl⟩ := I.loc
    refine ⟨m, ns m hn, fun i x v e1 e2 e3 => ?_⟩
    obtain ⟨u, r, l⟩ := hl i x v e1 e2 e3
    refine ⟨u, r, ?_⟩
    rcases l with l | ⟨k, c, e, z⟩
    · exact .inl l
    · exact .inr ⟨k, c, e, cellK x c e _ z⟩
  · obtain ⟨v, z⟩ := I.cell x c e
    exact ⟨v, cellK x c e v z⟩
  · obtain ⟨m, ⟨o, _, _, ho, _⟩, _⟩ := I.loc
    exact free _ o (fun z => (hch _ z).2.1 rfl) ho I.free
  · obtain ⟨v, o, ho, hd⟩ := I.cell x c e
    exact free c o (fun z => (hch c z).2.2.1 x c e rfl) ho (I.freeC x c e)
  · obtain ⟨e, n, ne, nf, d⟩ := I.pin p hp
    have nch : p.1 ∉ ch := fun z => (hch p.1 z).2.2.2 p hp rfl
    exact ⟨keep p.1 p.2 ne nf nch e n, free p.1 p.2 nch e n, ne, nf, d⟩
/-- .. where the frame's own object is kept too -/
theorem Inv.un {t' : Nat} (I : Inv X pins σ H s) (u : Un X.fs [] H H' s.heap h') (hok : HOk X.prog X.w H' h') : Inv X pins σ H' { s with heap := h', toks := t' } := by
  obtain ⟨m, ⟨o, es, ep, ho, r⟩, _⟩ := id I.loc
  obtain ⟨sl, hL⟩ := u.any ho I.free (by simp)
  exact I.step (g' := s.gens) (d' := s.drawn) (ch := []) (fun _ z => nomatch z) (fun b o _ hb _ e n => u.keep b o e n hb (by simp)) (fun b o _ hb _ e n => u.slot b o e n hb (by simp)) (fun b o _ e n => u.free b o e n (by simp)) (fun b o _ e => u.there b o e (by simp)) u.tups u.frzs u.tbls (fun m' hm => by
    obtain ⟨o', es', ep', ho', r'⟩ := hm
    rw [ho] at ho'; cases ho'
    exact ⟨_, es', ep', hL, r'⟩) hok I.bare
/-- behind a call (or a comprehension's block): the slots of this frame may have changed too, the records at ch may have turned -/
theorem Inv.call {g' : Array GenState} {t' : Nat} {d' : Drawn} {ch : List Addr} (I : Inv X pins σ H s) (u : Un (frs X.stack) ch H H' s.heap h') (hok : HOk X.prog X.w H' h') (hg : AllBare g')
    (hch : ∀ b ∈ ch, (b ∈ X.ex ∨ X.s₀.heap.objs.size ≤ b) ∧ b ≠ X.env.locals ∧ (∀ x c, X.env.cells.lookup x = some c → c ≠ b) ∧ ∀ p ∈ X.pn ++ pins, p.1 ≠ b) :
    Inv X pins σ H' { s with heap := h', gens := g', drawn := d', toks := t' } := by
  obtain ⟨m, ⟨o, es, ep, ho, r⟩, _⟩ := id I.loc
  obtain ⟨sl, hL⟩ := u.any ho I.free fun z => (hch _ z).2.1 rfl
  exact I.step (ch := ch) hch (fun b o hL hb hc e n => u.keep b o e n (fun z => (List.mem_cons.mp (I.stkSub b z)).elim hL hb) hc) (fun b o _ _ hc e n => u.any e n hc) (fun b o hc e n => u.free b o e n hc) (fun b o hc e => u.there b o e hc) u.tups u.frzs u.tbls (fun m' hm => by
    obtain ⟨o', es', ep', ho', r'⟩ := hm
    rw [ho] at ho'; cases ho'
    exact ⟨_, es', ep', hL, r'⟩) hok hg
/-- an untracked record of ours (an iterator) has turned -/
theorem Inv.turned {t' : Nat} {it : Addr} (I : Inv X pins σ H s) (k : ∀ b o, b ≠ it → s.heap.get? b = some o → h'.get? b = some o) (hn : H it = none) (hL : it ≠ X.env.locals)
    (h1 : it ∈ X.ex ∨ X.s₀.heap.objs.size ≤ it) (h2 : ∀ x c, X.env.cells.lookup x = some c → c ≠ it) (h3 : ∀ p ∈ X.pn ++ pins, p.1 ≠ it) : Inv X pins σ H { s with heap := h', toks := t' } := by
  have nit : ∀ b u, H b = some u → b ≠ it := fun b u e z => by rw [z, hn] at e; cases e
  refine I.step (g' := s.gens) (d' := s.drawn) (ch := [it]) (fun b hb => ?_) (fun b o _ _ hc e _ => k b o (fun z => hc (by simp [z])) e) (fun b o _ _ hc e _ => ⟨o.slots, k b o (fun z => hc (by simp [z])) e⟩) (fun _ _ _ _ n => n)
    (fun b o hc e => ⟨o, k b o (fun z => hc (by simp [z])) e⟩) (fun _ _ e => e) (fun _ _ _ e => e) (fun b ps e => ⟨#[], by rw [e]; simp⟩) (fun m hm => ?_) (fun b u e => ?_) I.bare
  · have e : b = it := by simpa using hb
    subst e
    exact ⟨h1, hL, h2, h3⟩
  · obtain ⟨o, es, ep, ho, r⟩ := hm
    exact ⟨o, es, ep, k _ o (Ne.symm hL) ho, r⟩
  · refine (I.hok b u e).stay (fun c v hc q => k c v ?_ q) (fun _ q => q) fun _ _ q => q
    rcases hc with z | z
    · rw [z]; exact nit b u e
    · exact nit c _ z
theorem Inv.tok (I : Inv X pins σ H s) (t : Nat) : Inv X pins σ H { s with toks := t } := I.un (h' := s.heap) (t' := t) Un.refl I.hok
/-- all objects kept -/
theorem Inv.kept {t' : Nat} (I : Inv X pins σ H s) (k : ∀ b u, s.heap.get? b = some u → h'.get? b = some u) : Inv X pins σ H { s with heap := h', toks := t' } := I.un (Un.kept k) (I.hok.kept k)
/-- a new object laid and tracked -/
theorem Inv.laid {a : Addr} {o : HO} {t' : Nat} (I : Inv X pins σ H s) (k : ∀ b u, s.heap.get? b = some u → h'.get? b = some u) (hp : s.heap.objs.size ≤ a) (new : ObjOk X.prog X.w (upd H a o) h' a o) :
    Inv X pins σ (upd H a o) { s with heap := h', toks := t' } := I.un (Un.laid k hp (I.hok.fresh hp)) (I.hok.laid k hp new)
/-- an object written -/
theorem Inv.write {x e : Addr} {o : HO} {t' : Nat} (I : Inv X pins σ H s) (mu : Mut (H x)) (he : e = x ∨ H e = some (.own x)) (k : ∀ b u, b ≠ e → s.heap.get? b = some u → h'.get? b = some u) (heo : ∃ u, h'.get? e = some u)
    (new : ObjOk X.prog X.w (upd H x o) h' x o) : Inv X pins σ (upd H x o) { s with heap := h', toks := t' } := I.un (Un.write mu he k heo) (I.hok.write mu he k heo new)
/-- forgetting slots, pins -/
theorem Inv.weak {σ' : List (Option V)} (I : Inv X pins σ H s) (hl : σ'.length = σ.length) (w : ∀ (i : Nat) v, σ'[i]? = some (some v) → σ[i]? = some (some v)) : Inv X pins σ' H s :=
  ⟨I.ok, I.os, I.bare, I.base, let ⟨m, hn, hl'⟩ := I.loc; ⟨m, hn, fun i x v e1 e2 e3 => hl' i x v e1 (w i v e2) e3⟩, I.cell, I.free, I.freeC, I.pin, I.hok, hl.trans I.len⟩
theorem Inv.pins_of {pins' : List (Addr × Obj)} (I : Inv X pins σ H s) (h : ∀ p ∈ pins', s.heap.get? p.1 = some p.2 ∧ H p.1 = none ∧ p.1 ≠ X.env.locals ∧ p.1 ∉ X.fs ∧ ∀ v, p.2.data ≠ .cell v) : Inv X pins' σ H s :=
  ⟨I.ok, I.os, I.bare, I.base, I.loc, I.cell, I.free, I.freeC, fun p hp => (List.mem_append.mp hp).elim (fun z => I.pin p (List.mem_append_left _ z)) (h p), I.hok, I.len⟩

theorem nodup_ix {N : List Str} (hN : N.Nodup) {i j : Nat} {x : Str} (a : N[i]? = some x) (b : N[j]? = some x) : i = j := by
  obtain ⟨h1, e1⟩ := List.getElem?_eq_some_iff.mp a
  obtain ⟨h2, e2⟩ := List.getElem?_eq_some_iff.mp b
  exact (List.getElem_inj hN).mp (e1.trans e2.symm)

/-- a name is stored; what changed -/
theorem store_ok2 {M : Model} {A : Around} {E : Value → Shared → Prop} {i : Nat} {x : Str} {v : V} {u : Value} {Q : Unit → Shared → Prop} (I : Inv X pins σ H s) (hN : X.N.Nodup) (hi : X.N[i]? = some x) (hx : Loc X.env.scope x) (r : RelV v u)
    (h : ∀ s', Inv X pins (σ.set i (some v)) H s' → (∃ a, Heap.SameBut a s.heap s'.heap ∧ (a = X.env.locals ∨ X.env.cells.lookup x = some a)) → Q () s') (hf : X.fn x = true ∨ X.env.scope.names.lookup x = some .local := by first | exact .inl rfl | exact .inr rfl | assumption) : wpAny M A (storeName X.env x u) Q E s := by
  obtain ⟨m, hn, hl⟩ := id I.loc
  have hcls : (X.env.scope.kind == .class || (X.env.scope.kind == .module && X.env.locals != X.env.globals)) = false := by rw [I.ok.kind]; rfl
  have hiσ : i < σ.length := by rw [I.len]; exact (List.getElem?_eq_some_iff.mp hi).1
  have cne := I.cne
  have tracked : ∀ {a : Addr} {h' : Heap}, (∃ o, s.heap.get? a = some o ∧ H a = none) → Heap.SameBut a s.heap h' → HOk X.prog X.w H h' := fun {a h'} ha hs b ob e => by
    obtain ⟨_, _, hfree⟩ := ha
    refine (I.hok b ob e).stay (fun c w' hc q => (hs.2 c ?_).trans q) (fun _ q => q) fun _ _ q => q
    rintro rfl
    rcases hc with rfl | hc
    · rw [hfree] at e; cases e
    · rw [hfree] at hc; cases hc
  rcases hx with hk | hk
  · refine wpAny_storeName_local hk hn (fun h' hn' hs => ?_) hcls
    obtain ⟨oL, _, _, hoL, _⟩ := id hn
    refine h _ ⟨I.ok, I.os, I.bare, ⟨fun b o e n hb hx => ?_, fun b o e n hb hx => ?_, I.base.free, fun b o e hx => ?_, I.base.tups, I.base.frzs, I.base.tbls⟩, ⟨_, hn', fun j y v' e1 e2 e3 => ?_⟩, fun y c e => ?_, I.free, I.freeC, fun p hp => ?_, tracked ⟨oL, hoL, I.free⟩ hs, by simpa using I.len⟩ ⟨_, hs, .inl rfl⟩
    · exact (hs.2 b (Nat.ne_of_lt (Nat.lt_of_lt_of_le (Heap.lt_size e) I.ok.above))).trans (I.base.keep b o e n hb hx)
    · obtain ⟨sl, e1⟩ := I.base.slot b o e n hb hx
      exact ⟨sl, (hs.2 b (Nat.ne_of_lt (Nat.lt_of_lt_of_le (Heap.lt_size e) I.ok.above))).trans e1⟩
    · obtain ⟨o', e1⟩ := I.base.there b o e hx
      exact ⟨o', (hs.2 b (Nat.ne_of_lt (Nat.lt_of_lt_of_le (Heap.lt_size e) I.ok.above))).trans e1⟩
    · by_cases hj : j = i
      · subst hj
        rw [hi] at e1; cases e1
        rw [List.getElem?_set_self hiσ] at e2
        cases e2
        exact ⟨u, r, .inl ⟨hk, by simp⟩⟩
      · rw [List.getElem?_set_ne (Ne.symm hj)] at e2
        obtain ⟨u', r', q⟩ := hl j y v' e1 e2 e3
        refine ⟨u', r', ?_⟩
        rcases q with ⟨k, e⟩ | ⟨k, c, e, z⟩
        · refine .inl ⟨k, ?_⟩
          have : y ≠ x := fun e => hj (nodup_ix hN e1 (e ▸ hi))
          simp [this, e]
        · exact .inr ⟨k, c, e, z.sameBut hs (cne y c e)⟩
    · obtain ⟨w', z⟩ := I.cell y c e
      exact ⟨w', z.sameBut hs (cne y c e)⟩
    · obtain ⟨e, n, ne, nf, d⟩ := I.pin p hp
      exact ⟨(hs.2 p.1 ne).trans e, n, ne, nf, d⟩
  · have hfn : X.fn x = true := by
      rcases hf with z | z
      · exact z
      · rw [z] at hk; cases hk
    obtain ⟨c, hc⟩ := I.ok.has x (.inl hk)
    obtain ⟨w', z⟩ := I.cell x c hc
    refine wpAny_storeName_cell I.ok.kind hk hc z (fun h' hc' hs => ?_)
    obtain ⟨oc, hoc, hocd⟩ := id z
    refine h { s with heap := h' } ⟨I.ok, I.os, I.bare, ⟨fun b o e n hb hx => ?_, fun b o e n hb hx => ?_, I.base.free, fun b o e hx => ?_, I.base.tups, I.base.frzs, I.base.tbls⟩, ⟨m, hn.sameBut hs (Ne.symm (cne x c hc)), fun j y v' e1 e2 e3 => ?_⟩, fun y c' e => ?_, I.free, I.freeC, fun p hp => ?_, tracked ⟨oc, hoc, I.freeC x c hc⟩ hs, by simpa using I.len⟩ ⟨c, hs, .inr hc⟩
    · exact (hs.2 b (Nat.ne_of_lt (Nat.lt_of_lt_of_le (Heap.lt_size e) (I.ok.cab x c hfn hc)))).trans (I.base.keep b o e n hb hx)
    · obtain ⟨sl, e1⟩ := I.base.slot b o e n hb hx
      exact ⟨sl, (hs.2 b (Nat.ne_of_lt (Nat.lt_of_lt_of_le (Heap.lt_size e) (I.ok.cab x c hfn hc)))).trans e1⟩
    · obtain ⟨o', e1⟩ := I.base.there b o e hx
      exact ⟨o', (hs.2 b (Nat.ne_of_lt (Nat.lt_of_lt_of_le (Heap.lt_size e) (I.ok.cab x c hfn hc)))).trans e1⟩
    · by_cases hj : j = i
      · subst hj
        rw [hi] at e1; cases e1
        rw [List.getElem?_set_self hiσ] at e2
        cases e2
        exact ⟨u, r, .inr ⟨.inl hk, c, hc, hc'⟩⟩
      · rw [List.getElem?_set_ne (Ne.symm hj)] at e2
        obtain ⟨u', r', q⟩ := hl j y v' e1 e2 e3
        refine ⟨u', r', ?_⟩
        rcases q with q | ⟨k, c', e, z'⟩
        · exact .inl q
        · refine .inr ⟨k, c', e, z'.sameBut hs ?_⟩
          rintro rfl
          exact hj (nodup_ix hN e1 (I.ok.inj _ _ _ e hc ▸ hi))
    · by_cases hcc : c' = c
      · subst hcc; exact ⟨_, hc'⟩
      · obtain ⟨w2, z2⟩ := I.cell y c' e
        exact ⟨w2, z2.sameBut hs hcc⟩
    · obtain ⟨e, n, ne, nf, d⟩ := I.pin p hp
      refine ⟨(hs.2 p.1 ?_).trans e, n, ne, nf, d⟩
      intro q
      rw [q, hoc] at e
      have q' : oc = p.2 := Option.some.inj e
      exact d w' (by rw [← q']; exact hocd)
theorem store_ok {M : Model} {A : Around} {E : Value → Shared → Prop} {i : Nat} {x : Str} {v : V} {u : Value} {Q : Unit → Shared → Prop} (I : Inv X pins σ H s) (hN : X.N.Nodup) (hi : X.N[i]? = some x) (hx : Loc X.env.scope x) (r : RelV v u)
    (h : ∀ s', Inv X pins (σ.set i (some v)) H s' → Q () s') (hf : X.fn x = true ∨ X.env.scope.names.lookup x = some .local := by first | exact .inl rfl | exact .inr rfl | assumption) : wpAny M A (storeName X.env x u) Q E s :=
  store_ok2 I hN hi hx r (fun s' I' _ => h s' I') hf
/-- behind a call or a block, the state as it is -/
theorem Inv.call' {s' : Shared} {ch : List Addr} (I : Inv X pins σ H s) (ho : s'.os = s.os) (u : Un (frs X.stack) ch H H' s.heap s'.heap) (hok : HOk X.prog X.w H' s'.heap) (hg : AllBare s'.gens)
    (hch : ∀ b ∈ ch, (b ∈ X.ex ∨ X.s₀.heap.objs.size ≤ b) ∧ b ≠ X.env.locals ∧ (∀ x c, X.env.cells.lookup x = some c → c ≠ b) ∧ ∀ p ∈ X.pn ++ pins, p.1 ≠ b) : Inv X pins σ H' s' := by
  obtain ⟨h', g', d', t', o'⟩ := s'
  have e : o' = s.os := ho
  subst e
  exact I.call (g' := g') (t' := t') (d' := d') u hok hg hch
end

/-! ### the judgements -/
/-- an exception: its class, its own dict's address (where it has one), the abstract heap behind it -/
abbrev XK := Value → Option Addr → Hp → Prop
abbrev St := List (Option V)
abbrev VK := V → Hp → Prop
/-- an expression's reading; a test's; an argument list's -/
abbrev TE := St → Hp → VK → Prop
abbrev TT := St → Hp → (Bool → Hp → Prop) → Prop
abbrev TA := St → Hp → (List V → Hp → Prop) → Prop
/-- what is wanted behind a statement -/
structure Ends where
  nx : St → Hp → Prop
  rt : VK
  bk : St → Hp → Prop := fun _ _ => False
  ct : St → Hp → Prop := fun _ _ => False
abbrev TS := Ends → St → Hp → Prop

def EP (X : Cx) (pins : List (Addr × Obj)) (σ : St) (Q : VK) (u : Value) (s' : Shared) : Prop := ∃ v H', Inv X pins σ H' s' ∧ RelV v u ∧ Q v H'
def TP (X : Cx) (pins : List (Addr × Obj)) (σ : St) (Q : Bool → Hp → Prop) (b : Bool) (s' : Shared) : Prop := ∃ H', Inv X pins σ H' s' ∧ Q b H'
def AP (X : Cx) (pins : List (Addr × Obj)) (σ : St) (Q : List V → Hp → Prop) (us : List Value) (s' : Shared) : Prop := ∃ vs H', Inv X pins σ H' s' ∧ Vals vs us ∧ Q vs H'
def SP (X : Cx) (pins : List (Addr × Obj)) (D : Ends) (f : Flow) (s' : Shared) : Prop :=
  match f with
  | .next => ∃ σ' H', Inv X pins σ' H' s' ∧ D.nx σ' H'
  | .brk => ∃ σ' H', Inv X pins σ' H' s' ∧ D.bk σ' H'
  | .cont => ∃ σ' H', Inv X pins σ' H' s' ∧ D.ct σ' H'
  | .ret u => ∃ v σ' H', Inv X pins σ' H' s' ∧ RelV v u ∧ D.rt v H'

def PE (X : Cx) (e : Expr) (t : TE) : Prop :=
  ∀ (pins : List (Addr × Obj)) (s : Shared) (σ : St) (H : Hp) (Q : VK), Inv X pins σ H s → t σ H Q → wpAny (model X.prog X.w) X.A (eval e X.env) (EP X pins σ Q) X.xe s
def PT (X : Cx) (e : Expr) (t : TT) : Prop :=
  ∀ (pins : List (Addr × Obj)) (s : Shared) (σ : St) (H : Hp) (Q : Bool → Hp → Prop), Inv X pins σ H s → t σ H Q → wpAny (model X.prog X.w) X.A (isTrue e X.env (eval e X.env)) (TP X pins σ Q) X.xe s
/-- a test whatever its 'whole' is (and, or) -/
def PW (X : Cx) (e : Expr) (t : TT) : Prop :=
  ∀ (whole : Sem Value) (pins : List (Addr × Obj)) (s : Shared) (σ : St) (H : Hp) (Q : Bool → Hp → Prop), Inv X pins σ H s → t σ H Q → wpAny (model X.prog X.w) X.A (isTrue e X.env whole) (TP X pins σ Q) X.xe s
theorem PW.pt {X : Cx} {e : Expr} {t : TT} (h : PW X e t) : PT X e t := h _
/-- an argument list (no star), from the left -/
def PA (X : Cx) (es : List Expr) (t : TA) : Prop :=
  ∀ (pos : Pos) (pins : List (Addr × Obj)) (s : Shared) (σ : St) (H : Hp) (Q : List V → Hp → Prop), Inv X pins σ H s → t σ H Q → wpAny (model X.prog X.w) X.A (spliced (backTo pos (starEach es X.env))) (AP X pins σ Q) X.xe s
def PS (X : Cx) (st : Stmt) (t : TS) : Prop :=
  ∀ (pins : List (Addr × Obj)) (s : Shared) (σ : St) (H : Hp) (D : Ends), Inv X pins σ H s → t D σ H → wpAny (model X.prog X.w) X.A (exec st X.env) (SP X pins D) X.xe s
def PSs (X : Cx) (st : List Stmt) (t : TS) : Prop :=
  ∀ (pins : List (Addr × Obj)) (s : Shared) (σ : St) (H : Hp) (D : Ends), Inv X pins σ H s → t D σ H → wpAny (model X.prog X.w) X.A (execs st X.env) (SP X pins D) X.xe s
/-- weaken the end -/
theorem thn {α : Type} {t : Sem α} {Q Q' : α → Shared → Prop} {M : Model} {A : Around} {E : Value → Shared → Prop} {s : Shared} (h : wpAny M A t Q E s) (hQ : ∀ a s, Q a s → Q' a s) : wpAny M A t Q' E s := wpAny_mono h hQ fun _ _ x => x
end L2

namespace L2
open PySem PySem.Spec PyProof.Rows
section
variable {X : Cx}

/-- two expressions in a row -/
theorem bin {a b : Expr} {ta tb : TE} (ha : PE X a ta) (hb : PE X b tb) {pins : List (Addr × Obj)} {s : Shared} {σ : St} {H : Hp} {R : V → V → Hp → Prop} (I : Inv X pins σ H s) (h : ta σ H fun x H1 => tb σ H1 fun y H2 => R x y H2)
    {α : Type} {Q : α → Shared → Prop} {f : Value → Value → Sem α}
    (hf : ∀ v u s2 x y H2, Inv X pins σ H2 s2 → RelV x v → RelV y u → R x y H2 → wpAny (model X.prog X.w) X.A (f v u) Q X.xe s2) :
    wpAny (model X.prog X.w) X.A (eval a X.env) (fun v s₁ => wpAny (model X.prog X.w) X.A (eval b X.env) (fun u s₂ => wpAny (model X.prog X.w) X.A (f v u) Q X.xe s₂) X.xe s₁) X.xe s := by
  refine thn (ha pins s σ H _ I h) fun v s1 ⟨x, H1, I1, r1, q1⟩ => ?_
  refine thn (hb pins s1 σ H1 _ I1 q1) fun u s2 ⟨y, H2, I2, r2, q2⟩ => ?_
  exact hf v u s2 x y H2 I2 r1 r2 q2

/-! ### names and constants -/
def tVar (i : Nat) : TE := fun σ H Q => ∃ v, σ[i]? = some (some v) ∧ Q v H
def tC (v : V) : TE := fun _ H Q => Q v H
theorem pe_var {i : Nat} {x : Str} {pos : Pos} (hN : X.N[i]? = some x) (hv : Vis X.env.scope x) (hd : (x == ("__debug__" : Str)) = false := by decide) (hcd : (x == ("__classdict__" : Str)) = false := by decide) : PE X (.Name x pos) (tVar i) := by
  intro pins s σ H Q I h
  obtain ⟨v, e, h⟩ := h
  obtain ⟨m, hn, hl⟩ := I.loc
  obtain ⟨u, r, l⟩ := hl i x v hN e hv
  have fin : EP X pins σ Q u s := ⟨v, H, I, r, h⟩
  rcases l with ⟨hk, hm⟩ | ⟨hk, c, hc, hcell⟩
  · exact wpAny_Name (wpAny_loadName_local I.ok.kind hk hn hm fin) hd
  · rcases hk with hk | hk
    · exact wpAny_Name (wpAny_loadName_cell I.ok.kind hk hc hcell fin) hd
    · exact wpAny_Name (wpAny_loadName_free I.ok.kind hk hc hcell fin hcd) hd
theorem pe_int {i j pos} : PE X (.Constant (.int i) j pos) (tC (.int i)) := fun _ _ _ H _ I h => wpAny_Constant_int ⟨.int i, H, I.tok _, ⟨_, rfl⟩, h⟩
theorem pe_bl {b j pos} : PE X (.Constant (.bool b) j pos) (tC (.bl b)) := fun _ _ _ H _ I h => Constant_bool ⟨.bl b, H, I, rfl, h⟩
theorem pe_non {j pos} : PE X (.Constant .none j pos) (tC .non) := fun _ _ _ H _ I h => Constant_none ⟨.non, H, I, rfl, h⟩
theorem pe_str {x j pos} : PE X (.Constant (.str x) j pos) (tC (.str x)) := fun _ _ _ H _ I h => Calls.Constant_str ⟨.str x, H, I.tok _, ⟨_, rfl⟩, h⟩

/-- a global name of the def -/
def Gl (X : Cx) (x : Str) : Prop := X.env.kindOf x = some .globalImplicit
theorem ld_glob {E : Value → Shared → Prop} {pins : List (Addr × Obj)} {s : Shared} {σ : St} {H : Hp} {x : Str} {u : Value} {pos : Pos} {Q : Value → Shared → Prop} (I : Inv X pins σ H s) (hg : Gl X x) (hm : X.mg x = some u) (h : Q u s)
    (hd : (x == ("__debug__" : Str)) = false := by decide) : wpAny (model X.prog X.w) X.A (eval (.Name x pos) X.env) Q E s :=
  Calls.Name_function_global I.ok.kind hg (Calls.loadGlobal_global (by rw [I.ok.glob]; exact I.mod.glob.keeps I.bk) hm h) hd
theorem ld_blt {E : Value → Shared → Prop} {pins : List (Addr × Obj)} {s : Shared} {σ : St} {H : Hp} {x : Str} {u : Value} {pos : Pos} {Q : Value → Shared → Prop} (I : Inv X pins σ H s) (hg : Gl X x) (hm : X.mg x = none) (hv : bootBuiltins x = some u) (h : Q u s)
    (hn : x ≠ "__name__" := by decide) (hd : (x == ("__debug__" : Str)) = false := by decide) : wpAny (model X.prog X.w) X.A (eval (.Name x pos) X.env) Q E s := by
  obtain ⟨mb, h1, h2⟩ := I.mod.blt
  exact Calls.Name_function_global I.ok.kind hg (Calls.loadGlobal_builtin (by rw [I.ok.glob]; exact I.mod.glob.keeps I.bk) hm (by rw [I.ok.blt]; exact h1.keeps I.bk) ((h2 x hn).trans hv) h) hd
/-- a module's constant, a class, a function, as a value -/
theorem pe_glob {x : Str} {v : V} {u : Value} {pos : Pos} (hg : Gl X x) (hm : X.mg x = some u) (r : RelV v u) (hd : (x == ("__debug__" : Str)) = false := by decide) : PE X (.Name x pos) (tC v) :=
  fun _ _ _ H _ I h => ld_glob I hg hm ⟨v, H, I, r, h⟩ hd
theorem pe_bltn {x : Str} {v : V} {u : Value} {pos : Pos} (hg : Gl X x) (hm : X.mg x = none) (hv : bootBuiltins x = some u) (r : RelV v u) (hn : x ≠ "__name__" := by decide) (hd : (x == ("__debug__" : Str)) = false := by decide) : PE X (.Name x pos) (tC v) :=
  fun _ _ _ H _ I h => ld_blt I hg hm hv ⟨v, H, I, r, h⟩ hn hd

/-! ### arithmetic -/
/-- two ints -/
def t2I (ta tb : TE) (k : Int → Int → Hp → Prop) : St → Hp → Prop := fun σ H => ta σ H fun x H1 => tb σ H1 fun y H2 => ∃ i j, x = .int i ∧ y = .int j ∧ k i j H2
def tAdd (ta tb : TE) : TE := fun σ H Q => t2I ta tb (fun i j H2 => Q (.int (i + j)) H2) σ H
def tSub (ta tb : TE) : TE := fun σ H Q => t2I ta tb (fun i j H2 => Q (.int (i - j)) H2) σ H
/-- the left factor below 2^64 -/
def tMul (ta tb : TE) : TE := fun σ H Q => t2I ta tb (fun i j H2 => (-(2 ^ 64) < i ∧ i < 2 ^ 64) ∧ Q (.int (i * j)) H2) σ H
variable {a b : Expr} {ta tb : TE} {pos : Pos}
theorem pe_add (ha : PE X a ta) (hb : PE X b tb) : PE X (.BinOp a .Add b pos) (tAdd ta tb) := by
  intro pins s σ H Q I h
  refine wpAny_BinOp (bin ha hb I h fun v u s2 x y H2 I2 rx ry q => ?_)
  obtain ⟨i, j, rfl, rfl, q⟩ := q
  obtain ⟨t, rfl⟩ := rx
  obtain ⟨t', rfl⟩ := ry
  exact add_int ⟨.int _, H2, I2.tok _, ⟨_, rfl⟩, q⟩
theorem pe_sub (ha : PE X a ta) (hb : PE X b tb) : PE X (.BinOp a .Sub b pos) (tSub ta tb) := by
  intro pins s σ H Q I h
  refine wpAny_BinOp (bin ha hb I h fun v u s2 x y H2 I2 rx ry q => ?_)
  obtain ⟨i, j, rfl, rfl, q⟩ := q
  obtain ⟨t, rfl⟩ := rx
  obtain ⟨t', rfl⟩ := ry
  exact sub_int ⟨.int _, H2, I2.tok _, ⟨_, rfl⟩, q⟩
theorem pe_mul (ha : PE X a ta) (hb : PE X b tb) : PE X (.BinOp a .Mult b pos) (tMul ta tb) := by
  intro pins s σ H Q I h
  refine wpAny_BinOp (bin ha hb I h fun v u s2 x y H2 I2 rx ry q => ?_)
  obtain ⟨i, j, rfl, rfl, ⟨q1, q2⟩, q⟩ := q
  obtain ⟨t, rfl⟩ := rx
  obtain ⟨t', rfl⟩ := ry
  exact mul_int ⟨.int _, H2, I2.tok _, ⟨_, rfl⟩, q⟩ (.of_left (intBits_le_64 q1 q2))

/-! ### comparisons -/
def PC (X : Cx) (op : CmpOp) (a b : Expr) (t : TE) : Prop :=
  ∀ (pins : List (Addr × Obj)) (s : Shared) (σ : St) (H : Hp) (Q : VK), Inv X pins σ H s → t σ H Q →
    wpAny (model X.prog X.w) X.A (eval a X.env) (fun v s₁ => wpAny (model X.prog X.w) X.A (eval b X.env) (fun u s₂ => wpAny (model X.prog X.w) X.A (compareOp op v u) (EP X pins σ Q) X.xe s₂) X.xe s₁) X.xe s
theorem nobehind (b : Expr) {op : CmpOp} (h : op ≠ .In) (h2 : op ≠ .NotIn) : behindInMarks op b = false := by
  have e1 : (op == CmpOp.In) = false := by cases op <;> first | rfl | exact absurd rfl h
  have e2 : (op == CmpOp.NotIn) = false := by cases op <;> first | rfl | exact absurd rfl h2
  cases b <;> simp [behindInMarks, e1, e2]
def tCmp (p : Int → Int → Bool) (ta tb : TE) : TE := fun σ H Q => t2I ta tb (fun i j H2 => Q (.bl (p i j)) H2) σ H
abbrev tLt : TE → TE → TE := tCmp fun i j => decide (i < j)
abbrev tLe : TE → TE → TE := tCmp fun i j => decide (i ≤ j)
abbrev tGt : TE → TE → TE := tCmp fun i j => decide (j < i)
abbrev tGe : TE → TE → TE := tCmp fun i j => decide (j ≤ i)
abbrev tEqI : TE → TE → TE := tCmp fun i j => decide (i = j)
abbrev tNeI : TE → TE → TE := tCmp fun i j => !decide (i = j)
/-- a comparison of two ints, by its rule -/
theorem pc_int {op : CmpOp} {p : Int → Int → Bool} (ha : PE X a ta) (hb : PE X b tb)
    (rule : ∀ (i j : Int) (t u : Tok) (Q : Value → Shared → Prop) (s : Shared), Q (.bool (p i j)) s → wpAny (model X.prog X.w) X.A (compareOp op (.int i t) (.int j u)) Q X.xe s) : PC X op a b (tCmp p ta tb) := by
  intro pins s σ H Q I h
  refine bin ha hb I h fun v u s2 x y H2 I2 rx ry q => ?_
  obtain ⟨i, j, rfl, rfl, q⟩ := q
  obtain ⟨t, rfl⟩ := rx
  obtain ⟨t', rfl⟩ := ry
  exact rule i j t t' _ s2 ⟨.bl _, H2, I2, rfl, q⟩
theorem pc_lt (ha : PE X a ta) (hb : PE X b tb) : PC X .Lt a b (tLt ta tb) := pc_int ha hb fun _ _ _ _ _ _ h => lt_int h
theorem pc_le (ha : PE X a ta) (hb : PE X b tb) : PC X .LtE a b (tLe ta tb) := pc_int ha hb fun _ _ _ _ _ _ h => le_int h
theorem pc_gt (ha : PE X a ta) (hb : PE X b tb) : PC X .Gt a b (tGt ta tb) := pc_int ha hb fun _ _ _ _ _ _ h => gt_int h
theorem pc_ge (ha : PE X a ta) (hb : PE X b tb) : PC X .GtE a b (tGe ta tb) := pc_int ha hb fun _ _ _ _ _ _ h => ge_int h
theorem pc_eqI (ha : PE X a ta) (hb : PE X b tb) : PC X .Eq a b (tEqI ta tb) := pc_int ha hb fun _ _ _ _ _ _ h => eq_int (by rw [Bool.beq_eq_decide_eq]; exact h)
theorem pc_neI (ha : PE X a ta) (hb : PE X b tb) : PC X .NotEq a b (tNeI ta tb) := pc_int ha hb fun _ _ _ _ _ _ h => ne_int (by rw [bne, Bool.beq_eq_decide_eq]; exact h)
/-- is None -/
def tIsN (ta : TE) : TE := fun σ H Q => ta σ H fun x H1 => Q (.bl (decide (x = .non))) H1
def tNotN (ta : TE) : TE := fun σ H Q => ta σ H fun x H1 => Q (.bl (!decide (x = .non))) H1
theorem RelV.none_iff {x : V} {v : Value} (r : RelV x v) : (v == Value.none) = decide (x = .non) := by
  cases x with
  | non => cases r; rfl
  | bl _ => cases r; rfl
  | int _ => obtain ⟨t, rfl⟩ := r; rfl
  | str _ => obtain ⟨t, rfl⟩ := r; rfl
  | byt _ => obtain ⟨t, rfl⟩ := r; rfl
  | flt _ => obtain ⟨t, rfl⟩ := r; rfl
  | ref _ => cases r; rfl
  | ty _ => cases r; rfl
theorem pc_isN {j pos'} (ha : PE X a ta) : PC X .Is a (.Constant .none j pos') (tIsN ta) := by
  intro pins s σ H Q I h
  refine thn (ha pins s σ H _ I h) fun v s1 ⟨x, H1, I1, r1, q1⟩ => ?_
  exact Constant_none (is_none_gen ⟨.bl _, H1, I1, by rw [r1.none_iff]; rfl, q1⟩)
theorem pc_notN {j pos'} (ha : PE X a ta) : PC X .IsNot a (.Constant .none j pos') (tNotN ta) := by
  intro pins s σ H Q I h
  refine thn (ha pins s σ H _ I h) fun v s1 ⟨x, H1, I1, r1, q1⟩ => ?_
  exact Constant_none (isnot_none_gen ⟨.bl _, H1, I1, by rw [r1.none_iff]; rfl, q1⟩)
/-- a comparison as a value, as a test -/
def tB (t : TE) : TT := fun σ H Q => t σ H fun x H1 => ∃ c, x = .bl c ∧ Q c H1
theorem pe_cmp {op : CmpOp} {t : TE} (h : PC X op a b t) (h1 : behindInMarks op b = false := by first | exact nobehind _ (by decide) (by decide) | rfl) : PE X (.Compare a [op] [b] pos) t := fun pins s σ H Q I hw => wpAny_Compare1 (h pins s σ H Q I hw) h1
theorem pt_cmp {op : CmpOp} {t : TE} (h : PC X op a b t) (h1 : behindInMarks op b = false := by first | exact nobehind _ (by decide) (by decide) | rfl) : PT X (.Compare a [op] [b] pos) (tB t) := by
  intro pins s σ H Q I hw
  refine wpAny_isTrue_Compare1 (thn (h pins s σ H _ I hw) fun v s1 h1 => thn h1 fun u s2 h2 => thn h2 fun c s3 ⟨x, H1, I1, r1, q1⟩ => ?_) h1
  obtain ⟨d, rfl, q⟩ := q1
  cases r1
  exact wpAny_truthy_bool ⟨H1, I1, q⟩
/-- an expression whose value is a bool, as a test -/
theorem pt_val {e : Expr} {t : TE} (h : PE X e t) (he : ∀ whole, isTrue e X.env whole = (do let v ← whole; standAt e.pos; holding [v] (truthy v)) := by intro _; rfl) : PT X e (tB t) := by
  intro pins s σ H Q I hw
  refine isTrue_plain (thn (h pins s σ H _ I hw) fun v s1 ⟨x, H1, I1, r1, q1⟩ => ?_) (he _)
  obtain ⟨d, rfl, q⟩ := q1
  cases r1
  exact wpAny_truthy_bool ⟨H1, I1, q⟩

/-! ### and, or, not -/
variable {tA tB' : TT} {rest : List Expr}
def tAnd (t u : TT) : TT := fun σ H Q => t σ H fun c H1 => if c = true then u σ H1 Q else Q false H1
def tOr (t u : TT) : TT := fun σ H Q => t σ H fun c H1 => if c = true then Q true H1 else u σ H1 Q
def tNot (t : TT) : TT := fun σ H Q => t σ H fun c H1 => Q (!c) H1
theorem pw_and1 (ha : PT X a tA) : PW X (.BoolOp .And [a] pos) tA := by
  intro wh pins s σ H Q I h
  refine isTrue_and (thn (ha pins s σ H Q I h) fun c s1 e => ?_)
  cases c with
  | true => exact isTrue_and_nil e
  | false => exact e
theorem pw_or1 (ha : PT X a tA) : PW X (.BoolOp .Or [a] pos) tA := by
  intro wh pins s σ H Q I h
  refine isTrue_or (thn (ha pins s σ H Q I h) fun c s1 e => ?_)
  cases c with
  | false => exact isTrue_or_nil e
  | true => exact e
theorem pw_and (ha : PT X a tA) (hb : PW X (.BoolOp .And (b :: rest) pos) tB') : PW X (.BoolOp .And (a :: b :: rest) pos) (tAnd tA tB') := by
  intro wh pins s σ H Q I h
  refine isTrue_and (thn (ha pins s σ H _ I h) fun c s1 ⟨H1, I1, q1⟩ => ?_)
  cases c with
  | true => exact hb wh pins s1 σ H1 Q I1 q1
  | false => exact ⟨H1, I1, q1⟩
theorem pw_or (ha : PT X a tA) (hb : PW X (.BoolOp .Or (b :: rest) pos) tB') : PW X (.BoolOp .Or (a :: b :: rest) pos) (tOr tA tB') := by
  intro wh pins s σ H Q I h
  refine isTrue_or (thn (ha pins s σ H _ I h) fun c s1 ⟨H1, I1, q1⟩ => ?_)
  cases c with
  | true => exact ⟨H1, I1, q1⟩
  | false => exact hb wh pins s1 σ H1 Q I1 q1
theorem pt_not (ha : PT X a tA) : PT X (.UnaryOp .Not a pos) (tNot tA) := by
  intro pins s σ H Q I h
  exact isTrue_not (ha pins s σ H (fun c H1 => Q (!c) H1) I h)
/-- .. as values (bools) -/
def tAndV (ta tb : TE) : TE := fun σ H Q => ta σ H fun x H1 => ∃ c, x = .bl c ∧ if c = true then tb σ H1 Q else Q (.bl false) H1
def tOrV (ta tb : TE) : TE := fun σ H Q => ta σ H fun x H1 => ∃ c, x = .bl c ∧ if c = true then Q (.bl true) H1 else tb σ H1 Q
def tNotV (ta : TE) : TE := fun σ H Q => ta σ H fun x H1 => ∃ c, x = .bl c ∧ Q (.bl (!c)) H1
theorem pe_one {op} {t : TE} (h : PE X a t) : PE X (.BoolOp op [a] pos) t := fun pins s σ H Q I hw => BoolOp_one (h pins s σ H Q I hw)
theorem pe_and (ha : PE X a ta) (hb : PE X (.BoolOp .And (b :: rest) pos) tb) : PE X (.BoolOp .And (a :: b :: rest) pos) (tAndV ta tb) := by
  intro pins s σ H Q I h
  refine BoolOp_and (thn (ha pins s σ H _ I h) fun v s1 ⟨x, H1, I1, r1, q1⟩ => ?_)
  obtain ⟨c, rfl, q1⟩ := q1
  cases r1
  refine wpAny_truthy_bool ?_
  cases c with
  | true => exact hb pins s1 σ H1 Q I1 q1
  | false => exact ⟨.bl false, H1, I1, rfl, q1⟩
theorem pe_or (ha : PE X a ta) (hb : PE X (.BoolOp .Or (b :: rest) pos) tb) : PE X (.BoolOp .Or (a :: b :: rest) pos) (tOrV ta tb) := by
  intro pins s σ H Q I h
  refine BoolOp_or (thn (ha pins s σ H _ I h) fun v s1 ⟨x, H1, I1, r1, q1⟩ => ?_)
  obtain ⟨c, rfl, q1⟩ := q1
  cases r1
  refine wpAny_truthy_bool ?_
  cases c with
  | false => exact hb pins s1 σ H1 Q I1 q1
  | true => exact ⟨.bl true, H1, I1, rfl, q1⟩
theorem pe_not (ha : PE X a ta) : PE X (.UnaryOp .Not a pos) (tNotV ta) := by
  intro pins s σ H Q I h
  refine UnaryOp_ (thn (ha pins s σ H _ I h) fun v s1 ⟨x, H1, I1, r1, q1⟩ => ?_)
  obtain ⟨c, rfl, q1⟩ := q1
  cases r1
  exact not_of (wpAny_truthy_bool ⟨.bl (!c), H1, I1, rfl, q1⟩)
/-- a if t else b -/
def tIf (t : TT) (ta tb : TE) : TE := fun σ H Q => t σ H fun c H1 => if c = true then ta σ H1 Q else tb σ H1 Q
theorem pe_ifExp {c : Expr} (hc : PT X c tA) (ha : PE X a ta) (hb : PE X b tb) : PE X (.IfExp c a b pos) (tIf tA ta tb) := by
  intro pins s σ H Q I h
  refine wpAny_IfExp (thn (hc pins s σ H _ I h) fun d s1 ⟨H1, I1, q1⟩ => ?_)
  cases d with
  | true => exact ha pins s1 σ H1 Q I1 q1
  | false => exact hb pins s1 σ H1 Q I1 q1
end
end L2

namespace L2
open PySem PySem.Spec PyProof.Rows

/-! ### a list, a tuple that is read: tracked, frozen, or an object of the module -/
def SqL (K : PySem.W.Frag) (H : Hp) (a : Addr) (xs : List V) : Prop :=
  Rd H a (.lst xs) ∨
    ∃ (o : Obj) (its : Array Value) (n : Nat), K.lookup a = some o ∧ o.cls = .type "list" ∧ o.dict = none ∧ o.data = .seq its n ∧ its.size ≤ sizeLine ∧ Vals xs its.toList
def SqT (K : PySem.W.Frag) (H : Hp) (a : Addr) (xs : List V) : Prop :=
  Rd H a (.tup xs) ∨
    ∃ (o : Obj) (its : Array Value) (n : Nat), K.lookup a = some o ∧ o.cls = .type "tuple" ∧ o.data = .seq its n ∧ its.size ≤ sizeLine ∧ Vals xs its.toList
def absV : Value → Option V
  | .none => some .non
  | .bool b => some (.bl b)
  | .int i _ => some (.int i)
  | .str x _ => some (.str x)
  | .bytes b _ => some (.byt b)
  | .float b _ => some (.flt b)
  | .ref a => some (.ref a)
  | .type n => some (.ty n)
  | _ => none
theorem RelV.abs {x : V} {u : Value} (r : RelV x u) : absV u = some x := by
  cases x with
  | non => cases r; rfl
  | bl _ => cases r; rfl
  | int _ => obtain ⟨t, rfl⟩ := r; rfl
  | str _ => obtain ⟨t, rfl⟩ := r; rfl
  | byt _ => obtain ⟨t, rfl⟩ := r; rfl
  | flt _ => obtain ⟨t, rfl⟩ := r; rfl
  | ref _ => cases r; rfl
  | ty _ => cases r; rfl
theorem RelV.inj {x y : V} {u : Value} (r : RelV x u) (q : RelV y u) : x = y := Option.some.inj (r.abs.symm.trans q.abs)
theorem Vals.inj : ∀ {xs ys : List V} {us : List Value}, Vals xs us → Vals ys us → xs = ys
  | _, _, _, .nil, .nil => rfl
  | _, _, _, .cons r t, .cons r' t' => by rw [r.inj r', Vals.inj t t']
section
variable {X : Cx} {pins : List (Addr × Obj)} {σ : St} {H : Hp} {s : Shared} {a : Addr} {xs ys : List V}
theorem SqL.of {K : PySem.W.Frag} (h : H a = some (.lst xs)) : SqL K H a xs := .inl (.inl h)
theorem SqT.of {K : PySem.W.Frag} (h : H a = some (.tup xs)) : SqT K H a xs := .inl (.inl h)
theorem Inv.list (I : Inv X pins σ H s) (h : SqL X.K H a xs) : ∃ its : List Value, Vals xs its ∧ PlainL s.heap a its.toArray ∧ xs.length ≤ sizeLine := by
  rcases h with h | ⟨o, its, n, hk, hc, hd, hs, hz, r⟩
  · obtain ⟨z, its, n, r, e⟩ := h.ok I.hok
    exact ⟨its, r, ⟨_, n, e, rfl, rfl, rfl⟩, z⟩
  · refine ⟨its.toList, r, ⟨o, n, I.kIn a o hk, hc, hd, by simpa using hs⟩, ?_⟩
    have e := r.length
    simp only [Array.length_toList] at e
    omega
theorem Inv.tuple (I : Inv X pins σ H s) (h : SqT X.K H a xs) : ∃ its : List Value, Vals xs its ∧ IsTup s.heap a its.toArray ∧ xs.length ≤ sizeLine := by
  rcases h with h | ⟨o, its, n, hk, hc, hs, hz, r⟩
  · obtain ⟨z, its, r, p⟩ := h.ok I.hok
    exact ⟨its, r, p, z⟩
  · refine ⟨its.toList, r, ⟨o, I.kIn a o hk, hc, n, by simpa using hs⟩, ?_⟩
    have e := r.length
    simp only [Array.length_toList] at e
    omega
theorem Inv.list_inj (I : Inv X pins σ H s) (h : SqL X.K H a xs) (h' : SqL X.K H a ys) : xs = ys := by
  obtain ⟨its, r, ⟨o, n, e, _, _, d⟩, _⟩ := I.list h
  obtain ⟨its', r', ⟨o', n', e', _, _, d'⟩, _⟩ := I.list h'
  rw [e] at e'; cases e'
  rw [d] at d'
  injection d' with d1 _
  have : its = its' := by simpa using congrArg Array.toList d1
  subst this
  exact r.inj r'
theorem Inv.tuple_inj (I : Inv X pins σ H s) (h : SqT X.K H a xs) (h' : SqT X.K H a ys) : xs = ys := by
  obtain ⟨its, r, ⟨o, e, _, n, d⟩, _⟩ := I.tuple h
  obtain ⟨its', r', ⟨o', e', _, n', d'⟩, _⟩ := I.tuple h'
  rw [e] at e'; cases e'
  rw [d] at d'
  injection d' with d1 _
  have : its = its' := by simpa using congrArg Array.toList d1
  subst this
  exact r.inj r'
end

/-! ### another wish about exceptions -/
abbrev Cx.wish (X : Cx) (E : Value → Shared → Prop) : Cx := { X with xe := E }
/-- no exception leaves -/
abbrev Cx.nox (X : Cx) : Cx := X.wish fun _ _ => False
theorem Cx.Ok.wish {X : Cx} (ok : X.Ok) (E : Value → Shared → Prop) : (X.wish E).Ok :=
  ⟨ok.mod, ok.kind, ok.glob, ok.blt, ok.above, ok.inj, ok.has, ok.cab, ok.hd, ok.frames, ok.stk, ok.exf, ok.bs, ok.bsz, ok.noex, ok.exfs, ok.funs, ok.frf⟩
theorem Cx.Ok.unwish {X : Cx} {E : Value → Shared → Prop} (ok : (X.wish E).Ok) : X.Ok :=
  ⟨ok.mod, ok.kind, ok.glob, ok.blt, ok.above, ok.inj, ok.has, ok.cab, ok.hd, ok.frames, ok.stk, ok.exf, ok.bs, ok.bsz, ok.noex, ok.exfs, ok.funs, ok.frf⟩
section
variable {X : Cx} {pins : List (Addr × Obj)} {σ : St} {H : Hp} {s : Shared} {E : Value → Shared → Prop}
theorem Inv.wish (I : Inv X pins σ H s) (E : Value → Shared → Prop) : Inv (X.wish E) pins σ H s := ⟨I.ok.wish E, I.os, I.bare, I.base, I.loc, I.cell, I.free, I.freeC, I.pin, I.hok, I.len⟩
theorem Inv.unwish (I : Inv (X.wish E) pins σ H s) : Inv X pins σ H s := ⟨I.ok.unwish, I.os, I.bare, I.base, I.loc, I.cell, I.free, I.freeC, I.pin, I.hok, I.len⟩
theorem SP.unwish {D : Ends} {f : Flow} {s' : Shared} (h : SP (X.wish E) pins D f s') : SP X pins D f s' := by
  cases f with
  | next => obtain ⟨σ', H', I, q⟩ := h; exact ⟨σ', H', I.unwish, q⟩
  | brk => obtain ⟨σ', H', I, q⟩ := h; exact ⟨σ', H', I.unwish, q⟩
  | cont => obtain ⟨σ', H', I, q⟩ := h; exact ⟨σ', H', I.unwish, q⟩
  | ret u => obtain ⟨v, σ', H', I, r, q⟩ := h; exact ⟨v, σ', H', I.unwish, r, q⟩
theorem PE.nox {e : Expr} {t : TE} (h : PE X.nox e t) : PE X e t := fun pins s σ H Q I hw =>
  wpAny_mono (h pins s σ H Q (I.wish _) hw) (fun _ _ ⟨v, H', I', r, q⟩ => ⟨v, H', I'.unwish, r, q⟩) fun _ _ z => False.elim z
theorem PT.nox {e : Expr} {t : TT} (h : PT X.nox e t) : PT X e t := fun pins s σ H Q I hw =>
  wpAny_mono (h pins s σ H Q (I.wish _) hw) (fun _ _ ⟨H', I', q⟩ => ⟨H', I'.unwish, q⟩) fun _ _ z => False.elim z
theorem PSs.nox {st : List Stmt} {t : TS} (h : PSs X.nox st t) : PSs X st t := fun pins s σ H D I hw =>
  wpAny_mono (h pins s σ H D (I.wish _) hw) (fun _ _ q => q.unwish) fun _ _ z => False.elim z
end

/-! ### blocks and small statements -/
section
variable {X : Cx} {st : Stmt} {rest : List Stmt} {t u : TS} {e : Expr} {te : TE} {pos : Pos}
def tNext : TS := fun D σ H => D.nx σ H
def tSeq (t u : TS) : TS := fun D σ H => t { D with nx := u D } σ H
theorem pss_nil : PSs X [] tNext := fun _ _ σ H _ I h => wpAny_execs_nil ⟨σ, H, I, h⟩
theorem pss_cons (h1 : PS X st t) (h2 : PSs X rest u) : PSs X (st :: rest) (tSeq t u) := by
  intro pins s σ H D I h
  refine wpAny_execs_cons (thn (h1 pins s σ H { D with nx := u D } I h) fun f s1 q => ?_)
  cases f with
  | next =>
    obtain ⟨σ', H', I', q⟩ := q
    exact h2 pins s1 σ' H' D I' q
  | ret v => exact q
  | brk => exact q
  | cont => exact q
theorem pss_one (h1 : PS X st t) : PSs X [st] t := by
  intro pins s σ H D I h
  refine wpAny_execs_cons (thn (h1 pins s σ H D I h) fun f s1 q => ?_)
  cases f with
  | next => exact wpAny_execs_nil q
  | ret v => exact q
  | brk => exact q
  | cont => exact q
def tBreak : TS := fun D σ H => D.bk σ H
def tCont : TS := fun D σ H => D.ct σ H
theorem ps_pass : PS X (.Pass pos) tNext := fun _ _ σ H _ I h => wpAny_Pass ⟨σ, H, I, h⟩
theorem ps_break : PS X (.Break pos) tBreak := fun _ _ σ H _ I h => wpAny_Break ⟨σ, H, I, h⟩
theorem ps_continue : PS X (.Continue pos) tCont := fun _ _ σ H _ I h => wpAny_Continue ⟨σ, H, I, h⟩
/-- in a def's body nothing is shown -/
theorem Inv.quiet {pins : List (Addr × Obj)} {σ : St} {H : Hp} {s : Shared} (I : Inv X pins σ H s) : interactive X.env = false := by simp [interactive, I.ok.kind]
/-- a docstring -/
theorem ps_doc {x j pos pos'} : PS X (.Expr (.Constant (.str x) j pos) pos') tNext := fun _ s σ H _ I h => wpAny_Expr (Calls.Constant_str (show SP X _ _ .next { s with toks := s.toks + 1 } from ⟨σ, H, I.tok _, h⟩)) I.quiet
/-- an expression whose value is dropped -/
def tDrop (te : TE) : TS := fun D σ H => te σ H fun _ H1 => D.nx σ H1
theorem ps_expr (he : PE X e te) (hs : swapsWith e none pos.line X.env = pure false := by rfl) : PS X (.Expr e pos) (tDrop te) := by
  intro pins s σ H D I h
  exact wpAny_Expr_any (thn (he pins s σ H _ I h) fun v s1 ⟨x, H1, I1, r1, q1⟩ => ⟨σ, H1, I1, q1⟩) I.quiet hs
def tRet (te : TE) : TS := fun D σ H => te σ H D.rt
theorem ps_ret (he : PE X e te) : PS X (.Return (some e) pos) (tRet te) := by
  intro pins s σ H D I h
  exact wpAny_Return_some (thn (he pins s σ H _ I h) fun v s1 ⟨x, H1, I1, r1, q1⟩ => ⟨x, σ, H1, I1, r1, q1⟩)
def tRetN : TS := fun D _ H => D.rt .non H
theorem ps_retN : PS X (.Return none pos) tRetN := fun _ _ σ H _ I h => wpAny_Return_none ⟨.non, σ, H, I, rfl, h⟩
def tIfS (c : TT) (t u : TS) : TS := fun D σ H => c σ H fun b H1 => if b = true then t D σ H1 else u D σ H1
theorem ps_if {c : Expr} {a b : List Stmt} {tc : TT} (hc : PT X c tc) (ha : PSs X a t) (hb : PSs X b u) : PS X (.If c a b pos) (tIfS tc t u) := by
  intro pins s σ H D I h
  refine wpAny_If (thn (hc pins s σ H _ I h) fun d s1 ⟨H1, I1, q1⟩ => ?_)
  cases d with
  | true => exact ha pins s1 σ H1 D I1 q1
  | false => exact hb pins s1 σ H1 D I1 q1
/-- code that the proof never comes to -/
def tNever : TS := fun _ _ _ => False
theorem ps_never : PS X st tNever := fun _ _ _ _ _ _ h => h.elim
theorem pss_never {sts : List Stmt} : PSs X sts tNever := fun _ _ _ _ _ _ h => h.elim
end

/-! ### targets -/
abbrev TG := V → St → Hp → (St → Hp → Prop) → Prop
abbrev TGs := List V → St → Hp → (St → Hp → Prop) → Prop
def PG (X : Cx) (target : Expr) (t : TG) : Prop :=
  ∀ (pins : List (Addr × Obj)) (s : Shared) (σ : St) (H : Hp) (v : V) (u : Value) (Q : St → Hp → Prop), Inv X pins σ H s → RelV v u → t v σ H Q →
    wpAny (model X.prog X.w) X.A (assign target X.env u) (fun _ s' => ∃ σ' H', Inv X pins σ' H' s' ∧ Q σ' H') X.xe s
/-- several targets, one after another -/
def PGs (X : Cx) (ts : List Expr) (t : TGs) : Prop :=
  ∀ (pins : List (Addr × Obj)) (s : Shared) (σ : St) (H : Hp) (vs : List V) (us : List Value) (Q : St → Hp → Prop), Inv X pins σ H s → Vals vs us → t vs σ H Q →
    wpAny (model X.prog X.w) X.A (assignInOrder ((assignEach ts X.env).map (·.2)) us) (fun _ s' => ∃ σ' H', Inv X pins σ' H' s' ∧ Q σ' H') X.xe s
/-- o[i] = v, by values -/
abbrev TSet := V → V → V → Hp → (Hp → Prop) → Prop
def PSet (X : Cx) (t : TSet) : Prop :=
  ∀ (pins : List (Addr × Obj)) (s : Shared) (σ : St) (H : Hp) (o i v : V) (ov iv u : Value) (Q : Hp → Prop), Inv X pins σ H s → RelV o ov → RelV i iv → RelV v u → t o i v H Q →
    wpAny (model X.prog X.w) X.A (setItem ov iv u) (fun _ s' => ∃ H', Inv X pins σ H' s' ∧ Q H') X.xe s
/-- a op= b, by values -/
abbrev TIp := V → V → Hp → VK → Prop
def PIp (X : Cx) (op : Operator) (t : TIp) : Prop :=
  ∀ (pins : List (Addr × Obj)) (s : Shared) (σ : St) (H : Hp) (x y : V) (v u : Value) (Q : VK), Inv X pins σ H s → RelV x v → RelV y u → t x y H Q →
    wpAny (model X.prog X.w) X.A (inplaceOp op v u) (EP X pins σ Q) X.xe s
section
variable {X : Cx} {pos : Pos}
def gName (i : Nat) : TG := fun v σ H Q => Q (σ.set i (some v)) H
theorem pg_name {i : Nat} {x : Str} (hN : X.N.Nodup) (hi : X.N[i]? = some x) (hx : Loc X.env.scope x) (hf : X.fn x = true ∨ X.env.scope.names.lookup x = some .local := by first | exact .inl rfl | exact .inr rfl | assumption) : PG X (.Name x pos) (gName i) := by
  intro pins s σ H v u Q I r h
  exact wpAny_assign_Name (store_ok I hN hi hx r (fun s' I' => ⟨_, H, I', h⟩) hf)
def gNil : TGs := fun vs σ H Q => vs = [] ∧ Q σ H
def gCons (t : TG) (u : TGs) : TGs := fun vs σ H Q => ∃ v r, vs = v :: r ∧ t v σ H fun σ' H' => u r σ' H' Q
theorem pgs_nil : PGs X [] gNil := by
  intro pins s σ H vs us Q I r h
  obtain ⟨e, h⟩ := h
  subst e
  cases r
  exact assignInOrder_nil ⟨σ, H, I, h⟩
theorem pgs_cons {e : Expr} {es : List Expr} {t : TG} {u : TGs} (h1 : PG X e t) (h2 : PGs X es u)
    (hs : (assignEach (e :: es) X.env).map (·.2) = assign e X.env :: (assignEach es X.env).map (·.2) := by rfl) : PGs X (e :: es) (gCons t u) := by
  intro pins s σ H vs us Q I r h
  obtain ⟨v, vr, e1, h⟩ := h
  subst e1
  cases r with
  | cons r rr =>
    rw [hs]
    refine assignInOrder_cons (thn (h1 pins s σ H _ _ _ I r h) fun _ s1 ⟨σ1, H1, I1, q1⟩ => ?_)
    exact h2 pins s1 σ1 H1 _ _ Q I1 rr q1
/-- (a, b, ..) = a tuple of that length -/
def gTup (K : PySem.W.Frag) (n : Nat) (t : TGs) : TG := fun v σ H Q => ∃ a xs, v = .ref a ∧ SqT K H a xs ∧ xs.length = n ∧ t xs σ H Q
theorem pg_tup {es : List Expr} {k : Nat} {t : TGs} {n : Nat} (hc : X.calm = true) (h : PGs X es t)
    (hn : (assignEach es X.env).length = n := by rfl) (hst : (assignEach es X.env).findIdx? (·.1) = none := by rfl) : PG X (.Tuple es k pos) (gTup X.K n t) := by
  intro pins s σ H v u Q I r hw
  obtain ⟨a, xs, e1, hq, hl, hw⟩ := hw
  subst e1
  cases r
  obtain ⟨its, rv, ht, hz⟩ := I.tuple hq
  refine assign_Tuple_tuple (I.ok.hd hc) ht (by simp [hn, ← hl, rv.length]) hst fun h' hx => ?_
  have I1 : Inv X pins σ H { s with heap := h' } := I.kept (t' := s.toks) fun b o e => hx b o (Nat.ne_of_lt (Heap.lt_size e)) e
  exact h pins _ σ H xs _ Q I1 (by simpa using rv) hw
/-- o[i] = .. -/
def gSub (to ti : TE) (t : TSet) : TG := fun v σ H Q => to σ H fun o H1 => ti σ H1 fun i H2 => t o i v H2 fun H3 => Q σ H3
theorem pg_sub {o i : Expr} {to ti : TE} {t : TSet} (ho : PE X o to) (hi : PE X i ti) (hs : PSet X t)
    (ha : ∀ v, assign (.Subscript o i pos) X.env v = (do
      let ov ← holding [v] (eval o X.env)
      let iv ← holding [v, ov] (eval i X.env)
      standAt pos
      holding [v, ov, iv] (setItem ov iv v)
      release [v, ov, iv] []) := by intro _; rfl) : PG X (.Subscript o i pos) (gSub to ti t) := by
  intro pins s σ H v u Q I r h
  rw [ha]
  refine wpAny_bind (wpAny_holding (thn (ho pins s σ H _ I h) fun ov s1 ⟨x, H1, I1, r1, q1⟩ => ?_))
  refine wpAny_bind (wpAny_holding (thn (hi pins s1 σ H1 _ I1 q1) fun iv s2 ⟨y, H2, I2, r2, q2⟩ => ?_))
  refine wpAny_bind (wpAny_standAt (wpAny_bind (wpAny_holding (thn (hs pins s2 σ H2 x y v ov iv u _ I2 r1 r2 r q2) fun _ s3 ⟨H3, I3, q3⟩ => ?_))))
  exact wpAny_release ⟨σ, H3, I3, q3⟩
/-- target = value -/
def tAsg (te : TE) (g : TG) : TS := fun D σ H => te σ H fun x H1 => g x σ H1 D.nx
theorem ps_asg {tg e : Expr} {te : TE} {g : TG} (he : PE X e te) (hg : PG X tg g) (hs : swapsWithSole [tg] e pos.line X.env = pure false := by rfl) (hw : swappedStores [tg] e X.env = pure none := by rfl)
    (h1 : (assignEach [tg] X.env).map (·.2) = [assign tg X.env] := by rfl) : PS X (.Assign [tg] e pos) (tAsg te g) := by
  intro pins s σ H D I h
  refine wpAny_Assign_stores (thn (he pins s σ H _ I h) fun v s1 ⟨x, H1, I1, r1, q1⟩ => ?_) hs hw
  rw [h1]
  exact thn (hg pins s1 σ H1 x v _ I1 r1 q1) fun _ s2 q => q
/-- name = value -/
theorem ps_set {i : Nat} {x : Str} {e : Expr} {te : TE} {pos' : Pos} (hN : X.N.Nodup) (hi : X.N[i]? = some x) (hx : Loc X.env.scope x) (he : PE X e te) (hs : swapsWith e (some (.Name x pos')) pos.line X.env = pure false := by rfl) (hf : X.fn x = true ∨ X.env.scope.names.lookup x = some .local := by first | exact .inl rfl | exact .inr rfl | assumption) :
    PS X (.Assign [.Name x pos'] e pos) (tAsg te (gName i)) := by
  intro pins s σ H D I h
  refine wpAny_Assign_Name (thn (he pins s σ H _ I h) fun v s1 ⟨y, H1, I1, r1, q1⟩ => ?_) hs
  exact store_ok I1 hN hi hx r1 (fun s2 I2 => ⟨_, H1, I2, q1⟩) hf
/-- a, b = x, y with plain local names: stored from the right; the pair itself is not tracked (the opening rows as in PyProof/Rows/TupAssign.lean:23) -/
def tPar (i j : Nat) (ta : TA) : TS := fun D σ H => ta σ H fun vs H1 => ∃ v w, vs = [v, w] ∧ D.nx ((σ.set i (some v)).set j (some w)) H1
theorem ps_par {i j : Nat} {x y : Str} {a b : Expr} {ta : TA} {px py pt : Pos} {kt k2 pt2} (hc : X.calm = true) (hN : X.N.Nodup) (hi : X.N[i]? = some x) (hj : X.N[j]? = some y) (hij : i ≠ j)
    (hx : X.env.scope.names.lookup x = some .local) (hy : X.env.scope.names.lookup y = some .local) (ha : PA X [a, b] ta)
    (hw : swappedStores [.Tuple [.Name x px, .Name y py] kt pt] (.Tuple [a, b] k2 pt2) X.env = pure (some [x, y]))
    (hs : swapsWithSole [.Tuple [.Name x px, .Name y py] kt pt] (.Tuple [a, b] k2 pt2) pos.line X.env = pure false := by rfl) :
    PS X (.Assign [.Tuple [.Name x px, .Name y py] kt pt] (.Tuple [a, b] k2 pt2) pos) (tPar i j ta) := by
  intro pins s σ H D I h
  rw [exec_Assign_arm]
  refine wpAny_bind (wpAny_standAt ?_)
  rw [hs]
  refine wpAny_bind (wpAny_pure ?_)
  rw [if_neg (by decide)]
  refine wpAny_bind (Tuple_ (thn (ha _ pins s σ H _ I h) fun us s1 ⟨vs, H1, I1, r1, q1⟩ => ?_))
  obtain ⟨v, w, e1, q1⟩ := q1
  subst e1
  obtain ⟨u1, u2, rfl, rv, rw'⟩ : ∃ u1 u2, us = [u1, u2] ∧ RelV v u1 ∧ RelV w u2 := by
    cases r1 with
    | cons p q =>
      cases q with
      | cons p' q' =>
        cases q'
        exact ⟨_, _, rfl, p, p'⟩
  refine wpAny_newObj_type ?_ (by show 2 ≤ sizeLine; decide)
  have I2 : Inv X pins σ H1 { s1 with heap := s1.heap.push { cls := .type "tuple", data := .seq [u1, u2].toArray } } := I1.kept (t' := s1.toks) fun b o e => Heap.get?_push_of_some _ e
  rw [hw]
  refine wpAny_bind (wpAny_pure ?_)
  show wpAny (model X.prog X.w) X.A (do rule "assign.swapped-stores"; let items ← unpackItems (.ref s1.heap.objs.size) 2 none; assignInOrder [fun v => bindName X.env y v, fun v => bindName X.env x v] items.reverse; pure Flow.next) _ _ _
  refine wpAny_bind (wpAny_rule (wpAny_bind (unpackItems_tuple (items := #[u1, u2]) (I.ok.hd hc) (IsTup.new s1.heap _) fun h' hx' => ?_)))
  have I3 := I2.kept (h' := h') (t' := s1.toks) fun b o e => hx' b o (Nat.ne_of_lt (Heap.lt_size e)) e
  show wpAny _ _ (assignInOrder [fun v => bindName X.env y v, fun v => bindName X.env x v] [u2, u1] >>= fun _ => pure Flow.next) _ _ _
  refine wpAny_bind (assignInOrder_cons (wpAny_bindName (store_ok I3 hN hj (.inl hy) rw' (fun s2 I4 => ?_) (.inr hy))))
  refine assignInOrder_cons (wpAny_bindName (store_ok I4 hN hi (.inl hx) rv (fun s3 I5 => assignInOrder_nil (wpAny_pure ?_)) (.inr hx)))
  rw [List.set_comm _ _ (Ne.symm hij)] at I5
  exact ⟨_, H1, I5, q1⟩
/-- name op= e -/
def tAug (i : Nat) (te : TE) (ti : TIp) : TS := fun D σ H => ∃ x, σ[i]? = some (some x) ∧ te σ H fun y H1 => ti x y H1 fun z H2 => D.nx (σ.set i (some z)) H2
theorem ps_aug {i : Nat} {x : Str} {e : Expr} {te : TE} {op : Operator} {ti : TIp} {pos' : Pos} (hN : X.N.Nodup) (hi : X.N[i]? = some x) (hx : Loc X.env.scope x) (he : PE X e te) (ho : PIp X op ti) (hf : X.fn x = true ∨ X.env.scope.names.lookup x = some .local := by first | exact .inl rfl | exact .inr rfl | assumption) :
    PS X (.AugAssign (.Name x pos') op e pos) (tAug i te ti) := by
  intro pins s σ H D I h
  obtain ⟨v, e1, h⟩ := h
  obtain ⟨m, hn, hl⟩ := I.loc
  have vis : Vis X.env.scope x := by rcases hx with k | k; exact .inl k; exact .inr (.inl k)
  obtain ⟨u, r, l⟩ := hl i x v hi e1 vis
  refine wpAny_AugAssign_Name ?_
  have go : wpAny (model X.prog X.w) X.A (eval e X.env) (fun w s₂ => wpAny (model X.prog X.w) X.A (inplaceOp op u w) (fun r s₃ => wpAny (model X.prog X.w) X.A (storeName X.env x r) (fun _ => SP X pins D .next) X.xe s₃) X.xe s₂) X.xe s := by
    refine thn (he pins s σ H _ I h) fun w s1 ⟨y, H1, I1, r1, q1⟩ => ?_
    refine thn (ho pins s1 σ H1 v y u w _ I1 r r1 q1) fun z s2 ⟨zv, H2, I2, r2, q2⟩ => ?_
    exact store_ok I2 hN hi hx r2 (fun s3 I3 => ⟨_, H2, I3, q2⟩) hf
  rcases l with ⟨hk, hm⟩ | ⟨hk, c, hc, hcell⟩
  · exact wpAny_loadName_local I.ok.kind hk hn hm go
  · rcases hk with hk | hk
    · exact wpAny_loadName_cell I.ok.kind hk hc hcell go
    · rcases hx with k | k
      · have : X.env.scope.names.lookup x = some .free := hk
        rw [k] at this; cases this
      · have : X.env.scope.names.lookup x = some .free := hk
        rw [k] at this; cases this
/-- o[i] op= e -/
def tAugS (to ti te : TE) (tget : V → V → Hp → VK → Prop) (tip : TIp) (tset : TSet) : TS := fun D σ H => to σ H fun o H1 => ti σ H1 fun i H2 => tget o i H2 fun x H3 => te σ H3 fun y H4 => tip x y H4 fun z H5 => tset o i z H5 fun H6 => D.nx σ H6
/-- o[i], by values -/
def PGet (X : Cx) (t : V → V → Hp → VK → Prop) : Prop :=
  ∀ (pins : List (Addr × Obj)) (s : Shared) (σ : St) (H : Hp) (o i : V) (ov iv : Value) (Q : VK), Inv X pins σ H s → RelV o ov → RelV i iv → t o i H Q →
    wpAny (model X.prog X.w) X.A (getItem ov iv) (EP X pins σ Q) X.xe s
theorem ps_augS {o i e : Expr} {to ti te : TE} {tget : V → V → Hp → VK → Prop} {tip : TIp} {tset : TSet} {op : Operator} {tpos : Pos} (ho : PE X o to) (hi : PE X i ti) (hg : PGet X tget) (he : PE X e te) (hp : PIp X op tip) (hs : PSet X tset)
    (ha : ∀ ov iv new, augStore i ov iv new = (do holding [new, ov, iv] (setItem ov iv new); release [new, ov, iv] []; pure .next) := by intros; rfl) : PS X (.AugAssign (.Subscript o i tpos) op e pos) (tAugS to ti te tget tip tset) := by
  intro pins s σ H D I h
  refine wpAny_AugAssign_SubscriptAny (thn (ho pins s σ H _ I h) fun ov s1 ⟨x1, H1, I1, r1, q1⟩ => ?_) ha
  refine thn (hi pins s1 σ H1 _ I1 q1) fun iv s2 ⟨x2, H2, I2, r2, q2⟩ => ?_
  refine thn (hg pins s2 σ H2 x1 x2 ov iv _ I2 r1 r2 q2) fun old s3 ⟨x3, H3, I3, r3, q3⟩ => ?_
  refine thn (he pins s3 σ H3 _ I3 q3) fun v s4 ⟨x4, H4, I4, r4, q4⟩ => ?_
  refine thn (hp pins s4 σ H4 x3 x4 old v _ I4 r3 r4 q4) fun new s5 ⟨x5, H5, I5, r5, q5⟩ => ?_
  exact thn (hs pins s5 σ H5 x1 x2 x5 ov iv new _ I5 r1 r2 r5 q5) fun _ s6 ⟨H6, I6, q6⟩ => ⟨σ, H6, I6, q6⟩
/-- ints -/
def ipI (f : Int → Int → Int) : TIp := fun x y H Q => ∃ i j, x = .int i ∧ y = .int j ∧ Q (.int (f i j)) H
theorem ip_add : PIp X .Add (ipI fun i j => i + j) := by
  intro pins s σ H x y v u Q I r1 r2 h
  obtain ⟨i, j, e1, e2, q⟩ := h
  subst e1; subst e2
  obtain ⟨t, rfl⟩ := r1
  obtain ⟨t', rfl⟩ := r2
  exact iadd_int ⟨.int _, H, I.tok _, ⟨_, rfl⟩, q⟩
theorem ip_sub : PIp X .Sub (ipI fun i j => i - j) := by
  intro pins s σ H x y v u Q I r1 r2 h
  obtain ⟨i, j, e1, e2, q⟩ := h
  subst e1; subst e2
  obtain ⟨t, rfl⟩ := r1
  obtain ⟨t', rfl⟩ := r2
  exact isub_int ⟨.int _, H, I.tok _, ⟨_, rfl⟩, q⟩
end

/-! ### while -/
section
variable {X : Cx} {pos : Pos}
/-- the invariant W with its measure -/
def tWhile (c : TT) (tb : TS) : TS := fun D σ H => ∃ W : Nat → St → Hp → Prop, (∃ m, W m σ H) ∧ ∀ m σ H, W m σ H →
  c σ H fun b H1 => if b = true then ∃ N : St → Hp → Prop, (∀ σ' H', N σ' H' → ∃ m', m' < m ∧ W m' σ' H') ∧ tb { D with nx := N, ct := N, bk := D.nx } σ H1 else D.nx σ H1
theorem ps_while {c : Expr} {body : List Stmt} {tc : TT} {tb : TS} (hp : PassesOwn (model X.prog X.w) X.A X.env X.xe) (hc : PT X c tc) (hb : PSs X body tb) : PS X (.While c body [] pos) (tWhile tc tb) := by
  intro pins s σ H D I h
  obtain ⟨W, ⟨m0, w0⟩, turn⟩ := h
  refine wpAny_While (codeAny_whileLoop (fun n s' => ∃ σ' H', Inv X pins σ' H' s' ∧ W n σ' H') ?_ m0 ⟨σ, H, I, w0⟩)
  rintro n s1 ⟨σ1, H1, I1, w1⟩
  refine wpAny_passesOwn hp (thn (hc pins s1 σ1 H1 _ I1 (turn n σ1 H1 w1)) fun b s2 ⟨H2, I2, q2⟩ => ?_)
  cases b with
  | true =>
    obtain ⟨N, hN, q2⟩ := q2
    rw [if_pos rfl]
    refine wpAny_passesOwn hp (thn (hb pins s2 σ1 H2 _ I2 q2) fun f s3 q3 => ?_)
    cases f with
    | next =>
      obtain ⟨σ3, H3, I3, n3⟩ := q3
      obtain ⟨m', hm, w3⟩ := hN σ3 H3 n3
      exact ⟨m', hm, σ3, H3, I3, w3⟩
    | cont =>
      obtain ⟨σ3, H3, I3, n3⟩ := q3
      obtain ⟨m', hm, w3⟩ := hN σ3 H3 n3
      exact ⟨m', hm, σ3, H3, I3, w3⟩
    | brk => exact q3
    | ret v => exact q3
  | false =>
    rw [if_neg Bool.false_ne_true]
    exact wpAny_execs_nil ⟨σ1, H2, I2, q2⟩
end

/-! ### what a loop or a comprehension walks -/
/-- at turn i: it yields x (the heap may grow), or it stops -/
structure It where
  go : Nat → Hp → Prop
  yld : Nat → Hp → V → Hp → Prop
  stop : Nat → Hp → Prop
/-- the iterator's own objects may turn: they are not the frame's, not pinned, younger than the entry (or a comprehension's own) -/
def FpOk (X : Cx) (pins : List (Addr × Obj)) (H : Hp) (b : Addr) : Prop :=
  H b = none ∧ b ≠ X.env.locals ∧ b ∉ X.fs ∧ (b ∈ X.ex ∨ X.s₀.heap.objs.size ≤ b) ∧ (∀ x c, X.env.cells.lookup x = some c → c ≠ b) ∧ ∀ p ∈ X.pn ++ pins, p.1 ≠ b
theorem Inv.fpOk {X : Cx} {pins : List (Addr × Obj)} {σ : St} {H H' : Hp} {s : Shared} {b : Addr} (I : Inv X pins σ H s) (hb : s.heap.objs.size ≤ b) (hn : H' b = none) : FpOk X pins H' b := by
  refine ⟨hn, Nat.ne_of_gt (Nat.lt_of_lt_of_le I.lt hb), I.nofs hb, .inr (Nat.le_trans I.sz hb), fun x c e z => ?_, fun p hp z => ?_⟩
  · obtain ⟨v, q⟩ := I.cell x c e
    exact absurd (Nat.lt_of_lt_of_le q.lt (by rw [z]; exact hb)) (Nat.lt_irrefl _)
  · exact absurd (Nat.lt_of_lt_of_le (Heap.lt_size (I.pin p hp).1) (by rw [z]; exact hb)) (Nat.lt_irrefl _)
structure Turn (P : Program) (w : World) (K : PySem.W.Frag) (tg : Expr) (J : It) (fp : List Addr) (it : Addr) (tn : Nat → Heap → Prop) : Prop where
  mem : it ∈ fp
  obj : ∀ i h, tn i h → ∀ b ∈ fp, ∃ o, h.get? b = some o ∧ ∀ v, o.data ≠ .cell v
  keep : ∀ i h h', tn i h → (∀ b ∈ fp, ∀ o, h.get? b = some o → h'.get? b = some o) → tn i h'
  item : ∀ (X : Cx), X.prog = P → X.w = w → X.K = K → X.calm = true → ∀ (i : Nat) (pins : List (Addr × Obj)) (s : Shared) (σ : St) (H : Hp) (E : Value → Shared → Prop), Inv X pins σ H s → (∀ b ∈ fp, FpOk X pins H b) → tn i s.heap → J.go i H →
    wpAny (model P w) X.A (pyNext (.ref it)) (fun r s1 => ∃ u, r = some u ∧
      wpAny (model P w) X.A (letOwnedTupleGo tg (.ref it) u) (fun _ s2 => ∃ x H', Inv X pins σ H' s2 ∧ RelV x u ∧ J.yld i H x H' ∧ tn (i + 1) s2.heap ∧ ∀ b ∈ fp, H' b = none) E s1) E s
  done : ∀ (X : Cx), X.prog = P → X.w = w → X.K = K → X.calm = true → ∀ (i : Nat) (pins : List (Addr × Obj)) (s : Shared) (σ : St) (H : Hp) (E : Value → Shared → Prop), Inv X pins σ H s → (∀ b ∈ fp, FpOk X pins H b) → tn i s.heap → J.stop i H →
    wpAny (model P w) X.A (pyNext (.ref it)) (fun r s1 => r = none ∧ Inv X pins σ H s1) E s
  self : ∀ (A : Around) (i : Nat) (s : Shared) (Q : Value → Shared → Prop) (E : Value → Shared → Prop), tn i s.heap → Q (.ref it) s → wpAny (model P w) A (pyIter (.ref it)) Q E s
abbrev TI := St → Hp → (It → Hp → Prop) → Prop
/-- an iterator has come -/
def PIE (X : Cx) (pins : List (Addr × Obj)) (σ : St) (tg : Expr) (R : It → Hp → Prop) (itv : Value) (s2 : Shared) : Prop :=
  ∃ (it : Addr) (fp : List Addr) (tn : Nat → Heap → Prop) (J : It) (H' : Hp), itv = .ref it ∧ Inv X pins σ H' s2 ∧ Turn X.prog X.w X.K tg J fp it tn ∧ tn 0 s2.heap ∧ (∀ b ∈ fp, FpOk X pins H' b) ∧ R J H'
def PI (X : Cx) (tg iter : Expr) (wi : TI) : Prop :=
  ∀ (pins : List (Addr × Obj)) (s : Shared) (σ : St) (H : Hp) (R : It → Hp → Prop), Inv X pins σ H s → wi σ H R →
    wpAny (model X.prog X.w) X.A (eval iter X.env) (fun v s1 => wpAny (model X.prog X.w) X.A (pyIter v) (PIE X pins σ tg R) X.xe s1) X.xe s

/-- the step ahead of the store is nothing for an iterator that keeps no tuple -/
theorem go_of {M : Model} {A : Around} {E : Value → Shared → Prop} {s : Shared} {tg : Expr} {it : Addr} {u : Value} {o : Obj} {n : String} {vs : Array Value} {Q : Unit → Shared → Prop} (ho : s.heap.get? it = some o) (hc : o.cls = .type n) (hd : o.data = .fields vs)
    (hn : ["enumerate", "zip", "dict_itemiterator", "dict_reverseitemiterator", "odict_iterator", "itertools.zip_longest", "itertools.pairwise"].contains n = false) (hQ : Q () s) : wpAny M A (letOwnedTupleGo tg (.ref it) u) Q E s := by
  unfold letOwnedTupleGo
  cases tg <;> first
    | exact wpAny_pure hQ
    | (cases u <;> first
        | exact wpAny_pure hQ
        | (refine wpAny_bind (wpAny_load ho ?_)
           rw [hc, hd]
           show wpAny M A (if (["enumerate", "zip", "dict_itemiterator", "dict_reverseitemiterator", "odict_iterator", "itertools.zip_longest", "itertools.pairwise"].contains n && vs[0]? == some (rawInt _)) = true then _ else _) Q E s
           rw [if_neg (by intro h; rw [hn, Bool.false_and] at h; cases h)]
           exact wpAny_pure hQ))

/-- the list at a, as it stands at each turn (a loop may append to it) -/
def Itl (K : PySem.W.Frag) (a : Addr) : It :=
  ⟨fun i H => ∃ xs x, SqL K H a xs ∧ xs[i]? = some x, fun i H x H' => H' = H ∧ ∀ xs, SqL K H a xs → xs[i]? = some x, fun i H => ∃ xs, SqL K H a xs ∧ xs.length ≤ i⟩
def Itt (K : PySem.W.Frag) (a : Addr) : It :=
  ⟨fun i H => ∃ xs x, SqT K H a xs ∧ xs[i]? = some x, fun i H x H' => H' = H ∧ ∀ xs, SqT K H a xs → xs[i]? = some x, fun i H => ∃ xs, SqT K H a xs ∧ xs.length ≤ i⟩
/-- lo, lo + 1, .. (n of them) -/
def Itr (lo : Int) (n : Nat) : It := ⟨fun i _ => i < n, fun i H x H' => H' = H ∧ x = .int (lo + i), fun i _ => n ≤ i⟩
theorem turn_list {P : Program} {w : World} {K : PySem.W.Frag} {tg : Expr} (a it : Addr) : Turn P w K tg (Itl K a) [it] it (fun i h => h.IsListIter it a i) where
  mem := by simp
  obj := fun i h st b hb => by
    have e : b = it := by simpa using hb
    subst e
    obtain ⟨o, e, c, d⟩ := st
    exact ⟨o, e, fun v z => by rw [d] at z; cases z⟩
  keep := fun i h h' st k => st.at fun o e => k it (by simp) o e
  item := by
    intro X hP hw hK hc i pins s σ H E I hf st hg
    subst hP hw hK
    obtain ⟨xs, x, hq, hx⟩ := hg
    obtain ⟨its, rv, p, hz⟩ := I.list hq
    obtain ⟨u, hu, ru⟩ := rv.get hx
    obtain ⟨f0, f1, f2, f3, f4, f5⟩ := hf it (by simp)
    refine wpAny_pyNext_list_item st p.isList (x := u) (by simpa using hu) fun h' st' sb => ?_
    have I1 : Inv X pins σ H { s with heap := h' } := I.turned (t' := s.toks) (fun b o hb e => (sb.2 b hb).trans e) f0 f1 f3 f4 f5
    obtain ⟨o, e, c, d⟩ := id st'
    exact ⟨u, rfl, go_of (s := { s with heap := h' }) e c d (by decide) ⟨x, H, I1, ru, ⟨rfl, fun ys hy => by rw [I.list_inj hy hq]; exact hx⟩, st', fun b hb => (hf b hb).1⟩⟩
  done := by
    intro X hP hw hK hc i pins s σ H E I hf st hg
    subst hP hw hK
    obtain ⟨xs, hq, hx⟩ := hg
    obtain ⟨its, rv, p, hz⟩ := I.list hq
    obtain ⟨f0, f1, f2, f3, f4, f5⟩ := hf it (by simp)
    have hl := rv.length
    exact wpAny_pyNext_list_end (I.ok.hd hc) st p.isList (by simp; omega) fun h' eb => ⟨rfl, I.turned (t' := s.toks) (fun b o hb e => eb b o hb e) f0 f1 f3 f4 f5⟩
  self := fun _ _ _ _ _ st h => wpAny_pyIter_listiter st h
theorem turn_tuple {P : Program} {w : World} {K : PySem.W.Frag} {tg : Expr} (a it : Addr) : Turn P w K tg (Itt K a) [it] it (fun i h => h.IsTupleIter it a i) where
  mem := by simp
  obj := fun i h st b hb => by
    have e : b = it := by simpa using hb
    subst e
    obtain ⟨o, e, c, d⟩ := st
    exact ⟨o, e, fun v z => by rw [d] at z; cases z⟩
  keep := fun i h h' st k => st.at fun o e => k it (by simp) o e
  item := by
    intro X hP hw hK hc i pins s σ H E I hf st hg
    subst hP hw hK
    obtain ⟨xs, x, hq, hx⟩ := hg
    obtain ⟨its, rv, p, hz⟩ := I.tuple hq
    obtain ⟨u, hu, ru⟩ := rv.get hx
    obtain ⟨f0, f1, f2, f3, f4, f5⟩ := hf it (by simp)
    refine wpAny_pyNext_tuple_item st (show s.heap.IsTuple a its.toArray from p) (x := u) (by simpa using hu) fun h' st' sb => ?_
    have I1 : Inv X pins σ H { s with heap := h' } := I.turned (t' := s.toks) (fun b o hb e => (sb.2 b hb).trans e) f0 f1 f3 f4 f5
    obtain ⟨o, e, c, d⟩ := id st'
    exact ⟨u, rfl, go_of (s := { s with heap := h' }) e c d (by decide) ⟨x, H, I1, ru, ⟨rfl, fun ys hy => by rw [I.tuple_inj hy hq]; exact hx⟩, st', fun b hb => (hf b hb).1⟩⟩
  done := by
    intro X hP hw hK hc i pins s σ H E I hf st hg
    subst hP hw hK
    obtain ⟨xs, hq, hx⟩ := hg
    obtain ⟨its, rv, p, hz⟩ := I.tuple hq
    obtain ⟨f0, f1, f2, f3, f4, f5⟩ := hf it (by simp)
    have hl := rv.length
    exact wpAny_pyNext_tuple_end (I.ok.hd hc) st (show s.heap.IsTuple a its.toArray from p) (by simp; omega) fun h' eb => ⟨rfl, I.turned (t' := s.toks) (fun b o hb e => eb b o hb e) f0 f1 f3 f4 f5⟩
  self := fun _ _ _ _ _ st h => wpAny_pyIter_tupleiter st h
theorem turn_range {P : Program} {w : World} {K : PySem.W.Frag} {tg : Expr} (it : Addr) (lo : Int) (n : Nat) : Turn P w K tg (Itr lo n) [it] it (fun i h => IsRangeIter h it (lo + (i : Nat) * 1) ((n : Int) - (i : Nat)) 1) where
  mem := by simp
  obj := fun i h st b hb => by
    have e : b = it := by simpa using hb
    subst e
    exact ⟨_, st, fun v z => by
      have z' : Data.fields _ = Data.cell v := z
      cases z'⟩
  keep := fun i h h' st k => k it (by simp) _ st
  item := by
    intro X hP hw hK hc i pins s σ H E I hf st hg
    subst hP hw hK
    obtain ⟨f0, f1, f2, f3, f4, f5⟩ := hf it (by simp)
    have W := Walks.range (prog := X.prog) (w := X.w) (I.ok.hd hc) it lo 1 n
    refine W.item i s _ _ hg st fun v h' tk hv st' kk => ?_
    obtain ⟨t, rfl⟩ := hv
    have I1 : Inv X pins σ H { s with heap := h', toks := tk } := I.turned (fun b o hb e => kk b o (by simpa using hb) e) f0 f1 f3 f4 f5
    refine ⟨_, rfl, go_of (s := { s with heap := h', toks := tk }) (n := "range_iterator") st' rfl rfl (by decide) ⟨.int (lo + i), H, I1, ⟨t, ?_⟩, ⟨rfl, rfl⟩, st', fun b hb => (hf b hb).1⟩⟩
    rw [Int.mul_one]
  done := by
    intro X hP hw hK hc i pins s σ H E I hf st hg
    subst hP hw hK
    obtain ⟨f0, f1, f2, f3, f4, f5⟩ := hf it (by simp)
    exact wpAny_pyNext_range_end (I.ok.hd hc) st (by have : n ≤ i := hg; omega) fun h' eb => ⟨rfl, I.turned (t' := s.toks) (fun b o hb e => eb b o hb e) f0 f1 f3 f4 f5⟩
  self := fun _ _ _ _ _ st h => wpAny_pyIter_rangeiter st h
end L2

namespace L2
open PySem PySem.Spec PyProof.Rows
section
variable {X : Cx} {tg : Expr}
def iList (K : PySem.W.Frag) (tl : TE) : TI := fun σ H R => tl σ H fun x H1 => ∃ a, x = .ref a ∧ (∃ xs, SqL K H1 a xs) ∧ R (Itl K a) H1
def iTup (K : PySem.W.Frag) (tl : TE) : TI := fun σ H R => tl σ H fun x H1 => ∃ a, x = .ref a ∧ (∃ xs, SqT K H1 a xs) ∧ R (Itt K a) H1
theorem pi_list {l : Expr} {tl : TE} (hl : PE X l tl) : PI X tg l (iList X.K tl) := by
  intro pins s σ H R I h
  refine thn (hl pins s σ H _ I h) fun v s1 ⟨x, H1, I1, r1, q1⟩ => ?_
  obtain ⟨a, e, ⟨xs, hq⟩, q⟩ := q1
  subst e
  cases r1
  obtain ⟨its, rv, p, hz⟩ := I1.list hq
  refine wpAny_pyIter_list p.isList ?_
  refine ⟨s1.heap.objs.size, [s1.heap.objs.size], _, _, H1, rfl, I1.kept (t' := s1.toks) fun b o e => Heap.get?_push_of_some _ e, turn_list a _, ⟨_, Heap.get?_push_size _ rfl, rfl, rfl⟩, fun b hb => ?_, q⟩
  have e : b = s1.heap.objs.size := by simpa using hb
  subst e
  exact I1.fpOk (Nat.le_refl _) (I1.hok.fresh (Nat.le_refl _))
theorem pi_tup {l : Expr} {tl : TE} (hl : PE X l tl) : PI X tg l (iTup X.K tl) := by
  intro pins s σ H R I h
  refine thn (hl pins s σ H _ I h) fun v s1 ⟨x, H1, I1, r1, q1⟩ => ?_
  obtain ⟨a, e, ⟨xs, hq⟩, q⟩ := q1
  subst e
  cases r1
  obtain ⟨its, rv, p, hz⟩ := I1.tuple hq
  refine wpAny_pyIter_tuple (show s1.heap.IsTuple a its.toArray from p) ?_
  refine ⟨s1.heap.objs.size, [s1.heap.objs.size], _, _, H1, rfl, I1.kept (t' := s1.toks) fun b o e => Heap.get?_push_of_some _ e, turn_tuple a _, ⟨_, Heap.get?_push_size _ rfl, rfl, rfl⟩, fun b hb => ?_, q⟩
  have e : b = s1.heap.objs.size := by simpa using hb
  subst e
  exact I1.fpOk (Nat.le_refl _) (I1.hok.fresh (Nat.le_refl _))
/-- a range object just made, walked -/
theorem range_it {pins : List (Addr × Obj)} {σ : St} {H : Hp} {s : Shared} {R : It → Hp → Prop} {E : Value → Shared → Prop} {lo hi : Int} {t u v : Tok} {tk : Nat} (I : Inv X pins σ H s) (h1 : -(2 ^ 62) ≤ lo) (h2 : lo < 2 ^ 62) (h3 : -(2 ^ 62) ≤ hi) (h4 : hi < 2 ^ 62)
    (q : R (Itr lo (hi - lo).toNat) H) : wpAny (model X.prog X.w) X.A (pyIter (.ref s.heap.objs.size)) (PIE X pins σ tg R) E { s with heap := s.heap.push { cls := .type "range", data := .fields #[.int lo t, .int hi u, .int 1 v] }, toks := tk } := by
  refine wpAny_pyIter_range (IsRange.new ..) (small_one h1 h2 h3 h4) ?_
  have I1 : Inv X pins σ H { s with heap := s.heap.push { cls := .type "range", data := .fields #[.int lo t, .int hi u, .int 1 v] }, toks := tk } := I.kept fun b o e => Heap.get?_push_of_some _ e
  refine ⟨(s.heap.push { cls := .type "range", data := .fields #[.int lo t, .int hi u, .int 1 v] }).objs.size, [(s.heap.push { cls := .type "range", data := .fields #[.int lo t, .int hi u, .int 1 v] }).objs.size], _, _, H, rfl,
    I1.kept (t' := tk) fun b o e => Heap.get?_push_of_some _ e, turn_range _ lo (hi - lo).toNat, ?_, fun b hb => ?_, q⟩
  · have e1 : lo + ((0 : Nat) : Int) * 1 = lo := by simp
    have e2 : (((hi - lo).toNat : Nat) : Int) - ((0 : Nat) : Int) = Builtin.Range.rangeSize lo hi 1 := by rw [rangeSize_one]; split <;> omega
    show IsRangeIter _ _ (lo + ((0 : Nat) : Int) * 1) ((((hi - lo).toNat : Nat) : Int) - ((0 : Nat) : Int)) 1
    rw [e1, e2]
    exact Heap.get?_push_size _ rfl
  · have e : b = (s.heap.push { cls := .type "range", data := .fields #[.int lo t, .int hi u, .int 1 v] }).objs.size := by simpa using hb
    subst e
    exact I1.fpOk (Nat.le_refl _) (I1.hok.fresh (Nat.le_refl _))
def iRng1 (ta : TA) : TI := fun σ H R => ta σ H fun vs H1 => ∃ j : Int, vs = [.int j] ∧ -(2 ^ 62) ≤ j ∧ j < 2 ^ 62 ∧ R (Itr 0 j.toNat) H1
def iRng2 (ta : TA) : TI := fun σ H R => ta σ H fun vs H1 => ∃ i j : Int, vs = [.int i, .int j] ∧ (-(2 ^ 62) ≤ i ∧ i < 2 ^ 62 ∧ -(2 ^ 62) ≤ j ∧ j < 2 ^ 62) ∧ R (Itr i (j - i).toNat) H1
theorem pi_range1 {a : Expr} {ta : TA} {p pos : Pos} (hg : Gl X "range") (hm : X.mg "range" = none) (ha : PA X [a] ta) (hs : starEach [a] X.env = [(false, eval a X.env)] := by rfl) : PI X tg (.Call (.Name "range" p) [a] [] pos) (iRng1 ta) := by
  intro pins s σ H R I h
  refine Call_ (ld_blt I hg hm boot_range (PyProof.Rows.callWith_type1 (thn (ha pos pins s σ H _ I h) fun us s1 ⟨vs, H1, I1, r1, q1⟩ => ?_) hs rfl))
  obtain ⟨j, e, q1, q2, q⟩ := q1
  subst e
  cases r1 with
  | cons r rr =>
    cases rr
    obtain ⟨t, rfl⟩ := r
    exact call_range_1 (range_it I1 (by omega) (by omega) q1 q2 (by simpa using q))
theorem pi_range2 {a b : Expr} {ta : TA} {p pos : Pos} (hg : Gl X "range") (hm : X.mg "range" = none) (ha : PA X [a, b] ta) (hs : starEach [a, b] X.env = [(false, eval a X.env), (false, eval b X.env)] := by rfl) (hs2 : starEach [b] X.env = [(false, eval b X.env)] := by rfl) :
    PI X tg (.Call (.Name "range" p) [a, b] [] pos) (iRng2 ta) := by
  intro pins s σ H R I h
  refine Call_ (ld_blt I hg hm boot_range (PyProof.Rows.callWith_type1 (thn (ha pos pins s σ H _ I h) fun us s1 ⟨vs, H1, I1, r1, q1⟩ => ?_) (by rw [hs, hs2]) (by rw [hs2]; rfl)))
  obtain ⟨i, j, e, ⟨q1, q2, q3, q4⟩, q⟩ := q1
  subst e
  cases r1 with
  | cons r rr =>
    cases rr with
    | cons r' rr =>
      cases rr
      obtain ⟨t, rfl⟩ := r
      obtain ⟨t', rfl⟩ := r'
      exact call_range_2 (range_it I1 q1 q2 q3 q4 q)

/-! ### for -/
/-- W: the invariant by the turn and a measure; N: what the body is to reach -/
def tFor (wi : TI) (g : TG) (tb : TS) : TS := fun D σ H => wi σ H fun J H1 => ∃ W : Nat → Nat → St → Hp → Prop, (∃ m, W 0 m σ H1) ∧ ∀ i m σ H, W i m σ H →
  (J.stop i H ∧ D.nx σ H) ∨ (J.go i H ∧ ∃ N : St → Hp → Prop, (∀ σ' H', N σ' H' → ∃ m', m' < m ∧ W (i + 1) m' σ' H') ∧ ∀ x H', J.yld i H x H' → g x σ H' fun σ2 H2 => tb { D with nx := N, ct := N, bk := D.nx } σ2 H2)
/-- the records at fp as they stand -/
def pinsAt (fp : List Addr) (h : Heap) : List (Addr × Obj) := fp.filterMap fun b => (h.get? b).map fun o => (b, o)
theorem mem_pinsAt {fp : List Addr} {h : Heap} {b : Addr} {o : Obj} (hb : b ∈ fp) (e : h.get? b = some o) : (b, o) ∈ pinsAt fp h := List.mem_filterMap.mpr ⟨b, hb, by rw [e]; rfl⟩
theorem of_pinsAt {fp : List Addr} {h : Heap} {p : Addr × Obj} (hp : p ∈ pinsAt fp h) : p.1 ∈ fp ∧ h.get? p.1 = some p.2 := by
  obtain ⟨b, hb, e⟩ := List.mem_filterMap.mp hp
  cases q : h.get? b with
  | none => rw [q] at e; cases e
  | some o =>
    rw [q] at e
    have e' : (b, o) = p := Option.some.inj e
    subst e'
    exact ⟨hb, q⟩
theorem Inv.pinned {pins : List (Addr × Obj)} {σ : St} {H : Hp} {s : Shared} {fp : List Addr} (I : Inv X pins σ H s) (hf : ∀ b ∈ fp, FpOk X pins H b) (ho : ∀ b ∈ fp, ∃ o, s.heap.get? b = some o ∧ ∀ v, o.data ≠ .cell v) : Inv X (pins ++ pinsAt fp s.heap) σ H s :=
  I.pins_of fun p hp => (List.mem_append.mp hp).elim (fun z => I.pin p (List.mem_append_right _ z)) fun z => by
    obtain ⟨hb, e⟩ := of_pinsAt z
    obtain ⟨f0, f1, f2, _⟩ := hf p.1 hb
    obtain ⟨o, e', d⟩ := ho p.1 hb
    rw [e] at e'; cases e'
    exact ⟨e, f0, f1, f2, d⟩
theorem Inv.unpinned {pins pl : List (Addr × Obj)} {σ : St} {H : Hp} {s : Shared} (I : Inv X (pins ++ pl) σ H s) : Inv X pins σ H s := I.pins_of fun p hp => I.pin p (List.mem_append_right _ (List.mem_append_left _ hp))
theorem ps_for {iter : Expr} {body : List Stmt} {wi : TI} {g : TG} {tb : TS} {pos : Pos} (hp : PassesOwn (model X.prog X.w) X.A X.env X.xe) (hc : X.calm = true) (hi : PI X tg iter wi) (hg : PG X tg g) (hb : PSs X body tb)
    (hs : ∀ x, foldedSetIterable iter X.env x = pure x := by intro _; rfl) : PS X (.For tg iter body [] pos) (tFor wi g tb) := by
  intro pins s σ H D I h
  refine wpAny_For (thn (hi pins s σ H _ I h) fun v s1 h1 => thn h1 fun itv s2 h2 => ?_) hs
  obtain ⟨it, fp, tn, J, H2, e, I2, T, st2, f2, W, ⟨m0, w0⟩, turn⟩ := h2
  subst e
  -- what stays true of the iterator's objects through the loop
  have stat : ∀ {H' : Hp}, (∀ b ∈ fp, H' b = none) → ∀ b ∈ fp, FpOk X pins H' b := fun hn b hb => ⟨hn b hb, (f2 b hb).2⟩
  refine codeAny_forLoop_any (fun n s' => ∃ i σ' H', Inv X pins σ' H' s' ∧ tn i s'.heap ∧ (∀ b ∈ fp, H' b = none) ∧ W i n σ' H') ?_ m0 ⟨0, σ, H2, I2, st2, fun b hb => (f2 b hb).1, w0⟩
  rintro n s3 ⟨i, σ3, H3, I3, st3, fr3, w3⟩
  rcases turn i n σ3 H3 w3 with ⟨stop, qn⟩ | ⟨go, N, hN, step⟩
  · refine wpAny_passesOwn hp (thn (T.done X rfl rfl rfl hc i pins s3 σ3 H3 X.xe I3 (stat fr3) st3 stop) fun r s4 ⟨hr, I4⟩ => ?_)
    subst hr
    exact wpAny_execs_nil ⟨σ3, H3, I4, qn⟩
  · refine wpAny_passesOwn hp (thn (T.item X rfl rfl rfl hc i pins s3 σ3 H3 X.xe I3 (stat fr3) st3 go) fun r s4 ⟨u, hr, h4⟩ => ?_)
    subst hr
    refine wpAny_passesOwn hp (thn h4 fun _ s5 ⟨x, H5, I5, r5, y5, st5, fr5⟩ => ?_)
    have I5' := I5.pinned (stat fr5) (T.obj _ _ st5)
    refine wpAny_passesOwn hp (thn (hg _ s5 σ3 H5 x u _ I5' r5 (step x H5 y5)) fun _ s6 ⟨σ6, H6, I6, q6⟩ => ?_)
    refine wpAny_passesOwn hp (thn (hb _ s6 σ6 H6 _ I6 q6) fun f s7 q7 => ?_)
    have again : ∀ {σ7 : St} {H7 : Hp}, Inv X (pins ++ pinsAt fp s5.heap) σ7 H7 s7 → N σ7 H7 → ∃ m, m < n ∧ ∃ i σ' H', Inv X pins σ' H' s7 ∧ tn i s7.heap ∧ (∀ b ∈ fp, H' b = none) ∧ W i m σ' H' := fun {σ7 H7} I7 n7 => by
      obtain ⟨m', hm, w7⟩ := hN σ7 H7 n7
      refine ⟨m', hm, i + 1, σ7, H7, I7.unpinned, T.keep _ _ _ st5 fun b hb o e => (I7.pin (b, o) (List.mem_append_right _ (List.mem_append_right _ (mem_pinsAt hb e)))).1, fun b hb => ?_, w7⟩
      obtain ⟨o, e, d⟩ := T.obj _ _ st5 b hb
      exact (I7.pin (b, o) (List.mem_append_right _ (List.mem_append_right _ (mem_pinsAt hb e)))).2.1
    cases f with
    | next => obtain ⟨σ7, H7, I7, n7⟩ := q7; exact again I7 n7
    | cont => obtain ⟨σ7, H7, I7, n7⟩ := q7; exact again I7 n7
    | brk => obtain ⟨σ7, H7, I7, q7⟩ := q7; exact ⟨σ7, H7, I7.unpinned, q7⟩
    | ret v => obtain ⟨x7, σ7, H7, I7, r7, q7⟩ := q7; exact ⟨x7, σ7, H7, I7.unpinned, r7, q7⟩
end

/-! ### the forms one uses -/
/-- over a list that the body leaves as it is -/
theorem for_list {K : PySem.W.Frag} {a : Addr} {xs : List V} {g : TG} {tb : TS} {D : Ends} {σ : St} {H : Hp} (Pv : Nat → St → Hp → Prop) (h0 : Pv 0 σ H) (hl : ∀ i σ H, i ≤ xs.length → Pv i σ H → SqL K H a xs)
    (hs : ∀ i x σ H, xs[i]? = some x → Pv i σ H → g x σ H fun σ2 H2 => tb { D with nx := Pv (i + 1), ct := Pv (i + 1), bk := D.nx } σ2 H2) (hd : ∀ σ H, Pv xs.length σ H → D.nx σ H) :
    ∃ W : Nat → Nat → St → Hp → Prop, (∃ m, W 0 m σ H) ∧ ∀ i m σ H, W i m σ H →
      ((Itl K a).stop i H ∧ D.nx σ H) ∨ ((Itl K a).go i H ∧ ∃ N : St → Hp → Prop, (∀ σ' H', N σ' H' → ∃ m', m' < m ∧ W (i + 1) m' σ' H') ∧ ∀ x H', (Itl K a).yld i H x H' → g x σ H' fun σ2 H2 => tb { D with nx := N, ct := N, bk := D.nx } σ2 H2) := by
  refine ⟨fun i m σ H => m = xs.length - i ∧ i ≤ xs.length ∧ Pv i σ H, ⟨xs.length, by simp, Nat.zero_le _, h0⟩, ?_⟩
  rintro i m σ H ⟨rfl, hi, p⟩
  have q := hl i σ H hi p
  by_cases hlt : i < xs.length
  · refine .inr ⟨⟨xs, xs[i], q, by simp [hlt]⟩, Pv (i + 1), fun σ' H' p' => ⟨xs.length - (i + 1), by omega, rfl, hlt, p'⟩, fun x H' y => ?_⟩
    obtain ⟨e, y⟩ := y
    subst e
    exact hs i x σ _ (y xs q) p
  · have e : i = xs.length := by omega
    subst e
    exact .inl ⟨⟨xs, q, Nat.le_refl _⟩, hd σ H p⟩
theorem for_tup {K : PySem.W.Frag} {a : Addr} {xs : List V} {g : TG} {tb : TS} {D : Ends} {σ : St} {H : Hp} (Pv : Nat → St → Hp → Prop) (h0 : Pv 0 σ H) (hl : ∀ i σ H, i ≤ xs.length → Pv i σ H → SqT K H a xs)
    (hs : ∀ i x σ H, xs[i]? = some x → Pv i σ H → g x σ H fun σ2 H2 => tb { D with nx := Pv (i + 1), ct := Pv (i + 1), bk := D.nx } σ2 H2) (hd : ∀ σ H, Pv xs.length σ H → D.nx σ H) :
    ∃ W : Nat → Nat → St → Hp → Prop, (∃ m, W 0 m σ H) ∧ ∀ i m σ H, W i m σ H →
      ((Itt K a).stop i H ∧ D.nx σ H) ∨ ((Itt K a).go i H ∧ ∃ N : St → Hp → Prop, (∀ σ' H', N σ' H' → ∃ m', m' < m ∧ W (i + 1) m' σ' H') ∧ ∀ x H', (Itt K a).yld i H x H' → g x σ H' fun σ2 H2 => tb { D with nx := N, ct := N, bk := D.nx } σ2 H2) := by
  refine ⟨fun i m σ H => m = xs.length - i ∧ i ≤ xs.length ∧ Pv i σ H, ⟨xs.length, by simp, Nat.zero_le _, h0⟩, ?_⟩
  rintro i m σ H ⟨rfl, hi, p⟩
  have q := hl i σ H hi p
  by_cases hlt : i < xs.length
  · refine .inr ⟨⟨xs, xs[i], q, by simp [hlt]⟩, Pv (i + 1), fun σ' H' p' => ⟨xs.length - (i + 1), by omega, rfl, hlt, p'⟩, fun x H' y => ?_⟩
    obtain ⟨e, y⟩ := y
    subst e
    exact hs i x σ _ (y xs q) p
  · have e : i = xs.length := by omega
    subst e
    exact .inl ⟨⟨xs, q, Nat.le_refl _⟩, hd σ H p⟩
theorem for_range {lo : Int} {n : Nat} {g : TG} {tb : TS} {D : Ends} {σ : St} {H : Hp} (Pv : Nat → St → Hp → Prop) (h0 : Pv 0 σ H)
    (hs : ∀ i σ H, i < n → Pv i σ H → g (.int (lo + i)) σ H fun σ2 H2 => tb { D with nx := Pv (i + 1), ct := Pv (i + 1), bk := D.nx } σ2 H2) (hd : ∀ σ H, Pv n σ H → D.nx σ H) :
    ∃ W : Nat → Nat → St → Hp → Prop, (∃ m, W 0 m σ H) ∧ ∀ i m σ H, W i m σ H →
      ((Itr lo n).stop i H ∧ D.nx σ H) ∨ ((Itr lo n).go i H ∧ ∃ N : St → Hp → Prop, (∀ σ' H', N σ' H' → ∃ m', m' < m ∧ W (i + 1) m' σ' H') ∧ ∀ x H', (Itr lo n).yld i H x H' → g x σ H' fun σ2 H2 => tb { D with nx := N, ct := N, bk := D.nx } σ2 H2) := by
  refine ⟨fun i m σ H => m = n - i ∧ i ≤ n ∧ Pv i σ H, ⟨n, by simp, Nat.zero_le _, h0⟩, ?_⟩
  rintro i m σ H ⟨rfl, hi, p⟩
  by_cases hlt : i < n
  · refine .inr ⟨hlt, Pv (i + 1), fun σ' H' p' => ⟨n - (i + 1), by omega, rfl, hlt, p'⟩, fun x H' y => ?_⟩
    obtain ⟨e, y⟩ := y
    subst e y
    exact hs i σ _ hlt p
  · have e : i = n := by omega
    subst e
    exact .inl ⟨Nat.le_refl _, hd σ H p⟩
/-- while, by a word and a measure of the state -/
theorem while_by {c : TT} {tb : TS} {D : Ends} {σ : St} {H : Hp} (Pv : St → Hp → Prop) (μ : St → Hp → Nat) (h0 : Pv σ H)
    (hs : ∀ σ H, Pv σ H → c σ H fun b H1 => if b = true then tb { D with nx := fun σ' H' => Pv σ' H' ∧ μ σ' H' < μ σ H, ct := fun σ' H' => Pv σ' H' ∧ μ σ' H' < μ σ H, bk := D.nx } σ H1 else D.nx σ H1)
    (mono : ∀ σ H Q Q', (∀ b H1, Q b H1 → Q' b H1) → c σ H Q → c σ H Q') : tWhile c tb D σ H := by
  refine ⟨fun m σ H => m = μ σ H ∧ Pv σ H, ⟨_, rfl, h0⟩, ?_⟩
  rintro m σ H ⟨rfl, p⟩
  refine mono σ H _ _ (fun b H1 q => ?_) (hs σ H p)
  cases b with
  | true => exact ⟨_, fun σ' H' ⟨p', l⟩ => ⟨_, l, rfl, p'⟩, q⟩
  | false => exact q
end L2

namespace L2
open PySem PySem.Spec PyProof.Rows

abbrev R2 := V → V → Hp → VK → Prop
/-- a two-place operation on values: f is binaryOp op, inplaceOp op or compareOp op -/
def OpR (X : Cx) (f : Value → Value → Sem Value) (r : R2) : Prop :=
  ∀ (pins : List (Addr × Obj)) (s : Shared) (σ : St) (H : Hp) (x y : V) (v u : Value) (Q : VK), Inv X pins σ H s → RelV x v → RelV y u → r x y H Q →
    wpAny (model X.prog X.w) X.A (f v u) (EP X pins σ Q) X.xe s
/-- a one-place operation -/
def UnR (X : Cx) (f : Value → Sem Value) (r : V → Hp → VK → Prop) : Prop :=
  ∀ (pins : List (Addr × Obj)) (s : Shared) (σ : St) (H : Hp) (x : V) (v : Value) (Q : VK), Inv X pins σ H s → RelV x v → r x H Q →
    wpAny (model X.prog X.w) X.A (f v) (EP X pins σ Q) X.xe s
/-- a call of a value that is known (a builtin, a type) with values -/
def CallR (X : Cx) (f : Value) (r : List V → Hp → VK → Prop) : Prop :=
  ∀ (pins : List (Addr × Obj)) (s : Shared) (σ : St) (H : Hp) (xs : List V) (us : List Value) (Q : VK), Inv X pins σ H s → Vals xs us → r xs H Q →
    wpAny (model X.prog X.w) X.A (call f us) (EP X pins σ Q) X.xe s
/-- a value's truth -/
def TruR (X : Cx) (r : V → Hp → (Bool → Hp → Prop) → Prop) : Prop :=
  ∀ (pins : List (Addr × Obj)) (s : Shared) (σ : St) (H : Hp) (x : V) (v : Value) (Q : Bool → Hp → Prop), Inv X pins σ H s → RelV x v → r x H Q →
    wpAny (model X.prog X.w) X.A (truthy v) (TP X pins σ Q) X.xe s

def tOp (r : R2) (ta tb : TE) : TE := fun σ H Q => ta σ H fun x H1 => tb σ H1 fun y H2 => r x y H2 Q
def tUn (r : V → Hp → VK → Prop) (ta : TE) : TE := fun σ H Q => ta σ H fun x H1 => r x H1 Q
/-- ints in, under C, and a value out -/
def rI (C : Int → Int → Prop) (g : Int → Int → V) : R2 := fun x y H Q => ∃ i j, x = .int i ∧ y = .int j ∧ C i j ∧ Q (g i j) H
def rI0 (g : Int → Int → V) : R2 := fun x y H Q => ∃ i j, x = .int i ∧ y = .int j ∧ Q (g i j) H
def rU (g : Int → V) : V → Hp → VK → Prop := fun x H Q => ∃ i, x = .int i ∧ Q (g i) H

section
variable {X : Cx} {a b c : Expr} {ta tb tc : TE} {pos : Pos}

theorem binT (ha : PE X a ta) (hb : PE X b tb) {pins : List (Addr × Obj)} {s : Shared} {σ : St} {H : Hp} {R : V → V → Hp → Prop} (I : Inv X pins σ H s)
    (h : ta σ H fun x H1 => tb σ H1 fun y H2 => R x y H2) {Q : Value → Shared → Prop} {f : Value → Value → Sem Value}
    (hf : ∀ v u s2 x y H2, Inv X pins σ H2 s2 → RelV x v → RelV y u → R x y H2 → wpAny (model X.prog X.w) X.A (f v u) Q X.xe s2) :
    wpAny (model X.prog X.w) X.A (eval a X.env) (fun v s₁ => wpAny (model X.prog X.w) X.A (eval b X.env) (fun u s₂ => wpAny (model X.prog X.w) X.A (f v u) Q X.xe s₂) X.xe s₁) X.xe s := by
  refine thn (ha pins s σ H _ I h) fun v s1 ⟨x, H1, I1, r1, q1⟩ => ?_
  refine thn (hb pins s1 σ H1 _ I1 q1) fun u s2 ⟨y, H2, I2, r2, q2⟩ => ?_
  exact hf v u s2 x y H2 I2 r1 r2 q2

theorem pe_op {op : Operator} {r : R2} (ho : OpR X (binaryOp op) r) (ha : PE X a ta) (hb : PE X b tb) : PE X (.BinOp a op b pos) (tOp r ta tb) := by
  intro pins s σ H Q I h
  exact wpAny_BinOp (binT ha hb I h fun v u s2 x y H2 I2 rx ry q => ho pins s2 σ H2 x y v u Q I2 rx ry q)
theorem pe_un {op : UnaryOp} {r : V → Hp → VK → Prop} (ho : UnR X (unaryOp op) r) (ha : PE X a ta) : PE X (.UnaryOp op a pos) (tUn r ta) := by
  intro pins s σ H Q I h
  exact UnaryOp_ (thn (ha pins s σ H _ I h) fun v s1 ⟨x, H1, I1, r1, q1⟩ => ho pins s1 σ H1 x v Q I1 r1 q1)
/-- a op= e at a name: the name's slot i -/
theorem augR {op : Operator} {r : R2} (ho : OpR X (inplaceOp op) r) {pins : List (Addr × Obj)} {s : Shared} {σ : St} {H : Hp} {x y : V} {v u : Value} {Q : VK} (I : Inv X pins σ H s)
    (rx : RelV x v) (ry : RelV y u) (q : r x y H Q) : wpAny (model X.prog X.w) X.A (inplaceOp op v u) (EP X pins σ Q) X.xe s := ho pins s σ H x y v u Q I rx ry q

/-! ### ints -/
theorem opI {f : Value → Value → Sem Value} {C : Int → Int → Prop} {g : Int → Int → Int}
    (rule : ∀ (i j : Int) (t u : Tok) (s : Shared) (Q : Value → Shared → Prop) (E : Value → Shared → Prop), C i j → Q (.int (g i j) s.toks) { s with toks := s.toks + 1 } → wpAny (model X.prog X.w) X.A (f (.int i t) (.int j u)) Q E s) :
    OpR X f (rI C fun i j => .int (g i j)) := by
  intro pins s σ H x y v u Q I rx ry h
  obtain ⟨i, j, rfl, rfl, hc, q⟩ := h
  obtain ⟨t, rfl⟩ := rx
  obtain ⟨t', rfl⟩ := ry
  exact rule i j t t' s _ _ hc ⟨.int (g i j), H, I.tok _, ⟨_, rfl⟩, q⟩
theorem opI0 {f : Value → Value → Sem Value} {g : Int → Int → Int}
    (rule : ∀ (i j : Int) (t u : Tok) (s : Shared) (Q : Value → Shared → Prop) (E : Value → Shared → Prop), Q (.int (g i j) s.toks) { s with toks := s.toks + 1 } → wpAny (model X.prog X.w) X.A (f (.int i t) (.int j u)) Q E s) :
    OpR X f (rI0 fun i j => .int (g i j)) := by
  intro pins s σ H x y v u Q I rx ry h
  obtain ⟨i, j, rfl, rfl, q⟩ := h
  obtain ⟨t, rfl⟩ := rx
  obtain ⟨t', rfl⟩ := ry
  exact rule i j t t' s _ _ ⟨.int (g i j), H, I.tok _, ⟨_, rfl⟩, q⟩
theorem opB0 {f : Value → Value → Sem Value} {g : Int → Int → Bool}
    (rule : ∀ (i j : Int) (t u : Tok) (s : Shared) (Q : Value → Shared → Prop) (E : Value → Shared → Prop), Q (.bool (g i j)) s → wpAny (model X.prog X.w) X.A (f (.int i t) (.int j u)) Q E s) :
    OpR X f (rI0 fun i j => .bl (g i j)) := by
  intro pins s σ H x y v u Q I rx ry h
  obtain ⟨i, j, rfl, rfl, q⟩ := h
  obtain ⟨t, rfl⟩ := rx
  obtain ⟨t', rfl⟩ := ry
  exact rule i j t t' s _ _ ⟨.bl (g i j), H, I, rfl, q⟩

def CDiv (i j : Int) : Prop := 0 < j ∧ j < 1073741824
def CDivN (i j : Int) : Prop := j ≠ 0 ∧ j.natAbs < 1073741824
def CPow (i j : Int) : Prop := 0 ≤ j ∧ j ≤ 1000000 ∧ i.natAbs < 2 ^ 64
def CMul (i j : Int) : Prop := (-(2 ^ 64) < i ∧ i < 2 ^ 64) ∨ (-(2 ^ 64) < j ∧ j < 2 ^ 64)
theorem CMul.ok {i j : Int} (h : CMul i j) : IntMulOk i j := by
  rcases h with ⟨h1, h2⟩ | ⟨h1, h2⟩
  · exact .of_left (intBits_le_64 h1 h2)
  · exact .of_right (intBits_le_64 h1 h2)
theorem two_pow_nn (k : Nat) : (0 : Int) ≤ 2 ^ k := by
  rw [two_pow_cast]
  exact Int.natCast_nonneg _

theorem op_add : OpR X (binaryOp .Add) (rI0 fun i j => .int (i + j)) := opI0 fun _ _ _ _ _ _ _ q => add_int q
theorem op_sub : OpR X (binaryOp .Sub) (rI0 fun i j => .int (i - j)) := opI0 fun _ _ _ _ _ _ _ q => sub_int q
theorem op_mul : OpR X (binaryOp .Mult) (rI CMul fun i j => .int (i * j)) := opI fun _ _ _ _ _ _ _ hc q => mul_int q hc.ok
/-- // by a positive divisor -/
theorem op_fdiv : OpR X (binaryOp .FloorDiv) (rI CDiv fun i j => .int (i / j)) := opI fun i j _ _ _ _ _ hc q => by
  have h1 : (0 : Int) < j := hc.1
  have h2 : j < 1073741824 := hc.2
  exact floordiv_int (by omega) (by rw [Int.fdiv_eq_ediv_of_nonneg i (by omega)]; exact q) (.inl (PyProof.noPylong_small (by omega)))
theorem op_fdivN : OpR X (binaryOp .FloorDiv) (rI CDivN fun i j => .int (i.fdiv j)) := opI fun _ _ _ _ _ _ _ hc q => floordiv_int hc.1 q (.inl (PyProof.noPylong_small hc.2))
/-- % by a positive divisor of any size -/
theorem op_mod : OpR X (binaryOp .Mod) (rI (fun _ j => 0 < j) fun i j => .int (i % j)) := opI fun i j _ _ _ _ _ hc q => by
  have h1 : (0 : Int) < j := hc
  exact mod_int' (by omega) (by rw [Int.fmod_eq_emod_of_nonneg i (by omega)]; exact q)
theorem op_modN : OpR X (binaryOp .Mod) (rI (fun _ j => j ≠ 0) fun i j => .int (i.fmod j)) := opI fun _ _ _ _ _ _ _ hc q => mod_int' hc q
theorem op_pow : OpR X (binaryOp .Pow) (rI CPow fun i j => .int (i ^ j.toNat)) := opI fun _ _ _ _ _ _ _ hc q => pow_int_small hc.1 hc.2.1 hc.2.2 q
theorem op_shl : OpR X (binaryOp .LShift) (rI CPow fun i j => .int (i * 2 ^ j.toNat)) := opI fun _ _ _ _ _ _ _ hc q => lshift_int_small hc.1 hc.2.1 hc.2.2 q
theorem op_shr : OpR X (binaryOp .RShift) (rI (fun _ j => 0 ≤ j) fun i j => .int (i / 2 ^ j.toNat)) := opI fun i j _ _ _ _ _ hc q =>
  rshift_int hc (by rw [Int.fdiv_eq_ediv_of_nonneg i (two_pow_nn _)]; exact q)
theorem op_and : OpR X (binaryOp .BitAnd) (rI0 fun i j => .int (Builtin.bitAnd i j)) := opI0 fun _ _ _ _ _ _ _ q => and_int q
theorem op_or : OpR X (binaryOp .BitOr) (rI0 fun i j => .int (Builtin.bitOr i j)) := opI0 fun _ _ _ _ _ _ _ q => or_int q
theorem op_xor : OpR X (binaryOp .BitXor) (rI0 fun i j => .int (Builtin.bitXor i j)) := opI0 fun _ _ _ _ _ _ _ q => xor_int q

theorem iop_add : OpR X (inplaceOp .Add) (rI0 fun i j => .int (i + j)) := opI0 fun _ _ _ _ _ _ _ q => iadd_int q
theorem iop_sub : OpR X (inplaceOp .Sub) (rI0 fun i j => .int (i - j)) := opI0 fun _ _ _ _ _ _ _ q => isub_int q
theorem iop_mul : OpR X (inplaceOp .Mult) (rI CMul fun i j => .int (i * j)) := opI fun _ _ _ _ _ _ _ hc q => imul_int q hc.ok
theorem iop_fdiv : OpR X (inplaceOp .FloorDiv) (rI CDiv fun i j => .int (i / j)) := opI fun i j _ _ _ _ _ hc q => by
  have h1 : (0 : Int) < j := hc.1
  have h2 : j < 1073741824 := hc.2
  exact ifloordiv_int (by omega) (by rw [Int.fdiv_eq_ediv_of_nonneg i (by omega)]; exact q) (.inl (PyProof.noPylong_small (by omega)))
theorem iop_mod : OpR X (inplaceOp .Mod) (rI (fun _ j => 0 < j) fun i j => .int (i % j)) := opI fun i j _ _ _ _ _ hc q => by
  have h1 : (0 : Int) < j := hc
  exact imod_int (by omega) (by rw [Int.fmod_eq_emod_of_nonneg i (by omega)]; exact q)
theorem iop_shl : OpR X (inplaceOp .LShift) (rI CPow fun i j => .int (i * 2 ^ j.toNat)) := opI fun _ _ _ _ _ _ _ hc q => ilshift_int_small hc.1 hc.2.1 hc.2.2 q
theorem iop_shr : OpR X (inplaceOp .RShift) (rI (fun _ j => 0 ≤ j) fun i j => .int (i / 2 ^ j.toNat)) := opI fun i j _ _ _ _ _ hc q =>
  irshift_int hc (by rw [Int.fdiv_eq_ediv_of_nonneg i (two_pow_nn _)]; exact q)
theorem iop_and : OpR X (inplaceOp .BitAnd) (rI0 fun i j => .int (Builtin.bitAnd i j)) := opI0 fun _ _ _ _ _ _ _ q => iand_int q
theorem iop_or : OpR X (inplaceOp .BitOr) (rI0 fun i j => .int (Builtin.bitOr i j)) := opI0 fun _ _ _ _ _ _ _ q => ior_int q
theorem iop_xor : OpR X (inplaceOp .BitXor) (rI0 fun i j => .int (Builtin.bitXor i j)) := opI0 fun _ _ _ _ _ _ _ q => ixor_int q

theorem unI {f : Value → Sem Value} {g : Int → Int}
    (rule : ∀ (i : Int) (t : Tok) (s : Shared) (Q : Value → Shared → Prop) (E : Value → Shared → Prop), Q (.int (g i) s.toks) { s with toks := s.toks + 1 } → wpAny (model X.prog X.w) X.A (f (.int i t)) Q E s) :
    UnR X f (rU fun i => .int (g i)) := by
  intro pins s σ H x v Q I rx h
  obtain ⟨i, rfl, q⟩ := h
  obtain ⟨t, rfl⟩ := rx
  exact rule i t s _ _ ⟨.int (g i), H, I.tok _, ⟨_, rfl⟩, q⟩
theorem un_neg : UnR X (unaryOp .USub) (rU fun i => .int (-i)) := unI fun _ _ _ _ _ q => neg_int q
theorem un_inv : UnR X (unaryOp .Invert) (rU fun i => .int (Builtin.bitNot i)) := unI fun _ _ _ _ _ q => invert_int q

/-! ### bools among ints: n += (a < b) -/
theorem op_add_ib : OpR X (binaryOp .Add) (fun x y H Q => ∃ i k, x = .int i ∧ y = .bl k ∧ Q (.int (i + b2i k)) H) := by
  intro pins s σ H x y v u Q I rx ry h
  obtain ⟨i, k, rfl, rfl, q⟩ := h
  obtain ⟨t, rfl⟩ := rx
  cases ry
  exact add_int_bool ⟨.int (i + b2i k), H, I.tok _, ⟨_, rfl⟩, q⟩
end

/-! ### comparisons -/
/-- the scalars that == tells apart as data does -/
def scal : V → V → Bool
  | .non, .non => true | .non, .int _ => true | .int _, .non => true | .non, .bl _ => true | .bl _, .non => true | .non, .str _ => true | .str _, .non => true
  | .int _, .int _ => true | .bl _, .bl _ => true | .str _, .str _ => true | .byt _, .byt _ => true
  | .int _, .str _ => true | .str _, .int _ => true | .bl _, .str _ => true | .str _, .bl _ => true
  | _, _ => false
def rEq : R2 := fun x y H Q => scal x y = true ∧ Q (.bl (decide (x = y))) H
def rNe : R2 := fun x y H Q => scal x y = true ∧ Q (.bl (!decide (x = y))) H

theorem dec_int {i j : Int} : decide (V.int i = V.int j) = (i == j) := by
  rw [Bool.eq_iff_iff]
  simp
theorem dec_bl {i j : Bool} : decide (V.bl i = V.bl j) = (i == j) := by
  rw [Bool.eq_iff_iff]
  simp
theorem dec_str {i j : Str} : decide (V.str i = V.str j) = (i == j) := by
  rw [Bool.eq_iff_iff]
  simp
theorem dec_byt {i j : Array UInt8} : decide (V.byt i = V.byt j) = (i.toList == j.toList) := by
  rw [Bool.eq_iff_iff]
  cases i
  cases j
  simp

section
variable {X : Cx} {a b c : Expr} {ta tb tc : TE} {pos : Pos}
theorem fin_bl {pins : List (Addr × Obj)} {σ : St} {H : Hp} {s : Shared} {Q : VK} {k k' : Bool} (I : Inv X pins σ H s) (q : Q (.bl k) H) (e : k = k') : EP X pins σ Q (.bool k') s := by
  subst e
  exact ⟨.bl k, H, I, rfl, q⟩
theorem op_eq : OpR X (compareOp .Eq) rEq := by
  intro pins s σ H x y v u Q I rx ry h
  obtain ⟨hs, q⟩ := h
  cases x with
  | non =>
    cases rx
    cases y with
    | non => cases ry; exact PySem.EqNone.eq_none_none (fin_bl I q (by simp))
    | bl j => cases ry; exact PySem.EqNone.eq_none_bool (fin_bl I q (by simp))
    | int j => obtain ⟨t', rfl⟩ := ry; exact PySem.EqNone.eq_none_int (fin_bl I q (by simp))
    | str j => obtain ⟨t', rfl⟩ := ry; exact PySem.EqNone.eq_none_str (fin_bl I q (by simp))
    | _ => exact absurd (show false = true from hs) Bool.false_ne_true
  | bl i =>
    cases rx
    cases y with
    | non => cases ry; exact PySem.EqNone.eq_bool_none (fin_bl I q (by simp))
    | bl j => cases ry; exact eq_bool (fin_bl I q dec_bl)
    | str j => obtain ⟨t', rfl⟩ := ry; exact PySem.EqMixed.eq_bool_str (fin_bl I q (by simp))
    | _ => exact absurd (show false = true from hs) Bool.false_ne_true
  | int i =>
    obtain ⟨t, rfl⟩ := rx
    cases y with
    | non => cases ry; exact PySem.EqNone.eq_int_none (fin_bl I q (by simp))
    | int j => obtain ⟨t', rfl⟩ := ry; exact eq_int (fin_bl I q dec_int)
    | str j => obtain ⟨t', rfl⟩ := ry; exact PySem.EqMixed.eq_int_str (fin_bl I q (by simp))
    | _ => exact absurd (show false = true from hs) Bool.false_ne_true
  | str i =>
    obtain ⟨t, rfl⟩ := rx
    cases y with
    | non => cases ry; exact PySem.EqNone.eq_str_none (fin_bl I q (by simp))
    | bl j => cases ry; exact PySem.EqMixed.eq_str_bool (fin_bl I q (by simp))
    | int j => obtain ⟨t', rfl⟩ := ry; exact PySem.EqMixed.eq_str_int (fin_bl I q (by simp))
    | str j => obtain ⟨t', rfl⟩ := ry; exact eq_str (fin_bl I q dec_str)
    | _ => exact absurd (show false = true from hs) Bool.false_ne_true
  | byt i =>
    obtain ⟨t, rfl⟩ := rx
    cases y with
    | byt j => obtain ⟨t', rfl⟩ := ry; exact PySem.W.eq_bytes (fin_bl I q dec_byt)
    | _ => exact absurd (show false = true from hs) Bool.false_ne_true
  | _ => cases y <;> exact absurd (show false = true from hs) Bool.false_ne_true
theorem op_ne : OpR X (compareOp .NotEq) rNe := by
  intro pins s σ H x y v u Q I rx ry h
  obtain ⟨hs, q⟩ := h
  cases x with
  | non =>
    cases rx
    cases y with
    | non => cases ry; exact PySem.EqNone.ne_none_none (fin_bl I q (by simp))
    | bl j => cases ry; exact PySem.EqNone.ne_none_bool (fin_bl I q (by simp))
    | int j => obtain ⟨t', rfl⟩ := ry; exact PySem.EqNone.ne_none_int (fin_bl I q (by simp))
    | str j => obtain ⟨t', rfl⟩ := ry; exact PySem.EqNone.ne_none_str (fin_bl I q (by simp))
    | _ => exact absurd (show false = true from hs) Bool.false_ne_true
  | bl i =>
    cases rx
    cases y with
    | non => cases ry; exact PySem.EqNone.ne_bool_none (fin_bl I q (by simp))
    | bl j => cases ry; exact ne_bool (fin_bl I q (congrArg not dec_bl))
    | str j => obtain ⟨t', rfl⟩ := ry; exact PySem.EqMixed.ne_bool_str (fin_bl I q (by simp))
    | _ => exact absurd (show false = true from hs) Bool.false_ne_true
  | int i =>
    obtain ⟨t, rfl⟩ := rx
    cases y with
    | non => cases ry; exact PySem.EqNone.ne_int_none (fin_bl I q (by simp))
    | int j => obtain ⟨t', rfl⟩ := ry; exact ne_int (fin_bl I q (congrArg not dec_int))
    | str j => obtain ⟨t', rfl⟩ := ry; exact PySem.EqMixed.ne_int_str (fin_bl I q (by simp))
    | _ => exact absurd (show false = true from hs) Bool.false_ne_true
  | str i =>
    obtain ⟨t, rfl⟩ := rx
    cases y with
    | non => cases ry; exact PySem.EqNone.ne_str_none (fin_bl I q (by simp))
    | bl j => cases ry; exact PySem.EqMixed.ne_str_bool (fin_bl I q (by simp))
    | int j => obtain ⟨t', rfl⟩ := ry; exact PySem.EqMixed.ne_str_int (fin_bl I q (by simp))
    | str j => obtain ⟨t', rfl⟩ := ry; exact ne_str (fin_bl I q (congrArg not dec_str))
    | _ => exact absurd (show false = true from hs) Bool.false_ne_true
  | byt i =>
    obtain ⟨t, rfl⟩ := rx
    cases y with
    | byt j => obtain ⟨t', rfl⟩ := ry; exact PySem.W.ne_bytes (fin_bl I q (congrArg not dec_byt))
    | _ => exact absurd (show false = true from hs) Bool.false_ne_true
  | _ => cases y <;> exact absurd (show false = true from hs) Bool.false_ne_true

theorem op_lt : OpR X (compareOp .Lt) (rI0 fun i j => .bl (decide (i < j))) := opB0 fun _ _ _ _ _ _ _ q => lt_int q
theorem op_le : OpR X (compareOp .LtE) (rI0 fun i j => .bl (decide (i ≤ j))) := opB0 fun _ _ _ _ _ _ _ q => le_int q
theorem op_gt : OpR X (compareOp .Gt) (rI0 fun i j => .bl (decide (j < i))) := opB0 fun _ _ _ _ _ _ _ q => gt_int q
theorem op_ge : OpR X (compareOp .GtE) (rI0 fun i j => .bl (decide (j ≤ i))) := opB0 fun _ _ _ _ _ _ _ q => ge_int q
theorem op_lt_str : OpR X (compareOp .Lt) (fun x y H Q => ∃ i j, x = .str i ∧ y = .str j ∧ Q (.bl (decide (i.cps.toList < j.cps.toList))) H) := by
  intro pins s σ H x y v u Q I rx ry h
  obtain ⟨i, j, rfl, rfl, q⟩ := h
  obtain ⟨t, rfl⟩ := rx
  obtain ⟨t', rfl⟩ := ry
  exact lt_str (fin_bl I q rfl)
/-- the one string within the other -/
theorem op_in_str : OpR X (compareOp .In) (fun x y H Q => ∃ i j, x = .str i ∧ y = .str j ∧ Q (.bl (!(Builtin.Str.occurrences j i 0 j.length 1).isEmpty)) H) := by
  intro pins s σ H x y v u Q I rx ry h
  obtain ⟨i, j, rfl, rfl, q⟩ := h
  obtain ⟨t, rfl⟩ := rx
  obtain ⟨t', rfl⟩ := ry
  exact in_str (fin_bl I q rfl)

/-- is None, is not None: the right side a value none -/
theorem op_isN : OpR X (compareOp .Is) (fun x y H Q => y = .non ∧ Q (.bl (decide (x = .non))) H) := by
  intro pins s σ H x y v u Q I rx ry h
  obtain ⟨rfl, q⟩ := h
  cases ry
  refine is_none_gen (fin_bl I q ?_)
  cases x <;> first
    | (cases rx; rfl)
    | (obtain ⟨t, rfl⟩ := rx; rfl)
theorem op_notN : OpR X (compareOp .IsNot) (fun x y H Q => y = .non ∧ Q (.bl (!decide (x = .non))) H) := by
  intro pins s σ H x y v u Q I rx ry h
  obtain ⟨rfl, q⟩ := h
  cases ry
  refine isnot_none_gen (fin_bl I q ?_)
  cases x <;> first
    | (cases rx; rfl)
    | (obtain ⟨t, rfl⟩ := rx; rfl)

theorem op_notin_str : OpR X (compareOp .NotIn) (fun x y H Q => ∃ i j, x = .str i ∧ y = .str j ∧ Q (.bl (!(!(Builtin.Str.occurrences j i 0 j.length 1).isEmpty))) H) := by
  intro pins s σ H x y v u Q I rx ry h
  obtain ⟨i, j, rfl, rfl, q⟩ := h
  obtain ⟨t, rfl⟩ := rx
  obtain ⟨t', rfl⟩ := ry
  exact notIn_str (fin_bl I q rfl)
/-- is, is not of two objects that are tracked lists or instances -/
def isObj : HO → Bool
  | .lst _ => true
  | .ins _ _ _ => true
  | _ => false
theorem obj_there {pins : List (Addr × Obj)} {s : Shared} {σ : St} {H : Hp} {a : Addr} {o : HO} (I : Inv X pins σ H s) (h : H a = some o) (p : isObj o = true) : ∃ ob, s.heap.get? a = some ob ∧ ob.cls ≠ .type "tuple" := by
  cases o with
  | lst xs =>
    obtain ⟨_, its, n, _, e⟩ : xs.length ≤ sizeLine ∧ ∃ (its : List Value) (n : Nat), Vals xs its ∧ s.heap.get? a = some { cls := .type "list", data := .seq its.toArray n } := I.hok a _ h
    exact ⟨_, e, (by show Value.type "list" ≠ .type "tuple"; decide +kernel)⟩
  | ins C dx fs =>
    have x := I.hok a _ h
    obtain ⟨_, _, _, e, _⟩ := x
    exact ⟨_, e, (by show Value.ref C ≠ .type "tuple"; exact fun z => by cases z)⟩
  | _ => exact absurd (show false = true from p) Bool.false_ne_true
theorem op_is_ref : OpR X (compareOp .Is) (fun x y H Q => ∃ a b oa ob, x = .ref a ∧ y = .ref b ∧ H a = some oa ∧ isObj oa = true ∧ H b = some ob ∧ isObj ob = true ∧ Q (.bl (decide (a = b))) H) := by
  intro pins s σ H x y v u Q I rx ry h
  obtain ⟨a, b, oa, ob, rfl, rfl, ha, pa, hb, pb, q⟩ := h
  cases rx
  cases ry
  obtain ⟨o1, e1, n1⟩ := obj_there I ha pa
  obtain ⟨o2, e2, _⟩ := obj_there I hb pb
  by_cases z : a = b
  · subst z
    exact wpAny_is_ref_self (fin_bl I q (by simp))
  · exact wpAny_is_ref_other z e1 e2 n1 (fin_bl I q (by simp [z]))
theorem op_isnot_ref : OpR X (compareOp .IsNot) (fun x y H Q => ∃ a b oa ob, x = .ref a ∧ y = .ref b ∧ H a = some oa ∧ isObj oa = true ∧ H b = some ob ∧ isObj ob = true ∧ Q (.bl (!decide (a = b))) H) := by
  intro pins s σ H x y v u Q I rx ry h
  obtain ⟨a, b, oa, ob, rfl, rfl, ha, pa, hb, pb, q⟩ := h
  cases rx
  cases ry
  obtain ⟨o1, e1, n1⟩ := obj_there I ha pa
  obtain ⟨o2, e2, _⟩ := obj_there I hb pb
  by_cases z : a = b
  · subst z
    exact wpAny_isNot_ref_self (fin_bl I q (by simp))
  · exact wpAny_isNot_ref_other z e1 e2 n1 (fin_bl I q (by simp [z]))

/-- two rules for one operation: by cases -/
theorem OpR.or {f : Value → Value → Sem Value} {r r' : R2} (h : OpR X f r) (h' : OpR X f r') : OpR X f (fun x y H Q => r x y H Q ∨ r' x y H Q) := by
  intro pins s σ H x y v u Q I rx ry q
  rcases q with q | q
  · exact h pins s σ H x y v u Q I rx ry q
  · exact h' pins s σ H x y v u Q I rx ry q

theorem nomark (b : Expr) {op : CmpOp} (h : op ≠ .In := by decide) (h2 : op ≠ .NotIn := by decide) : behindInMarks op b = false := by
  have e1 : (op == CmpOp.In) = false := by cases op <;> first | rfl | exact absurd rfl h
  have e2 : (op == CmpOp.NotIn) = false := by cases op <;> first | rfl | exact absurd rfl h2
  cases b <;> simp [behindInMarks, e1, e2]
/-- a comparison as a value; hm: nomark b, or (for in, not in) by with_unfolding_all rfl -/
theorem pe_cmpR {op : CmpOp} {r : R2} (ho : OpR X (compareOp op) r) (ha : PE X a ta) (hb : PE X b tb) (hm : behindInMarks op b = false) : PE X (.Compare a [op] [b] pos) (tOp r ta tb) := by
  intro pins s σ H Q I h
  exact wpAny_Compare1 (binT ha hb I h fun v u s2 x y H2 I2 rx ry q => ho pins s2 σ H2 x y v u Q I2 rx ry q) hm
/-- a reading of a value as a test -/
def tTest (t : TE) : TT := fun σ H Q => t σ H fun x H' => ∃ k, x = .bl k ∧ Q k H'
theorem pt_cmpR {op : CmpOp} {r : R2} (ho : OpR X (compareOp op) r) (ha : PE X a ta) (hb : PE X b tb) (hm : behindInMarks op b = false) : PT X (.Compare a [op] [b] pos) (tTest (tOp r ta tb)) := by
  intro pins s σ H Q I h
  refine wpAny_isTrue_Compare1 (thn (ha pins s σ H _ I h) fun v s1 ⟨x, H1, I1, r1, q1⟩ => thn (hb pins s1 σ H1 _ I1 q1) fun u s2 ⟨y, H2, I2, r2, q2⟩ =>
    thn (ho pins s2 σ H2 x y v u _ I2 r1 r2 q2) fun c s3 ⟨z, H3, I3, r3, k, e, q3⟩ => ?_) hm
  subst e
  cases r3
  exact wpAny_truthy_bool ⟨H3, I3, q3⟩
/-- a op1 b op2 c -/
def tChain (r r' : R2) (ta tb tc : TE) : TE := fun σ H Q => ta σ H fun x H1 => tb σ H1 fun y H2 => r x y H2 fun z H3 => ∃ k, z = .bl k ∧
  (if k = true then tc σ H3 fun w' H4 => r' y w' H4 Q else Q (.bl false) H3)
theorem pe_chain {op op' : CmpOp} {r r' : R2} (ho : OpR X (compareOp op) r) (ho' : OpR X (compareOp op') r') (ha : PE X a ta) (hb : PE X b tb) (hc : PE X c tc)
    (hm : lastMarks [op, op'] [b, c] = false := by with_unfolding_all rfl) : PE X (.Compare a [op, op'] [b, c] pos) (tChain r r' ta tb tc) := by
  intro pins s σ H Q I h
  refine Compare_chain (thn (ha pins s σ H _ I h) fun v s1 ⟨x, H1, I1, r1, q1⟩ => chain_link (thn (hb pins s1 σ H1 _ I1 q1) fun u s2 ⟨y, H2, I2, r2, q2⟩ =>
    thn (ho pins s2 σ H2 x y v u _ I2 r1 r2 q2) fun d s3 ⟨z, H3, I3, r3, k, e, q3⟩ => ?_)) hm
  subst e
  cases r3
  refine wpAny_truthy_bool ?_
  cases k with
  | false => exact ite_ff ⟨.bl false, H3, I3, rfl, q3⟩
  | true => exact ite_tt (chain_last (thn (hc pins s3 σ H3 _ I3 q3) fun w' s4 ⟨z', H4, I4, r4, q4⟩ => ho' pins s4 σ H4 y z' u w' Q I4 r2 r4 q4))
theorem pt_chain {op op' : CmpOp} {r r' : R2} (ho : OpR X (compareOp op) r) (ho' : OpR X (compareOp op') r') (ha : PE X a ta) (hb : PE X b tb) (hc : PE X c tc)
    (hm : lastMarks [op, op'] [b, c] = false := by with_unfolding_all rfl) : PT X (.Compare a [op, op'] [b, c] pos) (tTest (tChain r r' ta tb tc)) := by
  intro pins s σ H Q I h
  refine isTrue_chain (thn (ha pins s σ H _ I h) fun v s1 ⟨x, H1, I1, r1, q1⟩ => test_link (thn (hb pins s1 σ H1 _ I1 q1) fun u s2 ⟨y, H2, I2, r2, q2⟩ =>
    thn (ho pins s2 σ H2 x y v u _ I2 r1 r2 q2) fun d s3 ⟨z, H3, I3, r3, k, e, q3⟩ => ?_)) hm
  subst e
  cases r3
  refine wpAny_truthy_bool ?_
  cases k with
  | false =>
    obtain ⟨k', e', q'⟩ := q3
    cases e'
    exact ite_ff ⟨H3, I3, q'⟩
  | true =>
    refine ite_tt (test_last (thn (hc pins s3 σ H3 _ I3 q3) fun w' s4 ⟨z', H4, I4, r4, q4⟩ => thn (ho' pins s4 σ H4 y z' u w' _ I4 r2 r4 q4) fun d' s5 ⟨z2, H5, I5, r5, k2, e2, q5⟩ => ?_))
    subst e2
    cases r5
    exact wpAny_truthy_bool ⟨H5, I5, q5⟩

/-! ### truth -/
/-- a value's truth by the abstract heap -/
def TruV (K : PySem.W.Frag) (x : V) (H : Hp) (k : Bool) : Prop :=
  match x with
  | .non => k = false
  | .bl b => k = b
  | .int i => k = (i != 0)
  | .str y => y.length ≤ sizeLine ∧ k = ((y.length : Int) != 0)
  | .byt y => y.size ≤ sizeLine ∧ k = ((y.size : Int) != 0)
  | .ref p => (∃ xs, SqL K H p xs ∧ k = !xs.isEmpty) ∨ (∃ xs, SqT K H p xs ∧ k = !xs.isEmpty) ∨ ∃ kvs, H p = some (.dK kvs) ∧ k = !kvs.isEmpty
  | _ => False
theorem isEmpty_kv {κ : Type} {kvs : List (κ × V)} {vs : List (κ × Value)} (r : KV kvs vs) : (!vs.isEmpty) = !kvs.isEmpty := by
  cases r <;> rfl
theorem isEmpty_of {xs : List V} {its : List Value} (r : Vals xs its) : (!its.toArray.isEmpty) = !xs.isEmpty := by
  cases r <;> simp
theorem line63 : (sizeLine : Nat) < 2 ^ 63 := by rw [sizeLine_eq]; decide
theorem tru_ok : TruR X (fun x H Q => ∃ k, TruV X.K x H k ∧ Q k H) := by
  intro pins s σ H x v Q I rx h
  obtain ⟨k, e, q⟩ := h
  have hl := line63
  have hs : sizeLine = 16777216 := sizeLine_eq
  cases x with
  | non =>
    cases rx
    have e' : k = false := e
    subst e'
    exact truthy_none ⟨H, I, q⟩
  | bl b =>
    cases rx
    have e' : k = b := e
    subst e'
    exact wpAny_truthy_bool ⟨H, I, q⟩
  | int i =>
    obtain ⟨t, rfl⟩ := rx
    have e' : k = (i != 0) := e
    subst e'
    exact PySem.P.truthy_int ⟨H, I, q⟩
  | str y =>
    obtain ⟨t, rfl⟩ := rx
    obtain ⟨hy, e'⟩ : y.length ≤ sizeLine ∧ k = ((y.length : Int) != 0) := e
    subst e'
    exact PySem.P.truthy_str (by omega) ⟨H, I.tok _, q⟩
  | byt y =>
    obtain ⟨t, rfl⟩ := rx
    obtain ⟨hy, e'⟩ : y.size ≤ sizeLine ∧ k = ((y.size : Int) != 0) := e
    subst e'
    exact PySem.W.truthy_bytes (by omega) ⟨H, I.tok _, q⟩
  | ref p =>
    cases rx
    have e' : (∃ xs, SqL X.K H p xs ∧ k = !xs.isEmpty) ∨ (∃ xs, SqT X.K H p xs ∧ k = !xs.isEmpty) ∨ ∃ kvs, H p = some (.dK kvs) ∧ k = !kvs.isEmpty := e
    rcases e' with ⟨xs, hx, e'⟩ | ⟨xs, hx, e'⟩ | ⟨kvs, hx, e'⟩
    · subst e'
      obtain ⟨its, r, pl, hz⟩ := I.list hx
      have hlen := r.length
      exact wpAny_truthy_list pl.isList (by simp only [List.size_toArray]; omega) ⟨H, I.tok _, by rw [isEmpty_of r]; exact q⟩
    · subst e'
      obtain ⟨its, r, pl, hz⟩ := I.tuple hx
      have hlen := r.length
      exact truthy_tuple pl (by simp only [List.size_toArray]; omega) ⟨H, I.tok _, by rw [isEmpty_of r]; exact q⟩
    · subst e'
      obtain ⟨hz, hS, vs, r, m⟩ : kvs.length ≤ sizeLine ∧ (p == sysModules) = false ∧ ∃ vs, KV kvs vs ∧ s.heap.DictOf (mixKind X.prog X.w) p vs := I.hok p _ hx
      have hlen : kvs.length = vs.length := Paired.length r
      exact wpAny_truthy_dict hS m (by omega) ⟨H, I.tok _, by rw [isEmpty_kv r]; exact q⟩
  | _ => exact (show False from e).elim
/-- any expression whose test is its value's truth (a name, a call, a subscript, a field ..: he by fun _ => rfl) -/
theorem pt_truth (ha : PE X a ta) (he : ∀ whole, isTrue a X.env whole = (do let v ← whole; standAt a.pos; holding [v] (truthy v))) :
    PT X a (fun σ H Q => ta σ H fun x H' => ∃ k, TruV X.K x H' k ∧ Q k H') := by
  intro pins s σ H Q I h
  exact isTrue_plain (thn (ha pins s σ H _ I h) fun v s1 ⟨x, H1, I1, r1, q1⟩ => tru_ok pins s1 σ H1 x v Q I1 r1 q1) (he _)

/-! ### strs and bytes -/
theorem pe_byt {x : List UInt8} {k : Nat} : PE X (.Constant (.bytes x) k pos) (fun _ H Q => Q (.byt x.toArray) H) := fun _ _ _ H _ I h => PySem.W.Constant_bytes ⟨.byt x.toArray, H, I.tok _, ⟨_, rfl⟩, h⟩
theorem op_add_str : OpR X (binaryOp .Add) (fun x y H Q => ∃ i j, x = .str i ∧ y = .str j ∧ i.length + j.length ≤ sizeLine ∧ Q (.str (i ++ j)) H) := by
  intro pins s σ H x y v u Q I rx ry h
  obtain ⟨i, j, rfl, rfl, hz, q⟩ := h
  obtain ⟨t, rfl⟩ := rx
  obtain ⟨t', rfl⟩ := ry
  exact add_str (fun t' tk => ⟨.str (i ++ j), H, I.tok _, ⟨_, rfl⟩, q⟩) hz
theorem iop_add_str : OpR X (inplaceOp .Add) (fun x y H Q => ∃ i j, x = .str i ∧ y = .str j ∧ i.length + j.length ≤ sizeLine ∧ Q (.str (i ++ j)) H) := by
  intro pins s σ H x y v u Q I rx ry h
  obtain ⟨i, j, rfl, rfl, hz, q⟩ := h
  obtain ⟨t, rfl⟩ := rx
  obtain ⟨t', rfl⟩ := ry
  exact iadd_str (fun t' tk => ⟨.str (i ++ j), H, I.tok _, ⟨_, rfl⟩, q⟩) hz
theorem op_add_byt : OpR X (binaryOp .Add) (fun x y H Q => ∃ i j, x = .byt i ∧ y = .byt j ∧ i.size + j.size ≤ 16777216 ∧ Q (.byt (i ++ j)) H) := by
  intro pins s σ H x y v u Q I rx ry h
  obtain ⟨i, j, rfl, rfl, hz, q⟩ := h
  obtain ⟨t, rfl⟩ := rx
  obtain ⟨t', rfl⟩ := ry
  exact PySem.W.KBy.add_bytes hz (fun t' tk => ⟨.byt (i ++ j), H, I.tok _, ⟨_, rfl⟩, q⟩)

def PlainIxT (b : Expr) : Prop := ∀ o i, subscripted b false o i = operate [o, i] (getItem o i)
/-- s[i], 0 ≤ i < len -/
theorem pe_item_str (ha : PE X a ta) (hb : PE X b tb) (hs : PlainIxT b) :
    PE X (.Subscript a b pos) (tOp (fun x y H Q => ∃ z i c, x = .str z ∧ y = .int i ∧ 0 ≤ i ∧ i < 2 ^ 63 ∧ i < z.length ∧ z.cps[i.toNat]? = some c ∧ Q (.str ⟨#[c]⟩) H) ta tb) := by
  intro pins s σ H Q I h
  refine Subscript_ (binT ha hb I h fun v u s2 x y H2 I2 rx ry q => ?_)
  obtain ⟨z, i, c, rfl, rfl, h0, h63, h1, hc, q⟩ := q
  obtain ⟨t, rfl⟩ := rx
  obtain ⟨t', rfl⟩ := ry
  have e : seqIndex? i z.length = some i.toNat := PySem.StrLaws.seqIndex_nonneg h0 h1
  exact tail_any (typeIs_str s2 z t) slot_str_getitem.lookup (getItem_str (c := c) (by
    have e1 : decide (i < -(2 ^ 63 : Int)) = false := decide_eq_false (by omega)
    have e2 : decide (i ≥ 2 ^ 63) = false := decide_eq_false (by omega)
    rw [e1, e2] <;> rfl) (by rw [e]; exact hc) ⟨.str ⟨#[c]⟩, H2, I2.tok _, ⟨_, rfl⟩, q⟩) (hs _ _)
/-- b[i], 0 ≤ i < len -/
theorem pe_item_byt (ha : PE X a ta) (hb : PE X b tb) (hs : PlainIxT b) :
    PE X (.Subscript a b pos) (tOp (fun x y H Q => ∃ (z : List UInt8) (i : Int), x = .byt z.toArray ∧ y = .int i ∧ z.length ≤ sizeLine ∧ 0 ≤ i ∧ i < z.length ∧ Q (.int ((z.getD i.toNat 0).toNat : Nat)) H) ta tb) := by
  intro pins s σ H Q I h
  refine Subscript_ (binT ha hb I h fun v u s2 x y H2 I2 rx ry q => ?_)
  obtain ⟨z, i, rfl, rfl, hz, h0, h1, q⟩ := q
  obtain ⟨t, rfl⟩ := rx
  obtain ⟨t', rfl⟩ := ry
  have hl : sizeLine = 16777216 := sizeLine_eq
  exact tail_any (PySem.W.typeIs_bytes s2 z.toArray t) PySem.W.FB.slot_bytes_getitem.lookup (PySem.W.getItem_bytes (by omega) h0 h1 ⟨.int ((z.getD i.toNat 0).toNat : Nat), H2, I2.tok _, ⟨_, rfl⟩, q⟩) (hs _ _)

/-! ### scalar builtins, by CallR -/
theorem vals1 {x : V} {us : List Value} (r : Vals [x] us) : ∃ u, us = [u] ∧ RelV x u := by
  cases r with
  | cons r1 r2 => cases r2; exact ⟨_, rfl, r1⟩
theorem vals2 {x y : V} {us : List Value} (r : Vals [x, y] us) : ∃ u w', us = [u, w'] ∧ RelV x u ∧ RelV y w' := by
  cases r with
  | cons r1 r2 =>
    cases r2 with
    | cons r3 r4 => cases r4; exact ⟨_, _, rfl, r1, r3⟩
theorem call_abs : CallR X (.builtin "abs") (fun xs H Q => ∃ i, xs = [.int i] ∧ Q (.int (if i < 0 then -i else i)) H) := by
  intro pins s σ H xs us Q I r h
  obtain ⟨i, rfl, q⟩ := h
  obtain ⟨u, rfl, t, rfl⟩ := vals1 r
  exact call_abs_int fun u tk => ⟨.int (if i < 0 then -i else i), H, I.tok _, ⟨_, rfl⟩, q⟩
theorem call_max2 (hc : X.calm = true) : CallR X (.builtin "max") (fun xs H Q => ∃ i j, xs = [.int i, .int j] ∧ Q (.int (if j > i then j else i)) H) := by
  intro pins s σ H xs us Q I r h
  obtain ⟨i, j, rfl, q⟩ := h
  obtain ⟨u, w', rfl, ⟨t, rfl⟩, ⟨t', rfl⟩⟩ := vals2 r
  refine max_two_ints (I.ok.hd hc) fun h' tk k => ⟨_, H, I.kept k, ?_, q⟩
  by_cases hj : j > i
  · rw [if_pos hj, if_pos hj]; exact ⟨_, rfl⟩
  · rw [if_neg hj, if_neg hj]; exact ⟨_, rfl⟩
theorem call_min2 (hc : X.calm = true) : CallR X (.builtin "min") (fun xs H Q => ∃ i j, xs = [.int i, .int j] ∧ Q (.int (if j < i then j else i)) H) := by
  intro pins s σ H xs us Q I r h
  obtain ⟨i, j, rfl, q⟩ := h
  obtain ⟨u, w', rfl, ⟨t, rfl⟩, ⟨t', rfl⟩⟩ := vals2 r
  refine min_two_ints (I.ok.hd hc) fun h' tk k => ⟨_, H, I.kept k, ?_, q⟩
  by_cases hj : j < i
  · rw [if_pos hj, if_pos hj]; exact ⟨_, rfl⟩
  · rw [if_neg hj, if_neg hj]; exact ⟨_, rfl⟩
theorem call_int1 : CallR X (.type "int") (fun xs H Q => (∃ i, xs = [.int i] ∧ Q (.int i) H) ∨ ∃ k, xs = [.bl k] ∧ Q (.int (if k then 1 else 0)) H) := by
  intro pins s σ H xs us Q I r h
  rcases h with ⟨i, rfl, q⟩ | ⟨k, rfl, q⟩
  · obtain ⟨u, rfl, t, rfl⟩ := vals1 r
    exact call_int_int ⟨.int i, H, I, ⟨_, rfl⟩, q⟩
  · obtain ⟨u, rfl, r1⟩ := vals1 r
    cases r1
    exact call_int_bool ⟨.int (if k then 1 else 0), H, I.tok _, ⟨_, rfl⟩, q⟩
theorem call_bool1 : CallR X (.type "bool") (fun xs H Q => (∃ i, xs = [.int i] ∧ Q (.bl (i != 0)) H) ∨ ∃ k, xs = [.bl k] ∧ Q (.bl k) H) := by
  intro pins s σ H xs us Q I r h
  rcases h with ⟨i, rfl, q⟩ | ⟨k, rfl, q⟩
  · obtain ⟨u, rfl, t, rfl⟩ := vals1 r
    exact call_bool_int ⟨.bl (i != 0), H, I, rfl, q⟩
  · obtain ⟨u, rfl, r1⟩ := vals1 r
    cases r1
    exact call_bool_bool ⟨.bl k, H, I, rfl, q⟩
theorem call_str_int : CallR X (.type "str") (fun xs H Q => ∃ i, xs = [.int i] ∧ i.natAbs.log2 < 1920 ∧ Q (.str (toString i)) H) := by
  intro pins s σ H xs us Q I r h
  obtain ⟨i, rfl, hz, q⟩ := h
  obtain ⟨u, rfl, t, rfl⟩ := vals1 r
  exact PySem.P.str_of_int hz ⟨.str _, H, I.tok _, ⟨_, rfl⟩, q⟩
theorem call_ord : CallR X (.builtin "ord") (fun xs H Q => ∃ x, xs = [.str x] ∧ x.length = 1 ∧ Q (.int (x.cps.getD 0 0 : Nat)) H) := by
  intro pins s σ H xs us Q I r h
  obtain ⟨x, rfl, hz, q⟩ := h
  obtain ⟨u, rfl, t, rfl⟩ := vals1 r
  exact ord_of_one hz ⟨.int _, H, I.tok _, ⟨_, rfl⟩, q⟩
theorem call_chr : CallR X (.builtin "chr") (fun xs H Q => ∃ i, xs = [.int i] ∧ 0 ≤ i ∧ i ≤ 1114111 ∧ Q (.str ⟨#[i.toNat]⟩) H) := by
  intro pins s σ H xs us Q I r h
  obtain ⟨i, rfl, h0, h1, q⟩ := h
  obtain ⟨u, rfl, t, rfl⟩ := vals1 r
  exact chr_of_range h0 h1 ⟨.str _, H, I.tok _, ⟨_, rfl⟩, q⟩
/-- len of a str, a bytes, a list, a tuple -/
def LenV (K : PySem.W.Frag) (x : V) (H : Hp) (n : Nat) : Prop :=
  match x with
  | .str y => y.length ≤ sizeLine ∧ n = y.length
  | .byt y => y.size ≤ sizeLine ∧ n = y.size
  | .ref p => (∃ xs, SqL K H p xs ∧ n = xs.length) ∨ ∃ xs, SqT K H p xs ∧ n = xs.length
  | _ => False
theorem call_len : CallR X (.builtin "len") (fun xs H Q => ∃ x n, xs = [x] ∧ LenV X.K x H n ∧ Q (.int n) H) := by
  intro pins s σ H xs us Q I r h
  obtain ⟨x, n, rfl, e, q⟩ := h
  obtain ⟨u, rfl, rx⟩ := vals1 r
  have hl := line63
  have hs : sizeLine = 16777216 := sizeLine_eq
  cases x with
  | str y =>
    obtain ⟨t, rfl⟩ := rx
    obtain ⟨hy, e'⟩ : y.length ≤ sizeLine ∧ n = y.length := e
    subst e'
    exact len_str (by omega) ⟨.int _, H, I.tok _, ⟨_, rfl⟩, q⟩
  | byt y =>
    obtain ⟨t, rfl⟩ := rx
    obtain ⟨hy, e'⟩ : y.size ≤ sizeLine ∧ n = y.size := e
    subst e'
    exact PySem.W.len_bytes (by omega) ⟨.int _, H, I.tok _, ⟨_, rfl⟩, q⟩
  | ref p =>
    cases rx
    have e' : (∃ xs, SqL X.K H p xs ∧ n = xs.length) ∨ ∃ xs, SqT X.K H p xs ∧ n = xs.length := e
    rcases e' with ⟨xs, hx, e'⟩ | ⟨xs, hx, e'⟩
    · subst e'
      obtain ⟨its, r', pl, hz⟩ := I.list hx
      have hlen := r'.length
      exact Calls.call_len_list pl.isList (by simp only [List.size_toArray]; omega) ⟨.int xs.length, H, I.tok _, ⟨_, by simp only [List.size_toArray]; rw [hlen]⟩, q⟩
    · subst e'
      obtain ⟨its, r', pl, hz⟩ := I.tuple hx
      have hlen := r'.length
      exact len_tuple pl (by simp only [List.size_toArray]; omega) ⟨.int xs.length, H, I.tok _, ⟨_, by simp only [List.size_toArray]; rw [hlen]⟩, q⟩
  | _ => exact (show False from e).elim
/-- divmod: a new tuple -/
theorem call_divmod : CallR X (.builtin "divmod") (fun xs H Q => ∃ i j, xs = [.int i, .int j] ∧ CDiv i j ∧ ∀ p, H p = none → Q (.ref p) (upd H p (.tup [.int (i / j), .int (i % j)]))) := by
  intro pins s σ H xs us Q I r h
  obtain ⟨i, j, rfl, ⟨h1, h2⟩, q⟩ := h
  obtain ⟨u, w', rfl, ⟨t, rfl⟩, ⟨t', rfl⟩⟩ := vals2 r
  refine divmod_int (by omega) ?_ (.inl (PyProof.noPylong_small (by omega)))
  rw [Int.fdiv_eq_ediv_of_nonneg i (by omega), Int.fmod_eq_emod_of_nonneg i (by omega)]
  have hn : H s.heap.objs.size = none := I.hok.fresh (Nat.le_refl _)
  refine ⟨.ref s.heap.objs.size, _, ?_, rfl, q _ hn⟩
  refine I.laid (fun b o e => Heap.get?_push_of_some _ e) (Nat.le_refl _) ⟨by simp only [List.length_cons, List.length_nil]; rw [sizeLine_eq]; decide, [.int (i / j) s.toks, .int (i % j) (s.toks + 1)], .cons ⟨_, rfl⟩ (.cons ⟨_, rfl⟩ .nil), ?_⟩
  exact ⟨_, Heap.get?_push_size s.heap rfl, rfl, 0, rfl⟩
end
end L2

namespace L2
open PySem PySem.Spec PyProof.Rows

/-! ### an instance, its attributes a map -/
structure ObjM (h : Heap) (x dx C : Addr) (mA : Str → Option Value) : Prop where
  obj : h.get? x = some (PySem.W.instObj C dx)
  ns : h.Ns1 dx mA
  ne : dx ≠ x

theorem lookIn_ns {h : Heap} {dx : Addr} {mA : Str → Option Value} (n : h.Ns1 dx mA) : ∃ od, h.get? dx = some od ∧ ∀ name, PySem.W.lookIn name od = some (mA name) := by
  obtain ⟨o, es, ep, ho, hd, hk, _, hm⟩ := n
  refine ⟨o, ho, fun name => ?_⟩
  have e := hm name
  unfold nsFind findBy at e
  rw [← Array.find?_toList] at e
  unfold PySem.W.lookIn
  rw [hd]
  dsimp only
  split
  · rename_i y q
    rw [q] at e
    exact congrArg some e
  · rename_i q
    rw [q] at e
    have a : es.toList.any (·.refKey) = false := by
      rw [List.any_eq_false]
      intro y hy
      obtain ⟨z, t, hkey⟩ := hk y (Array.mem_toList_iff.mp hy)
      simp [DictEntry.refKey, hkey]
    have a' : ¬ es.toList.any (·.refKey) = true := by rw [a]; exact Bool.false_ne_true
    rw [if_neg a']
    exact congrArg some e

theorem ObjM.look {h : Heap} {x dx C : Addr} {mA : Str → Option Value} (I : ObjM h x dx C mA) : ∃ od, PySem.W.InstAt h x (PySem.W.instObj C dx) C (some od) ∧ ∀ name, PySem.W.lookIn name od = some (mA name) :=
  let ⟨od, ho, hl⟩ := lookIn_ns I.ns
  ⟨od, ⟨I.obj, rfl, rfl, ho⟩, hl⟩

section
variable {prog : Program} {w : World} {A : Around} {E : Value → Shared → Prop} {s : Shared} {K : PySem.W.Frag} {x dx C f : Addr} {mA : Str → Option Value} {name : Str} {v : Value}

theorem get_map {expr : Bool} {Q : Value → Shared → Prop} (X : K.In s.heap) (I : ObjM s.heap x dx C mA) (hg : PySem.W.plainGet K C name = true) (hh : PySem.W.hasDictIn K C = true)
    (ha : PySem.W.findIn K (.ref C) name = some none) (hv : mA name = some v) (hv' : PySem.W.handedIn v = true) (h : Q v { s with toks := s.toks + 1 }) :
    wpAny (model prog w) A (getAttr (.ref x) name expr) Q E s := by
  obtain ⟨od, J, hl⟩ := I.look
  exact PySem.W.get_value X J (PySem.W.plainGet_of hg).1 (PySem.W.findObj_own hh ha rfl (by rw [hl, hv])) hv' h

theorem get_const {expr : Bool} {a : Value} {Q : Value → Shared → Prop} (X : K.In s.heap) (I : ObjM s.heap x dx C mA) (hg : PySem.W.plainGet K C name = true) (hh : PySem.W.hasDictIn K C = true)
    (ha : PySem.W.findIn K (.ref C) name = some (some a)) (hn : PySem.W.specialIn K a "__get__" = some none) (hc : PySem.W.copiedNames.contains name = false) (hv : mA name = none) (hv' : PySem.W.handedIn a = true)
    (h : Q a { s with toks := s.toks + 1 }) : wpAny (model prog w) A (getAttr (.ref x) name expr) Q E s := by
  obtain ⟨od, J, hl⟩ := I.look
  exact PySem.W.get_value X J (PySem.W.plainGet_of hg).1 (PySem.W.findObj_cls hh ha hn hv' hc (by rw [hl, hv])) hv' h

theorem get_meth {pl : Sem Bool} {Q : Value × List Value → Shared → Prop} (X : K.In s.heap) (I : ObjM s.heap x dx C mA) (hg : PySem.W.plainGet K C name = true)
    (hf : PySem.W.findIn K (.ref C) name = some (some (.ref f))) (ht : PySem.W.isFn K (.ref f) = true) (hv : mA name = none) (h : Q (.ref f, [.ref x]) s) :
    wpAny (model prog w) A (getMethod (.ref x) name pl) Q E s := by
  obtain ⟨od, J, hl⟩ := I.look
  exact PySem.W.method_fn X J (PySem.W.plainGet_of hg).1 (PySem.W.plainGet_of hg).2 hf (beq_iff_eq.mp ht) (by show (PySem.W.lookIn name od).map (·.isSome) = some false; rw [hl, hv]; rfl) h

theorem set_map {ns : List Str} {Q : Unit → Shared → Prop} (X : K.In s.heap) (I : ObjM s.heap x dx C mA)
    (hs : PySem.W.findIn K (.ref C) "__setattr__" = some (some (.builtin "object.__setattr__"))) (hp : PySem.W.plainOver K C = true) (ht : PySem.W.takerIn K C name = some none) (hh : PySem.W.hasDictIn K C = true)
    (hw : PySem.Within mA ns) (hsz : ns.length ≤ sizeLine)
    (h : ∀ h', ObjM h' x dx C (fun y => if y = name then some v else mA y) → Heap.SameBut dx s.heap h' → Q () { s with heap := h', toks := s.toks + 2 }) :
    wpAny (model prog w) A (setAttr (.ref x) name v) Q E s := by
  obtain ⟨od, J, hl⟩ := I.look
  refine PySem.W.set_plain X J hs (PySem.W.osa_open (s := { s with toks := s.toks + 1 }) (r := none) X J hp ht fun b => ?_)
  obtain ⟨cd, hc, hd'⟩ := PySem.W.any_some hh
  have hx : s.heap.get? x = some ⟨.ref C, some dx, .plain, #[]⟩ := I.obj
  refine wpAny_bind (wpAny_pure (wpAny_bind (wpAny_bind (wpAny_loadPart hx (wpAny_bind (PySem.W.Looks.here (s := { s with toks := s.toks + 1 }) (PySem.W.looks_clsIn X hc) ?_))))))
  rw [hd']
  refine wpAny_pure (a := some dx) (wpAny_bind (wpAny_pure (wpAny_bind ?_)))
  refine wpAny_nsSet1 (s := { s with toks := s.toks + 1 }) I.ns fun h' hn2 hs2 => ?_
  obtain ⟨oD, esD, epD, hoD, hdD, hcD⟩ := hn2.count (PySem.Within.cons name v hw)
  refine wpAny_bind (wpAny_lookBehind hoD (by rw [hdD]; exact pastItsLine_dict (Nat.le_trans hcD (by rw [List.length_cons]; omega))) ?_)
  exact wpAny_pure (h _ ⟨(hs2.2 _ (Ne.symm I.ne)).trans I.obj, hn2, I.ne⟩ hs2)

/-- C(..): the dict at the heap's end, the instance behind it; then its __init__ -/
theorem make_map {R : Result → Shared → Prop} {vs : List Value} {kw : List (Str × Value)} (X : K.In s.heap) (hm : PySem.W.makesIn K C = true)
    (hi : PySem.W.findIn K (.ref C) "__init__" = some (some (.ref f))) (hf : PySem.W.typeIn K (.ref f) = some (.type "function"))
    (h : codeAny (model prog w) (A.under (.builtin "type.__call__" ⟨.ref C :: vs, kw⟩)) (.call (.ref f) ⟨.ref (s.heap.objs.size + 1) :: vs, kw⟩) (PySem.W.InitBack (s.heap.objs.size + 1) R)
      { s with heap := (s.heap.push PySem.W.emptyDict).push (PySem.W.instObj C s.heap.objs.size) }) :
    codeAny (model prog w) A (.call (.ref C) ⟨vs, kw⟩) R s := by
  obtain ⟨hh, g, d, t, os⟩ := s
  exact PySem.W.make_core (PySem.W.makes_of X hm) (PySem.W.looks_findIn X hi) (fun self => PySem.W.bind_fn X self hf) (.inl rfl) h
/-- C() where there is no __init__ but object's -/
theorem make_map0 {R : Result → Shared → Prop} (X : K.In s.heap) (hm : PySem.W.makesIn K C = true)
    (hi : PySem.W.findIn K (.ref C) "__init__" = some (some (.builtin "object.__init__")))
    (hb : ∀ self, PySem.W.Looks (model prog w) s.heap (bindSpecial (.builtin "object.__init__") self) (.builtin "object.__init__", [self]))
    (h : codeAny (model prog w) (A.under (.builtin "type.__call__" ⟨[.ref C], []⟩)) (.call (.builtin "object.__init__") ⟨[.ref (s.heap.objs.size + 1)], []⟩) (PySem.W.InitBack (s.heap.objs.size + 1) R)
      { s with heap := (s.heap.push PySem.W.emptyDict).push (PySem.W.instObj C s.heap.objs.size) }) :
    codeAny (model prog w) A (.call (.ref C) ⟨[], []⟩) R s := by
  obtain ⟨hh, g, d, t, os⟩ := s
  exact PySem.W.make_core (PySem.W.makes_of X hm) (PySem.W.looks_findIn X hi) hb (.inr ⟨rfl, rfl⟩) h
end

/-! ### the attributes as a list of pairs -/
def putF (f : Str) (v : V) : List (Str × V) → List (Str × V)
  | [] => [(f, v)]
  | (g, x) :: r => if g = f then (g, v) :: r else (g, x) :: putF f v r
theorem lookup_putF (f g : Str) (v : V) : ∀ fs : List (Str × V), (putF f v fs).lookup g = if g = f then some v else fs.lookup g
  | [] => by
    show List.lookup g [(f, v)] = _
    by_cases h : g = f
    · have hb : (g == f) = true := beq_iff_eq.mpr h
      simp only [List.lookup, hb, if_pos h]
    · have hb : (g == f) = false := beq_eq_false_iff_ne.mpr h
      simp only [List.lookup, hb, if_neg h]
  | (k, x) :: r => by
    have ih := lookup_putF f g v r
    rw [show putF f v ((k, x) :: r) = (if k = f then (k, v) :: r else (k, x) :: putF f v r) from rfl]
    by_cases hk : k = f
    · rw [if_pos hk]
      by_cases h : g = k
      · have hb : (g == k) = true := beq_iff_eq.mpr h
        simp only [List.lookup, hb, if_pos (h.trans hk)]
      · have hb : (g == k) = false := beq_eq_false_iff_ne.mpr h
        simp only [List.lookup, hb, if_neg (fun e : g = f => h (e.trans hk.symm))]
    · rw [if_neg hk]
      by_cases h : g = k
      · have hb : (g == k) = true := beq_iff_eq.mpr h
        simp only [List.lookup, hb, if_neg (fun e : g = f => hk (h.symm.trans e))]
      · have hb : (g == k) = false := beq_eq_false_iff_ne.mpr h
        simp only [List.lookup, hb]
        exact ih
theorem keys_putF (f : Str) (v : V) : ∀ fs : List (Str × V), f ∈ (putF f v fs).map (·.1) ∧ ∀ g, g ∈ fs.map (·.1) → g ∈ (putF f v fs).map (·.1)
  | [] => ⟨by simp [putF], fun g h => by simp at h⟩
  | (k, x) :: r => by
    obtain ⟨i1, i2⟩ := keys_putF f v r
    rw [show putF f v ((k, x) :: r) = (if k = f then (k, v) :: r else (k, x) :: putF f v r) from rfl]
    by_cases hk : k = f
    · rw [if_pos hk]
      subst hk
      exact ⟨by simp, fun g h => by simpa using h⟩
    · rw [if_neg hk]
      refine ⟨?_, fun g h => ?_⟩
      · rw [List.map_cons]
        exact List.mem_cons_of_mem _ i1
      · rw [List.map_cons] at h ⊢
        rcases List.mem_cons.mp h with e | e
        · exact List.mem_cons.mpr (.inl e)
        · exact List.mem_cons_of_mem _ (i2 g e)
theorem length_putF (f : Str) (v : V) : ∀ fs : List (Str × V), (putF f v fs).length ≤ fs.length + 1
  | [] => by simp [putF]
  | (k, x) :: r => by
    have ih := length_putF f v r
    rw [show putF f v ((k, x) :: r) = (if k = f then (k, v) :: r else (k, x) :: putF f v r) from rfl]
    by_cases hk : k = f
    · rw [if_pos hk, List.length_cons, List.length_cons]; omega
    · rw [if_neg hk, List.length_cons, List.length_cons]; omega

theorem RelO.some_of {v : V} {o : Option Value} (r : RelO (some v) o) : ∃ u, o = some u ∧ RelV v u := by
  cases o with
  | none => exact (show False from r).elim
  | some u => exact ⟨u, rfl, r⟩
theorem RelO.none_of {o : Option Value} (r : RelO none o) : o = none := by
  cases o with
  | none => rfl
  | some u => exact (show False from r).elim
theorem handed_of {v : V} {u : Value} (r : RelV v u) : PySem.W.handedIn u = true := by
  cases v with
  | non => cases (show u = Value.none from r); rfl
  | bl b => cases (show u = Value.bool b from r); rfl
  | int i => obtain ⟨t, e⟩ := (show ∃ t, u = Value.int i t from r); cases e; rfl
  | str x => obtain ⟨t, e⟩ := (show ∃ t, u = Value.str x t from r); cases e; rfl
  | byt b => obtain ⟨t, e⟩ := (show ∃ t, u = Value.bytes b t from r); cases e; rfl
  | flt b => obtain ⟨t, e⟩ := (show ∃ t, u = Value.float b t from r); cases e; rfl
  | ref a => cases (show u = Value.ref a from r); rfl
  | ty n => cases (show u = Value.type n from r); rfl

section
variable {P : Program} {w : World} {H H' : Hp} {h h' : Heap} {a C dx : Addr} {fs fs' : List (Str × V)}
theorem ins_get (hok : HOk P w H h) (e : H a = some (.ins C dx fs)) : ∃ mA, ObjM h a dx C mA ∧ (∀ f, RelO (fs.lookup f) (mA f)) ∧ PySem.Within mA (fs.map (·.1)) ∧ fs.length ≤ 1000 ∧ H dx = some (.own a) := by
  obtain ⟨d, z, ne, ob, mA, n, r, q⟩ := (show ObjOk P w H h a (.ins C dx fs) from hok a _ e)
  exact ⟨mA, ⟨ob, n, ne⟩, r, q, z, d⟩
end

/-! ### what of the text a class must have -/
structure Cls (K : PySem.W.Frag) (C : Addr) : Prop where
  pg : PySem.W.plainGet K C Str.empty = true
  hd : PySem.W.hasDictIn K C = true
  po : PySem.W.plainOver K C = true
  sa : PySem.W.findIn K (.ref C) "__setattr__" = some (some (.builtin "object.__setattr__"))
theorem Cls.get {K : PySem.W.Frag} {C : Addr} (c : Cls K C) (f : Str) : PySem.W.plainGet K C f = true := c.pg
/-- no class of it has the name -/
def NoAttr (K : PySem.W.Frag) (C : Addr) (f : Str) : Prop := PySem.W.findIn K (.ref C) f = some none
theorem NoAttr.taker {K : PySem.W.Frag} {C : Addr} {f : Str} (n : NoAttr K C f) : PySem.W.takerIn K C f = some none := by
  unfold PySem.W.takerIn
  rw [show PySem.W.findIn K (.ref C) f = some none from n]
  rfl
/-- a constant of the class -/
structure Con (K : PySem.W.Frag) (C : Addr) (f : Str) (v : V) (u : Value) : Prop where
  at_ : PySem.W.findIn K (.ref C) f = some (some u)
  rel : RelV v u
  get : PySem.W.specialIn K u "__get__" = some none
  cp : PySem.W.copiedNames.contains f = false
/-- a method: a plain def of the class or of one above it -/
structure Meth (K : PySem.W.Frag) (C : Addr) (m : Str) (f : Addr) : Prop where
  at_ : PySem.W.findIn K (.ref C) m = some (some (.ref f))
  fn : PySem.W.isFn K (.ref f) = true
  kp : PySem.W.keepIn K (.ref f) = true

section
variable {X : Cx} {pins : List (Addr × Obj)} {σ : St} {H : Hp} {s : Shared} {a C dx : Addr} {fs : List (Str × V)} {f : Str} {v : V} {A : Around} {E : Value → Shared → Prop}

theorem getattr_ok {b : Bool} {Q : Value → Shared → Prop} (I : Inv X pins σ H s) (e : H a = some (.ins C dx fs)) (c : Cls X.K C) (n : NoAttr X.K C f) (l : fs.lookup f = some v)
    (h : ∀ u s', Inv X pins σ H s' → RelV v u → Q u s') : wpAny (model X.prog X.w) A (getAttr (.ref a) f b) Q E s := by
  obtain ⟨mA, O, r, _, _, _⟩ := ins_get I.hok e
  obtain ⟨u, hu, ru⟩ := RelO.some_of (v := v) (o := mA f) (by rw [← l]; exact r f)
  exact get_map I.kIn O (c.get f) c.hd n hu (handed_of ru) (h u _ (I.tok _) ru)

theorem getcon_ok {b : Bool} {u : Value} {Q : Value → Shared → Prop} (I : Inv X pins σ H s) (e : H a = some (.ins C dx fs)) (c : Cls X.K C) (k : Con X.K C f v u) (l : fs.lookup f = none)
    (h : ∀ s', Inv X pins σ H s' → Q u s') : wpAny (model X.prog X.w) A (getAttr (.ref a) f b) Q E s := by
  obtain ⟨mA, O, r, _, _, _⟩ := ins_get I.hok e
  have hn : mA f = none := RelO.none_of (by rw [← l]; exact r f)
  exact get_const I.kIn O (c.get f) c.hd k.at_ k.get k.cp hn (handed_of k.rel) (h _ (I.tok _))

theorem getmeth_ok {m : Str} {g : Addr} {pl : Sem Bool} {Q : Value × List Value → Shared → Prop} (I : Inv X pins σ H s) (e : H a = some (.ins C dx fs)) (c : Cls X.K C) (k : Meth X.K C m g) (l : fs.lookup m = none)
    (h : Q (.ref g, [.ref a]) s) : wpAny (model X.prog X.w) A (getMethod (.ref a) m pl) Q E s := by
  obtain ⟨mA, O, r, _, _, _⟩ := ins_get I.hok e
  have hn : mA m = none := RelO.none_of (by rw [← l]; exact r m)
  exact get_meth I.kIn O (c.get m) k.at_ k.fn hn h

theorem setattr_ok {y : V} {u : Value} {Q : Unit → Shared → Prop} (I : Inv X pins σ H s) (e : H a = some (.ins C dx fs)) (c : Cls X.K C) (n : NoAttr X.K C f) (hl : fs.length < 1000) (ry : RelV y u)
    (h : ∀ s', Inv X pins σ (upd H a (.ins C dx (putF f y fs))) s' → Q () s') : wpAny (model X.prog X.w) A (setAttr (.ref a) f u) Q E s := by
  obtain ⟨mA, O, r, wi, _, ho⟩ := ins_get I.hok e
  have hz : (fs.map (·.1)).length ≤ sizeLine := by rw [List.length_map, sizeLine_eq]; omega
  refine set_map I.kIn O c.sa c.po n.taker c.hd wi hz fun h' O' sb => h _ ?_
  have hd : ∃ o, h'.get? dx = some o := let ⟨o, _, _, e', _⟩ := O'.ns; ⟨o, e'⟩
  refine I.write (x := a) (e := dx) (by rw [e]; exact True.intro) (.inr ho) (fun b q hb z => (sb.2 b hb).trans z) hd ?_
  refine ⟨by rw [upd_ne O.ne]; exact ho, ?_, O.ne, O'.obj, _, O'.ns, fun g => ?_, fun g hg => ?_⟩
  · have := length_putF f y fs; omega
  · show RelO ((putF f y fs).lookup g) (if g = f then some u else mA g)
    rw [lookup_putF]
    by_cases q : g = f
    · rw [if_pos q, if_pos q]; exact ry
    · rw [if_neg q, if_neg q]; exact r g
  · by_cases q : g = f
    · rw [q]; exact (keys_putF f y fs).1
    · refine (keys_putF f y fs).2 g (wi g fun z => hg ?_)
      show (if g = f then some u else mA g) = none
      rw [if_neg q]; exact z

/-- a new instance, tracked, without attributes -/
theorem Inv.made (I : Inv X pins σ H s) : Inv X pins σ (upd (upd H s.heap.objs.size (.own (s.heap.objs.size + 1))) (s.heap.objs.size + 1) (.ins C s.heap.objs.size []))
    { s with heap := (s.heap.push PySem.W.emptyDict).push (PySem.W.instObj C s.heap.objs.size) } := by
  have e1 : (s.heap.push PySem.W.emptyDict).get? s.heap.objs.size = some PySem.W.emptyDict := Heap.get?_push_size s.heap rfl
  have e2 : ((s.heap.push PySem.W.emptyDict).push (PySem.W.instObj C s.heap.objs.size)).get? (s.heap.objs.size + 1) = some (PySem.W.instObj C s.heap.objs.size) := by
    have := Heap.get?_push_size (s.heap.push PySem.W.emptyDict) (o := PySem.W.instObj C s.heap.objs.size) rfl
    rwa [Heap.size_push] at this
  have e3 : (s.heap.push PySem.W.emptyDict).Ns s.heap.objs.size (fun _ => none) := ⟨PySem.W.emptyDict, #[], _, e1, rfl, (fun e he => absurd he (by simp)), fun _ => rfl⟩
  have I1 := I.laid (a := s.heap.objs.size) (o := .own (s.heap.objs.size + 1)) (h' := s.heap.push PySem.W.emptyDict) (t' := s.toks) (fun b u q => Heap.get?_push_of_some _ q) (Nat.le_refl _) ⟨_, e1⟩
  refine I1.laid (a := s.heap.objs.size + 1) (o := .ins C s.heap.objs.size []) (t' := s.toks) (fun b u q => Heap.get?_push_of_some _ q) (Nat.le_of_eq (Heap.size_push _ _)) ?_
  have ne : s.heap.objs.size ≠ s.heap.objs.size + 1 := Nat.ne_of_lt (Nat.lt_succ_self _)
  refine ⟨by rw [upd_ne ne, upd_same], Nat.zero_le _, ne, e2, fun _ => none, (Heap.Ns1.of_empty e3).at fun o q => Heap.get?_push_of_some _ q, fun _ => True.intro, fun y hy => absurd rfl hy⟩

/-- e.f where nothing but the object is asked: through attributeBase (super) and the last hold -/
theorem attr_of {prog : Program} {w : World} {env : Env} {e : Expr} {f : Str} {pos : Pos} {s : Shared} {Q : Value → Shared → Prop} (hb : attributeBase e f env (eval e env) = eval e env)
    (h : wpAny (model prog w) A (eval e env) (fun o s₁ => wpAny (model prog w) A (getAttr o f true) Q E s₁) E s) : wpAny (model prog w) A (eval (.Attribute e f pos) env) Q E s :=
  Attribute_any_ h (by rw [arm_eval_Attribute, hb])
end

/-! ### readings and rules -/
/-- e.f, an attribute of the instance -/
def tFld (K : PySem.W.Frag) (ta : TE) (f : Str) : TE := fun σ H Q => ta σ H fun x H1 => ∃ a C dx fs v, x = .ref a ∧ H1 a = some (.ins C dx fs) ∧ Cls K C ∧ NoAttr K C f ∧ fs.lookup f = some v ∧ Q v H1
/-- e.f, a constant of the class -/
def tCon (K : PySem.W.Frag) (ta : TE) (f : Str) : TE := fun σ H Q => ta σ H fun x H1 => ∃ a C dx fs v u, x = .ref a ∧ H1 a = some (.ins C dx fs) ∧ Cls K C ∧ Con K C f v u ∧ fs.lookup f = none ∧ Q v H1
/-- e.f = value -/
def sFld (K : PySem.W.Frag) (ta tv : TE) (f : Str) : TS := fun D σ H => tv σ H fun y H1 => ta σ H1 fun x H2 => ∃ a C dx fs, x = .ref a ∧ H2 a = some (.ins C dx fs) ∧ Cls K C ∧ NoAttr K C f ∧ fs.length < 1000 ∧
  D.nx σ (upd H2 a (.ins C dx (putF f y fs)))
/-- an augmented operator on two values -/
def InOp (X : Cx) (op : Operator) (rd : V → V → Hp → VK → Prop) : Prop :=
  ∀ (pins : List (Addr × Obj)) (s : Shared) (σ : St) (H : Hp) (x y : V) (u v : Value) (Q : VK), Inv X pins σ H s → RelV x u → RelV y v → rd x y H Q → wpAny (model X.prog X.w) X.A (inplaceOp op u v) (EP X pins σ Q) X.xe s
/-- e.f op= value -/
def sFldAug (K : PySem.W.Frag) (ta tv : TE) (rd : V → V → Hp → VK → Prop) (f : Str) : TS := fun D σ H => ta σ H fun x H1 => ∃ a C dx fs v, x = .ref a ∧ H1 a = some (.ins C dx fs) ∧ Cls K C ∧ NoAttr K C f ∧ fs.lookup f = some v ∧
  tv σ H1 fun y H2 => rd v y H2 fun z H3 => ∃ dx' fs', H3 a = some (.ins C dx' fs') ∧ fs'.length < 1000 ∧ D.nx σ (upd H3 a (.ins C dx' (putF f z fs')))

section
variable {X : Cx} {o e value : Expr} {f : Str} {pos pos' tpos : Pos} {ta tv : TE}
theorem pe_fld (he : PE X e ta) (hb : attributeBase e f X.env (eval e X.env) = eval e X.env) : PE X (.Attribute e f pos) (tFld X.K ta f) := by
  intro pins s σ H Q I h
  refine attr_of hb (thn (he pins s σ H _ I h) fun u s1 ⟨x, H1, I1, rx, a, C, dx, fs, v, ex, ea, c, n, l, q⟩ => ?_)
  subst ex
  obtain rfl : u = Value.ref a := rx
  exact getattr_ok I1 ea c n l fun u' s2 I2 ru => ⟨v, H1, I2, ru, q⟩
theorem pe_con (he : PE X e ta) (hb : attributeBase e f X.env (eval e X.env) = eval e X.env) : PE X (.Attribute e f pos) (tCon X.K ta f) := by
  intro pins s σ H Q I h
  refine attr_of hb (thn (he pins s σ H _ I h) fun u s1 ⟨x, H1, I1, rx, a, C, dx, fs, v, u0, ex, ea, c, k, l, q⟩ => ?_)
  subst ex
  obtain rfl : u = Value.ref a := rx
  exact getcon_ok I1 ea c k l fun s2 I2 => ⟨v, H1, I2, k.rel, q⟩
theorem ps_fld (ha : PE X o ta) (hv : PE X value tv) (hs : swapsWith value (some (.Attribute o f pos')) pos.line X.env = pure false) : PS X (.Assign [.Attribute o f pos'] value pos) (sFld X.K ta tv f) := by
  intro pins s σ H D I h
  refine plainObj_wpAny_Assign_Attribute (thn (hv pins s σ H _ I h) fun u s1 ⟨y, H1, I1, ry, q⟩ => thn (ha pins s1 σ H1 _ I1 q) fun ov s2 ⟨x, H2, I2, rx, a, C, dx, fs, ex, ea, c, n, l, q2⟩ => ?_) hs
  subst ex
  obtain rfl : ov = Value.ref a := rx
  exact setattr_ok I2 ea c n l ry fun s3 I3 => ⟨σ, _, I3, q2⟩
theorem ps_fldaug {op : Operator} {rd : V → V → Hp → VK → Prop} (ha : PE X o ta) (hv : PE X value tv) (hop : InOp X op rd) : PS X (.AugAssign (.Attribute o f tpos) op value pos) (sFldAug X.K ta tv rd f) := by
  intro pins s σ H D I h
  refine wpAny_AugAssign_AttributeAny (thn (ha pins s σ H _ I h) fun ov s1 ⟨x, H1, I1, rx, a, C, dx, fs, v, ex, ea, c, n, l, q⟩ => ?_)
  subst ex
  obtain rfl : ov = Value.ref a := rx
  refine getattr_ok I1 ea c n l fun u s2 I2 ru => thn (hv pins s2 σ H1 _ I2 q) fun w3 s3 ⟨y, H2, I3, ry, q3⟩ => thn (hop pins s3 σ H2 v y u w3 _ I3 ru ry q3) fun w4 s4 ⟨z, H3, I4, rz, dx', fs', ea', l', q4⟩ => ?_
  exact setattr_ok I4 ea' c n l' rz fun s5 I5 => ⟨σ, _, I5, q4⟩
def rAdd : V → V → Hp → VK → Prop := fun x y H Q => ∃ i j, x = .int i ∧ y = .int j ∧ Q (.int (i + j)) H
def rSub : V → V → Hp → VK → Prop := fun x y H Q => ∃ i j, x = .int i ∧ y = .int j ∧ Q (.int (i - j)) H
theorem in_add : InOp X .Add rAdd := by
  rintro pins s σ H x y u v Q I rx ry ⟨i, j, rfl, rfl, q⟩
  obtain ⟨t, rfl⟩ := (show ∃ t, u = Value.int i t from rx)
  obtain ⟨t', rfl⟩ := (show ∃ t', v = Value.int j t' from ry)
  exact PyProof.Rows.iadd_int ⟨.int (i + j), H, I.tok _, ⟨_, rfl⟩, q⟩
theorem in_sub : InOp X .Sub rSub := by
  rintro pins s σ H x y u v Q I rx ry ⟨i, j, rfl, rfl, q⟩
  obtain ⟨t, rfl⟩ := (show ∃ t, u = Value.int i t from rx)
  obtain ⟨t', rfl⟩ := (show ∃ t', v = Value.int j t' from ry)
  exact PyProof.Rows.isub_int ⟨.int (i - j), H, I.tok _, ⟨_, rfl⟩, q⟩

/-- what is between an instance and its method: the tree of a method call -/
theorem methcall_of {pl : Sem Bool} {m : Str} {apos : Pos} {args : List Expr} {pins : List (Addr × Obj)} {s : Shared} {σ : St} {H : Hp} {Q : Value → Shared → Prop} {te : TE} (he : PE X e te) (I : Inv X pins σ H s)
    (h : te σ H fun x H1 => ∃ a C dx fs g, x = .ref a ∧ H1 a = some (.ins C dx fs) ∧ Cls X.K C ∧ Meth X.K C m g ∧ fs.lookup m = none ∧
      ∀ s1, Inv X pins σ H1 s1 → wpAny (model X.prog X.w) X.A (callWith pos (.ref g) [.ref a] (backTo pos (starEach args X.env)) (backToKw pos (keywordEach [] X.env))) Q X.xe s1)
    (ht : eval (.Call (.Attribute e m apos) args [] pos) X.env = (do
      let ov ← eval e X.env
      standAt apos.atName
      let (f, first) ← holding [ov] (getMethod ov m pl)
      callWith pos f first (backTo pos (starEach args X.env)) (backToKw pos (keywordEach [] X.env)))) :
    wpAny (model X.prog X.w) X.A (eval (.Call (.Attribute e m apos) args [] pos) X.env) Q X.xe s := by
  refine PySem.W.methodCall_KW (pl := pl) (thn (he pins s σ H _ I h) fun u s1 ⟨x, H1, I1, rx, a, C, dx, fs, g, ex, ea, c, k, l, q⟩ => ?_) ht
  subst ex
  obtain rfl : u = Value.ref a := rx
  exact getmeth_ok I1 ea c k l (q s1 I1)
end

/-! ### isinstance -/
section
variable {X : Cx} {pins : List (Addr × Obj)} {σ : St} {H : Hp} {s : Shared} {A : Around} {E : Value → Shared → Prop} {Q : Value → Shared → Prop} {c : Value} {b : Bool}
/-- the type of a value, as the fragment's deciders take it; for an instance its class -/
inductive TyOf (K : PySem.W.Frag) (H : Hp) : V → Value → Prop where
  | non : TyOf K H .non (.type "NoneType")
  | bl (x : Bool) : TyOf K H (.bl x) (.type "bool")
  | int (i : Int) : TyOf K H (.int i) (.type "int")
  | str (x : Str) : TyOf K H (.str x) (.type "str")
  | flt (x : UInt64) : TyOf K H (.flt x) (.type "float")
  | lst {a : Addr} {xs : List V} (e : H a = some (.lst xs)) : TyOf K H (.ref a) (.type "list")
  | frz {a : Addr} {o : Obj} {xs : List V} (e : H a = some (.frz o (.lst xs))) : TyOf K H (.ref a) (.type "list")
  | tup {a : Addr} {xs : List V} (e : H a = some (.tup xs)) : TyOf K H (.ref a) (.type "tuple")
  | dK {a : Addr} {kvs : List (Key × V)} (e : H a = some (.dK kvs)) : TyOf K H (.ref a) (.type "dict")
  | dT {a : Addr} {kvs : List (List Key × V)} (e : H a = some (.dT kvs)) : TyOf K H (.ref a) (.type "dict")
  | ins {a C dx : Addr} {fs : List (Str × V)} (e : H a = some (.ins C dx fs)) (cl : Cls K C) (ha : PySem.W.findIn K (.ref C) "__class__" = some (some (.builtin "object.__class__")))
      (hn : PySem.W.specialIn K (.builtin "object.__class__") "__get__" = some (some (.builtin "getset_descriptor.__get__"))) (htk : PySem.W.takesIn K (.builtin "object.__class__") = some true)
      (hm : PySem.W.mroIn K C (.type "object") = some true) : TyOf K H (.ref a) (.ref C)
/-- isinstance(x, c) for one class c, a built-in or an own one: kitOne's answer -/
theorem isinst_ok {x : V} {u t : Value} (I : Inv X pins σ H s) (rx : RelV x u) (ty : TyOf X.K H x t) (e : PySem.W.kitOne X.K t c = some b) (h : ∀ tk, Q (.bool b) { s with toks := tk }) :
    wpAny (model X.prog X.w) A (call (.builtin "isinstance") [u, c]) Q E s := by
  cases ty with
  | non => cases (show u = Value.none from rx); exact PySem.W.kia_one PySem.W.kitx_none I.kIn True.intro e (fun z => nomatch z) h
  | bl y => cases (show u = Value.bool y from rx); exact PySem.W.kia_one PySem.W.kitx_bool I.kIn True.intro e (fun z => nomatch z) h
  | int i => obtain ⟨t, q⟩ := (show ∃ t, u = Value.int i t from rx); cases q; exact PySem.W.kia_one PySem.W.kitx_int I.kIn True.intro e (fun z => nomatch z) h
  | str y => obtain ⟨t, q⟩ := (show ∃ t, u = Value.str y t from rx); cases q; exact PySem.W.kia_one PySem.W.kitx_str I.kIn True.intro e (fun z => nomatch z) h
  | flt y => obtain ⟨t, q⟩ := (show ∃ t, u = Value.float y t from rx); cases q; exact PySem.W.kia_one PySem.W.kitx_float I.kIn True.intro e (fun z => nomatch z) h
  | @lst a xs ea =>
    cases (show u = Value.ref a from rx)
    obtain ⟨_, _, n, _, h1⟩ := (show ObjOk X.prog X.w H s.heap a (.lst xs) from I.hok a _ ea)
    exact PySem.W.kia_one PySem.W.kitx_list I.kIn ⟨_, h1, rfl⟩ e (fun z => nomatch z) h
  | @frz a ob xs ea =>
    cases (show u = Value.ref a from rx)
    obtain ⟨_, _, _, n, _, h1⟩ := (show ObjOk X.prog X.w H s.heap a (.frz ob (.lst xs)) from I.hok a _ ea)
    exact PySem.W.kia_one PySem.W.kitx_list I.kIn ⟨_, h1, rfl⟩ e (fun z => nomatch z) h
  | @tup a xs ea =>
    cases (show u = Value.ref a from rx)
    obtain ⟨_, _, _, p⟩ := (show ObjOk X.prog X.w H s.heap a (.tup xs) from I.hok a _ ea)
    obtain ⟨o, h1, h2, _⟩ := p
    exact PySem.W.kia_one PySem.W.kitx_tuple I.kIn ⟨o, h1, h2⟩ e (fun z => nomatch z) h
  | @dK a kvs ea =>
    cases (show u = Value.ref a from rx)
    obtain ⟨_, _, vs, _, p⟩ := (show ObjOk X.prog X.w H s.heap a (.dK kvs) from I.hok a _ ea)
    obtain ⟨o, es, ep, h1, h2, _⟩ := p
    exact PySem.W.kia_one PySem.W.kitx_dict I.kIn ⟨o, h1, h2.1⟩ e (fun z => nomatch z) h
  | @dT a kvs ea =>
    cases (show u = Value.ref a from rx)
    obtain ⟨_, _, xs, _, o, es, ep, h1, h2, _⟩ := (show ObjOk X.prog X.w H s.heap a (.dT kvs) from I.hok a _ ea)
    exact PySem.W.kia_one PySem.W.kitx_dict I.kIn ⟨o, h1, h2.1⟩ e (fun z => nomatch z) h
  | @ins a C dx fs ea cl ha hn htk hm =>
    cases (show u = Value.ref a from rx)
    obtain ⟨mA, O, _⟩ := ins_get I.hok ea
    obtain ⟨od, J, _⟩ := O.look
    exact PySem.W.kia_one (PySem.W.kitx_own (cl.get _) cl.hd ha hn htk hm) I.kIn J e (fun z => nomatch z) h
end
end L2

namespace L2
open PySem PySem.Spec PyProof.Rows

/-! ### room -/
structure Room (k : Nat) (A : Around) : Prop where
  hd : A.handled = none
  dp : A.depth + 3 * k + 5 < recursionLimit
  un : A.units + 16 * k + 200 < cLine
theorem Room.mono {j k : Nat} {A : Around} (r : Room k A) (h : j ≤ k) : Room j A := ⟨r.hd, by have := r.dp; omega, by have := r.un; omega⟩
theorem Room.deeper {k : Nat} {A : Around} (r : Room (k + 1) A) (env : Env) : Room k (A.deeper env) :=
  ⟨r.hd, by have := r.dp; show A.depth + 1 + 3 * k + 5 < _; omega, by have := r.un; show A.units + 3 + 16 * k + 200 < _; omega⟩
theorem Room.in1 {k : Nat} {A : Around} (r : Room (k + 1) A) : Room k A.in1 :=
  ⟨r.hd, by have := r.dp; show A.depth + 3 * k + 5 < _; omega, by have := r.un; show A.units + 1 + 16 * k + 200 < _; omega⟩
theorem make_depth {A : Around} {C : Addr} {us : List Value} {kw : List (Str × Value)} : (A.under (.builtin "type.__call__" ⟨.ref C :: us, kw⟩)).depth = A.depth + 1 := by
  first | rfl | simp [Around.under, Code.weight, Code.isCreation, Code.isGuard, Code.isCaller, Code.frames, Code.isFrame, guardIds]
theorem make_units {A : Around} {C : Addr} {us : List Value} {kw : List (Str × Value)} : (A.under (.builtin "type.__call__" ⟨.ref C :: us, kw⟩)).units = A.units + 1 := by
  first | rfl | simp [Around.under, Code.cUnits, Code.frames, Code.isFrame]
theorem Room.make {k : Nat} {A : Around} (r : Room (k + 1) A) (C : Addr) (us : List Value) (kw : List (Str × Value)) : Room k (A.under (.builtin "type.__call__" ⟨.ref C :: us, kw⟩)) :=
  ⟨r.hd, by have := r.dp; rw [make_depth]; omega, by have := r.un; rw [make_units]; omega⟩
theorem Room.depth {k : Nat} {A : Around} (r : Room k A) : A.depth < recursionLimit := by have := r.dp; omega
theorem Room.units {k : Nat} {A : Around} (r : Room k A) : A.units + 64 < cLine := by have := r.un; omega
theorem Room.units0 {k : Nat} {A : Around} (r : Room k A) : A.units < cLine := by have := r.un; omega

/-! ### argument lists and displays -/
def tNil : TA := fun _ H Q => Q [] H
def tCons (ta : TE) (tr : TA) : TA := fun σ H Q => ta σ H fun x H1 => tr σ H1 fun xs H2 => Q (x :: xs) H2
section
variable {X : Cx} {e : Expr} {es : List Expr} {te : TE} {t : TA} {pos : Pos}
theorem pa_nil : PA X [] tNil := fun _ _ _ _ H Q I h => Calls.spliced_nil ⟨[], H, I, .nil, h⟩
theorem pa_cons (ha : PE X e te) (hr : PA X es t) (hs : starEach (e :: es) X.env = (false, eval e X.env) :: starEach es X.env := by rfl) : PA X (e :: es) (tCons te t) := by
  intro pos pins s σ H Q I h
  rw [hs]
  show wpAny _ _ (spliced ((false, eval e X.env) :: backTo pos (starEach es X.env))) _ _ s
  refine Calls.spliced_cons (thn (ha pins s σ H _ I h) fun u s1 ⟨x, H1, I1, r1, q1⟩ => ?_)
  exact thn (hr pos pins s1 σ H1 _ I1 q1) fun us s2 ⟨xs, H2, I2, r2, q2⟩ => ⟨x :: xs, H2, I2, .cons r1 r2, q2⟩

/-- a tuple, a list of written items -/
def tTup (t : TA) : TE := fun σ H Q => t σ H fun xs H1 => xs.length ≤ sizeLine ∧ ∀ p, H1 p = none → Q (.ref p) (upd H1 p (.tup xs))
def tLst (t : TA) : TE := fun σ H Q => t σ H fun xs H1 => xs.length ≤ sizeLine ∧ ∀ p, H1 p = none → Q (.ref p) (upd H1 p (.lst xs))
theorem pe_tup {x1} (h : PA X es t) : PE X (.Tuple es x1 pos) (tTup t) := by
  intro pins s σ H Q I hq
  refine wpAny_Tuple_spliced (thn (h pos pins s σ H _ I hq) fun us s1 ⟨xs, H1, I1, r, z, q⟩ => ⟨by rw [← r.length]; exact z, ?_⟩)
  have hf : H1 s1.heap.objs.size = none := I1.hok.fresh (Nat.le_refl _)
  refine ⟨.ref s1.heap.objs.size, upd H1 s1.heap.objs.size (.tup xs), I1.laid (t' := s1.toks) (fun b u e => Heap.get?_push_of_some _ e) (Nat.le_refl _) ?_, rfl, q _ hf⟩
  exact ⟨z, us, r, ⟨_, Heap.get?_push_size _ rfl, rfl, _, rfl⟩⟩
theorem pe_lst (h : PA X es t) : PE X (.List es pos) (tLst t) := by
  intro pins s σ H Q I hq
  refine wpAny_List_spliced (thn (h pos pins s σ H _ I hq) fun us s1 ⟨xs, H1, I1, r, z, q⟩ => ⟨by rw [← r.length]; exact z, ?_⟩)
  have hf : H1 s1.heap.objs.size = none := I1.hok.fresh (Nat.le_refl _)
  refine ⟨.ref s1.heap.objs.size, upd H1 s1.heap.objs.size (.lst xs), I1.laid (t' := s1.toks) (fun b u e => Heap.get?_push_of_some _ e) (Nat.le_refl _) ?_, rfl, q _ hf⟩
  exact ⟨z, us, 0, r, Heap.get?_push_size _ rfl⟩
end

/-! ### what a def promises -/
/-- a def's promise: the bound arguments in the parameters' order, the heap, the wanted end, the wanted exception -/
abbrev Sp := List V → Hp → VK → XK → Prop
/-- how an exception lies behind a call (file 08 gives it): the callers' frames, abstract heap and state ahead of the call, the wish, the exception, the state -/
abbrev CXT := List Env → Hp → Shared → XK → Value → Shared → Prop

/-- the state at a call -/
structure Env0 (P : Program) (w : World) (K : PySem.W.Frag) (mg : Str → Option Value) (base : Heap) (A : Around) (outer : List Env) (s : Shared) (H : Hp) : Prop where
  frames : A.frames = some outer
  mod : Mod K mg base
  bs : ∀ b o, base.get? b = some o → s.heap.get? b = some o ∧ H b = none
  bsz : base.objs.size ≤ s.heap.objs.size
  funs : s.heap.FunFrames base outer
  frf : ∀ b ∈ frs outer, H b = none
  hok : HOk P w H s.heap
  bare : AllBare s.gens
/-- a call's end -/
def CE (outer : List Env) (P : Program) (w : World) (H : Hp) (s : Shared) (Q : VK) (u : Value) (s' : Shared) : Prop :=
  ∃ v H', s'.os = s.os ∧ AllBare s'.gens ∧ Un (frs outer) [] H H' s.heap s'.heap ∧ HOk P w H' s'.heap ∧ RelV v u ∧ Q v H'
def CR (CX : CXT) (outer : List Env) (P : Program) (w : World) (H : Hp) (s : Shared) (Q : VK) (E : XK) (r : Result) (s' : Shared) : Prop :=
  match r with
  | .ok (.ret u) => CE outer P w H s Q u s'
  | .ok _ => False
  | .error e => CX outer H s E e s'
structure FnOk (P : Program) (w : World) (K : PySem.W.Frag) (mg : Str → Option Value) (base : Heap) (CX : CXT) (k : Nat) (f : Addr) (fd : FuncData) (ps : List Str) (sp : Sp) : Prop where
  len : ∀ vs H Q E, sp vs H Q E → vs.length = ps.length
  run : ∀ (A : Around) (outer : List Env) (s : Shared) (H : Hp) (args : Args) (us : List Value) (vs : List V) (Q : VK) (E : XK), Room k A → Env0 P w K mg base A outer s H → BindsTo s fd args (ps.zip us) → Vals vs us → sp vs H Q E →
    codeAny (model P w) A (.call (.ref f) args) (CR CX outer P w H s Q E) s
theorem FnOk.mono {P : Program} {w : World} {K : PySem.W.Frag} {mg : Str → Option Value} {base : Heap} {CX : CXT} {j k : Nat} {f : Addr} {fd : FuncData} {ps : List Str} {sp : Sp} (F : FnOk P w K mg base CX j f fd ps sp) (h : j ≤ k) :
    FnOk P w K mg base CX k f fd ps sp := ⟨F.len, fun A outer s H args us vs Q E hr => F.run A outer s H args us vs Q E (hr.mono h)⟩
/-- a weaker promise -/
theorem FnOk.imp {P : Program} {w : World} {K : PySem.W.Frag} {mg : Str → Option Value} {base : Heap} {CX : CXT} {k : Nat} {f : Addr} {fd : FuncData} {ps : List Str} {sp sp' : Sp} (F : FnOk P w K mg base CX k f fd ps sp)
    (h : ∀ vs H Q E, sp' vs H Q E → sp vs H Q E) : FnOk P w K mg base CX k f fd ps sp' :=
  ⟨fun vs H Q E q => F.len vs H Q E (h _ _ _ _ q), fun A outer s H args us vs Q E hr he hb hv hs => F.run A outer s H args us vs Q E hr he hb hv (h _ _ _ _ hs)⟩

theorem Env0.make {P : Program} {w : World} {K : PySem.W.Frag} {mg : Str → Option Value} {base : Heap} {A : Around} {outer : List Env} {s : Shared} {H : Hp} (e : Env0 P w K mg base A outer s H) (C : Addr) (us : List Value) (kw : List (Str × Value)) :
    Env0 P w K mg base (A.under (.builtin "type.__call__" ⟨.ref C :: us, kw⟩)) outer s H := ⟨by first | exact e.frames | (simpa [Around.under, Code.envs, Code.isFrame, pushEnvs] using e.frames), e.mod, e.bs, e.bsz, e.funs, e.frf, e.hok, e.bare⟩
theorem Env0.in1 {P : Program} {w : World} {K : PySem.W.Frag} {mg : Str → Option Value} {base : Heap} {A : Around} {outer : List Env} {s : Shared} {H : Hp} (e : Env0 P w K mg base A outer s H) :
    Env0 P w K mg base A.in1 outer s H := ⟨e.frames, e.mod, e.bs, e.bsz, e.funs, e.frf, e.hok, e.bare⟩

section
variable {X : Cx} {pins : List (Addr × Obj)} {σ : St} {H : Hp} {s s' : Shared}
/-- from a body: what a callee wants -/
theorem Inv.env0 (I : Inv X pins σ H s) : Env0 X.prog X.w X.K X.mg X.base X.A X.stack s H :=
  ⟨I.ok.frames, I.ok.mod, I.bs, Nat.le_trans I.ok.bsz I.sz, I.stack, I.stkFree, I.hok, I.bare⟩
/-- behind a call -/
theorem Inv.after {Q : VK} {u : Value} (I : Inv X pins σ H s) (h : CE X.stack X.prog X.w H s Q u s') : EP X pins σ Q u s' := by
  obtain ⟨v, H', os, bare, un, hok, r, q⟩ := h
  obtain ⟨hh, g, d, t, os'⟩ := s'
  obtain rfl : os' = s.os := os
  exact ⟨v, H', I.call (h' := hh) (g' := g) (d' := d) (t' := t) (ch := []) un hok bare (fun b z => absurd z (by simp)), r, q⟩
end

/-! ### calls -/
/-- f(..): the written arguments, then the defaults dvs; E: what is wanted of an exception -/
def tCall (sp : Sp) (dvs : List V) (E : XK) (t : TA) : TE := fun σ H Q => t σ H fun vs H1 => sp (vs ++ dvs) H1 Q E
/-- o.m(..) of an instance of the class at C -/
def tMeth (C : Addr) (m : Str) (sp : Sp) (dvs : List V) (E : XK) (ta : TE) (t : TA) : TE := fun σ H Q => ta σ H fun x H1 => ∃ a dx fs, x = .ref a ∧ H1 a = some (.ins C dx fs) ∧ fs.lookup m = none ∧
  t σ H1 fun vs H2 => sp (x :: (vs ++ dvs)) H2 Q E
/-- C(..): a new instance and its dict, then __init__ -/
def tMake (C : Addr) (sp : Sp) (dvs : List V) (E : XK) (t : TA) : TE := fun σ H Q => t σ H fun vs H1 => ∀ x dx, H1 x = none → H1 dx = none → dx ≠ x →
  sp (.ref x :: (vs ++ dvs)) (upd (upd H1 dx (.own x)) x (.ins C dx [])) (fun v H2 => v = .non ∧ Q (.ref x) H2) E

/-- how the parameters are bound: us the positional arguments, kw the keywords' values by name, ds the defaults that fill up -/
def Binds (K : PySem.W.Frag) (fd : FuncData) (ps : List Str) (ds : List Value) : Prop :=
  ∀ (s : Shared) (us : List Value), K.In s.heap → (us ++ ds).length = ps.length → BindsTo s fd ⟨us, []⟩ (ps.zip (us ++ ds))
/-- every parameter is given -/
theorem Binds.all {K : PySem.W.Frag} {fd : FuncData} {ps : List Str} (h : ∀ us : List Value, us.length = ps.length → bindArgs fd ⟨us, []⟩ = pure (ps.zip us)) : Binds K fd ps [] := fun s us _ hl => by
  rw [List.append_nil] at hl ⊢
  exact .of_eq (h us hl)

/-- an exception of a callee reaches what this body wants of exceptions -/
def Passes (CX : CXT) (X : Cx) (E : XK) : Prop := ∀ (pins : List (Addr × Obj)) (σ : St) (H : Hp) (s : Shared) (e : Value) (s' : Shared), Inv X pins σ H s → CX X.stack H s E e s' → X.xe e s'

section
variable {X : Cx} {CX : CXT} {k : Nat} {f C : Addr} {fd : FuncData} {ps : List Str} {sp : Sp} {dvs : List V} {ds : List Value} {E : XK} {x m : Str} {p pos apos : Pos} {e o : Expr} {es : List Expr} {ta : TE} {t : TA}

/-- the callee runs -/
theorem run_fn {pins : List (Addr × Obj)} {σ : St} {H : Hp} {s : Shared} {Q : VK} {us : List Value} {vs : List V} (F : FnOk X.prog X.w X.K X.mg X.base CX k f fd ps sp) (hr : Room k X.A) (hb : Binds X.K fd ps ds) (hd : Vals dvs ds) (hx : Passes CX X E)
    (I : Inv X pins σ H s) (r : Vals vs us) (h : sp (vs ++ dvs) H Q E) : wpAny (model X.prog X.w) X.A (call (.ref f) us) (EP X pins σ Q) X.xe s := by
  have r2 : Vals (vs ++ dvs) (us ++ ds) := r.append hd
  have hl : (us ++ ds).length = ps.length := by rw [← r2.length]; exact F.len _ _ _ _ h
  refine wpAny_call (codeAny_mono (F.run X.A X.stack s H ⟨us, []⟩ (us ++ ds) (vs ++ dvs) Q E hr I.env0 (hb s us I.kIn hl) r2 h) fun r s' hq => ?_)
  cases r with
  | error e => exact hx pins σ H s e s' I hq
  | ok fl =>
    cases fl with
    | ret u => exact I.after hq
    | next => exact False.elim hq
    | brk => exact False.elim hq
    | cont => exact False.elim hq

theorem pe_call (F : FnOk X.prog X.w X.K X.mg X.base CX k f fd ps sp) (hr : Room k X.A) (hg : Gl X x) (hm : X.mg x = some (.ref f)) (hk : PySem.W.keepIn X.K (.ref f) = true) (hb : Binds X.K fd ps ds) (hd : Vals dvs ds) (hx : Passes CX X E)
    (ha : PA X (e :: es) t) (hdb : (x == ("__debug__" : Str)) = false := by decide) (he : starEach (e :: es) X.env = (false, eval e X.env) :: starEach es X.env := by rfl) (hpl : (backTo pos (starEach es X.env)).any (·.1) = false := by rfl) :
    PE X (.Call (.Name x p) (e :: es) [] pos) (tCall sp dvs E t) := by
  intro pins s σ H Q I h
  refine wpAny_Call_Name_kw (ld_glob I hg hm ?_ hdb)
  refine PySem.W.callWith_K (h₀ := X.base) I.ok.mod.kin hk (thn (ha pos pins s σ H _ I h) fun us s1 ⟨vs, H1, I1, r, q⟩ => ⟨I1.kIn, ?_⟩) he hpl
  exact run_fn F hr hb hd hx I1 r q
theorem pe_call0 (F : FnOk X.prog X.w X.K X.mg X.base CX k f fd ps sp) (hr : Room k X.A) (hg : Gl X x) (hm : X.mg x = some (.ref f)) (hk : PySem.W.keepIn X.K (.ref f) = true) (hb : Binds X.K fd ps ds) (hd : Vals dvs ds) (hx : Passes CX X E)
    (hdb : (x == ("__debug__" : Str)) = false := by decide) : PE X (.Call (.Name x p) [] [] pos) (tCall sp dvs E tNil) := by
  intro pins s σ H Q I h
  refine wpAny_Call_Name_kw (ld_glob I hg hm ?_ hdb)
  exact PySem.W.callWith_K0 I.kIn hk (run_fn (us := []) F hr hb hd hx I .nil h)

/-- o.m(e, ..) -/
theorem pe_meth {pl : Sem Bool} (he : PE X o ta) (c : Cls X.K C) (hm : Meth X.K C m f) (F : FnOk X.prog X.w X.K X.mg X.base CX k f fd ps sp) (hr : Room k X.A) (hb : Binds X.K fd ps ds) (hd : Vals dvs ds) (hx : Passes CX X E) (ha : PA X (e :: es) t)
    (hst : starEach (e :: es) X.env = (false, eval e X.env) :: starEach es X.env := by rfl) (hpl : (backTo pos (starEach es X.env)).any (·.1) = false := by rfl)
    (ht : eval (.Call (.Attribute o m apos) (e :: es) [] pos) X.env = (do
      let ov ← eval o X.env
      standAt apos.atName
      let (f, first) ← holding [ov] (getMethod ov m pl)
      callWith pos f first (backTo pos (starEach (e :: es) X.env)) (backToKw pos (keywordEach [] X.env))) := by rfl) :
    PE X (.Call (.Attribute o m apos) (e :: es) [] pos) (tMeth C m sp dvs E ta t) := by
  intro pins s σ H Q I h
  refine PySem.W.methodCall_KW (pl := pl) (thn (he pins s σ H _ I h) fun u s1 ⟨x, H1, I1, rx, a, dx, fs, ex, ea, l, q⟩ => ?_) ht
  subst ex
  obtain rfl : u = Value.ref a := rx
  refine getmeth_ok I1 ea c hm l ?_
  refine PySem.W.callWith_K (first := [.ref a]) (h₀ := X.base) I.ok.mod.kin hm.kp (thn (ha pos pins s1 σ H1 _ I1 q) fun us s2 ⟨vs, H2, I2, r, q2⟩ => ⟨I2.kIn, ?_⟩) hst hpl
  exact run_fn (us := .ref a :: us) (vs := .ref a :: vs) F hr hb hd hx I2 (.cons rfl r) q2
/-- o.m() -/
theorem pe_meth0 {pl : Sem Bool} (he : PE X o ta) (c : Cls X.K C) (hm : Meth X.K C m f) (F : FnOk X.prog X.w X.K X.mg X.base CX k f fd ps sp) (hr : Room k X.A) (hb : Binds X.K fd ps ds) (hd : Vals dvs ds) (hx : Passes CX X E)
    (ht : eval (.Call (.Attribute o m apos) [] [] pos) X.env = (do
      let ov ← eval o X.env
      standAt apos.atName
      let (f, first) ← holding [ov] (getMethod ov m pl)
      callWith pos f first (backTo pos (starEach [] X.env)) (backToKw pos (keywordEach [] X.env))) := by rfl) :
    PE X (.Call (.Attribute o m apos) [] [] pos) (tMeth C m sp dvs E ta tNil) := by
  intro pins s σ H Q I h
  refine PySem.W.methodCall_KW (pl := pl) (thn (he pins s σ H _ I h) fun u s1 ⟨x, H1, I1, rx, a, dx, fs, ex, ea, l, q⟩ => ?_) ht
  subst ex
  obtain rfl : u = Value.ref a := rx
  refine getmeth_ok I1 ea c hm l ?_
  exact PySem.W.callWith_K0 (first := [.ref a]) I1.kIn hm.kp (run_fn (us := [.ref a]) (vs := [.ref a]) F hr hb hd hx I1 (.cons rfl .nil) q)

/-- what a class must have to be made -/
structure Mk (K : PySem.W.Frag) (C f : Addr) : Prop where
  makes : PySem.W.makesIn K C = true
  init : PySem.W.findIn K (.ref C) "__init__" = some (some (.ref f))
  fn : PySem.W.isFn K (.ref f) = true
  kp : PySem.W.keepIn K (.ref C) = true

theorem run_make {pins : List (Addr × Obj)} {σ : St} {H : Hp} {s : Shared} {Q : VK} {us : List Value} {vs : List V} (M : Mk X.K C f) (F : FnOk X.prog X.w X.K X.mg X.base CX k f fd ps sp) (hr : Room (k + 1) X.A) (hb : Binds X.K fd ps ds) (hd : Vals dvs ds)
    (hx : Passes CX X E) (I : Inv X pins σ H s) (r : Vals vs us)
    (h : ∀ x dx, H x = none → H dx = none → dx ≠ x → sp (.ref x :: (vs ++ dvs)) (upd (upd H dx (.own x)) x (.ins C dx [])) (fun v H2 => v = .non ∧ Q (.ref x) H2) E) :
    wpAny (model X.prog X.w) X.A (call (.ref C) us) (EP X pins σ Q) X.xe s := by
  have hq := h (s.heap.objs.size + 1) s.heap.objs.size (I.hok.fresh (Nat.le_succ _)) (I.hok.fresh (Nat.le_refl _)) (Nat.ne_of_lt (Nat.lt_succ_self _))
  have I2 := Inv.made (C := C) I
  have r2 : Vals (V.ref (s.heap.objs.size + 1) :: (vs ++ dvs)) (Value.ref (s.heap.objs.size + 1) :: (us ++ ds)) := .cons rfl (r.append hd)
  have hl : (Value.ref (s.heap.objs.size + 1) :: us ++ ds).length = ps.length := by
    have e := r2.length
    rw [F.len _ _ _ _ hq] at e
    exact e.symm
  refine wpAny_call (make_map (f := f) I.kIn M.makes M.init (beq_iff_eq.mp M.fn) (codeAny_mono (F.run _ X.stack _ _ ⟨Value.ref (s.heap.objs.size + 1) :: us, []⟩ (Value.ref (s.heap.objs.size + 1) :: (us ++ ds)) _ _ E (hr.make C us [])
    (I2.env0.make C us []) (hb _ (Value.ref (s.heap.objs.size + 1) :: us) I2.kIn hl) r2 hq) fun r s' hq' => ?_))
  cases r with
  | error e => exact hx pins σ _ _ e s' I2 hq'
  | ok fl =>
    cases fl with
    | ret u =>
      obtain ⟨v, H', I3, rv, ev, q3⟩ := I2.after hq'
      subst ev
      exact ⟨rv, ⟨V.ref (s.heap.objs.size + 1), H', I3, rfl, q3⟩⟩
    | next => exact False.elim hq'
    | brk => exact False.elim hq'
    | cont => exact False.elim hq'
theorem pe_make (M : Mk X.K C f) (F : FnOk X.prog X.w X.K X.mg X.base CX k f fd ps sp) (hr : Room (k + 1) X.A) (hg : Gl X x) (hm : X.mg x = some (.ref C)) (hb : Binds X.K fd ps ds) (hd : Vals dvs ds) (hx : Passes CX X E)
    (ha : PA X (e :: es) t) (hdb : (x == ("__debug__" : Str)) = false := by decide) (he : starEach (e :: es) X.env = (false, eval e X.env) :: starEach es X.env := by rfl) (hpl : (backTo pos (starEach es X.env)).any (·.1) = false := by rfl) :
    PE X (.Call (.Name x p) (e :: es) [] pos) (tMake C sp dvs E t) := by
  intro pins s σ H Q I h
  refine wpAny_Call_Name_kw (ld_glob I hg hm ?_ hdb)
  refine PySem.W.callWith_K (h₀ := X.base) I.ok.mod.kin M.kp (thn (ha pos pins s σ H _ I h) fun us s1 ⟨vs, H1, I1, r, q⟩ => ⟨I1.kIn, ?_⟩) he hpl
  exact run_make M F hr hb hd hx I1 r q
theorem pe_make0 (M : Mk X.K C f) (F : FnOk X.prog X.w X.K X.mg X.base CX k f fd ps sp) (hr : Room (k + 1) X.A) (hg : Gl X x) (hm : X.mg x = some (.ref C)) (hb : Binds X.K fd ps ds) (hd : Vals dvs ds) (hx : Passes CX X E)
    (hdb : (x == ("__debug__" : Str)) = false := by decide) : PE X (.Call (.Name x p) [] [] pos) (tMake C sp dvs E tNil) := by
  intro pins s σ H Q I h
  refine wpAny_Call_Name_kw (ld_glob I hg hm ?_ hdb)
  exact PySem.W.callWith_K0 I.kIn M.kp (run_make (us := []) M F hr hb hd hx I .nil h)
end

/-! ### keywords -/
/-- the values of the keywords, from the left -/
def PK (X : Cx) (kws : List Keyword) (t : TA) : Prop :=
  ∀ (pos : Pos) (pins : List (Addr × Obj)) (s : Shared) (σ : St) (H : Hp) (Q : List V → Hp → Prop), Inv X pins σ H s → t σ H Q → wpAny (model X.prog X.w) X.A (evalAll ((backToKw pos (keywordEach kws X.env)).map (·.2))) (AP X pins σ Q) X.xe s
section
variable {X : Cx} {CX : CXT} {k : Nat} {f C : Addr} {fd : FuncData} {ps ks : List Str} {sp : Sp} {E : XK} {x m : Str} {p pos apos kpos : Pos} {e o : Expr} {es : List Expr} {kws : List Keyword} {te ta : TE} {t tk : TA} {nm : Option Str}
theorem pk_nil : PK X [] tNil := fun _ _ _ _ H Q I h => wpAny_evalAll_nil ⟨[], H, I, .nil, h⟩
theorem pk_cons (ha : PE X e te) (hr : PK X kws t) : PK X (⟨nm, e, kpos⟩ :: kws) (tCons te t) := by
  intro pos pins s σ H Q I h
  show wpAny _ _ (evalAll ((do let v ← eval e X.env; standAt pos; pure v) :: (backToKw pos (keywordEach kws X.env)).map (·.2))) _ _ s
  refine wpAny_evalAll_cons (wpAny_bind (thn (ha pins s σ H _ I h) fun u s1 ⟨x, H1, I1, r1, q1⟩ => wpAny_bind (wpAny_standAt (wpAny_pure ?_))))
  exact thn (hr pos pins s1 σ H1 _ I1 q1) fun us s2 ⟨xs, H2, I2, r2, q2⟩ => ⟨x :: xs, H2, I2, .cons r1 r2, q2⟩

/-- how a call with keywords binds: g puts the positional values us and the keywords' values ws (names ks) in the parameters' order, defaults among them -/
structure KBinds (K : PySem.W.Frag) (fd : FuncData) (ps ks : List Str) (g : List Value → List Value → List Value) (gV : List V → List V → List V) : Prop where
  to : ∀ (s : Shared) (us ws : List Value), K.In s.heap → (g us ws).length = ps.length → BindsTo s fd ⟨us, ks.zip ws⟩ (ps.zip (g us ws))
  rel : ∀ {vs : List V} {us : List Value} {zs : List V} {ws : List Value}, Vals vs us → Vals zs ws → Vals (gV vs zs) (g us ws)
def tCallK (sp : Sp) (gV : List V → List V → List V) (E : XK) (t tk : TA) : TE := fun σ H Q => t σ H fun vs H1 => tk σ H1 fun zs H2 => sp (gV vs zs) H2 Q E
variable {g : List Value → List Value → List Value} {gV : List V → List V → List V}
theorem run_fnk {pins : List (Addr × Obj)} {σ : St} {H : Hp} {s : Shared} {Q : VK} {us ws : List Value} {vs zs : List V} (F : FnOk X.prog X.w X.K X.mg X.base CX k f fd ps sp) (hr : Room k X.A) (hb : KBinds X.K fd ps ks g gV) (hx : Passes CX X E)
    (I : Inv X pins σ H s) (r : Vals vs us) (rz : Vals zs ws) (h : sp (gV vs zs) H Q E) : wpAny (model X.prog X.w) X.A (call (.ref f) us (ks.zip ws)) (EP X pins σ Q) X.xe s := by
  have r2 := hb.rel r rz
  have hl : (g us ws).length = ps.length := by rw [← r2.length]; exact F.len _ _ _ _ h
  refine wpAny_call (codeAny_mono (F.run X.A X.stack s H ⟨us, ks.zip ws⟩ (g us ws) (gV vs zs) Q E hr I.env0 (hb.to s us ws I.kIn hl) r2 h) fun r s' hq => ?_)
  cases r with
  | error e => exact hx pins σ H s e s' I hq
  | ok fl =>
    cases fl with
    | ret u => exact I.after hq
    | next => exact False.elim hq
    | brk => exact False.elim hq
    | cont => exact False.elim hq
/-- f(e, .., k = v, ..) -/
theorem pe_callK (F : FnOk X.prog X.w X.K X.mg X.base CX k f fd ps sp) (hr : Room k X.A) (hg : Gl X x) (hm : X.mg x = some (.ref f)) (hk : PySem.W.keepIn X.K (.ref f) = true) (hb : KBinds X.K fd ps ks g gV) (hx : Passes CX X E)
    (ha : PA X (e :: es) t) (hkw : PK X kws tk) (hall : (backToKw pos (keywordEach kws X.env)).all (·.1.isSome) = true := by rfl) (hks : (backToKw pos (keywordEach kws X.env)).filterMap (·.1) = ks := by rfl)
    (hdb : (x == ("__debug__" : Str)) = false := by decide) (he : starEach (e :: es) X.env = (false, eval e X.env) :: starEach es X.env := by rfl)
    (hpl : ((backTo pos (starEach (e :: es) X.env)).any (·.1) || (backToKw pos (keywordEach kws X.env)).any (·.1.isNone)) = false := by rfl) :
    PE X (.Call (.Name x p) (e :: es) kws pos) (tCallK sp gV E t tk) := by
  intro pins s σ H Q I h
  refine wpAny_Call_Name_kw (ld_glob I hg hm ?_ hdb)
  refine PySem.W.callWith_KW (h₀ := X.base) I.ok.mod.kin hk hall (thn (ha pos pins s σ H _ I h) fun us s1 ⟨vs, H1, I1, r, q⟩ => ?_) hpl he
  refine thn (hkw pos pins s1 σ H1 _ I1 q) fun ws s2 ⟨zs, H2, I2, rz, q2⟩ => ⟨I2.kIn, ?_⟩
  rw [hks]
  exact run_fnk F hr hb hx I2 r rz q2
end

/-! ### a def's body keeps its promise -/
/-- names: the parameters first -/
structure FnScope (N P : List Str) (sc : Scope) : Prop where
  kind : sc.kind = .function
  co : sc.isCoroutine = false
  gen : sc.isGenerator = false
  nd : N.Nodup
  pre : N.take P.length = P
  par : ∀ x ∈ P, sc.names.lookup x = some .local ∨ sc.names.lookup x = some .cell
  nofree : ∀ y ∈ sc.names, y.2 ≠ .free

theorem bindL_out {kindOf : Str → Option NameKind} {x : Str} : ∀ {binds : List (Str × Value)} {m : Str → Option Value}, (∀ v, (x, v) ∉ binds) → bindL kindOf binds m x = m x
  | [], _, _ => rfl
  | (n, v) :: r, m, h => by
    unfold bindL
    rw [bindL_out fun w hw => h w (List.mem_cons_of_mem _ hw)]
    split
    · have : x ≠ n := by rintro rfl; exact h v List.mem_cons_self
      simp [this]
    · rfl
theorem bindC_out {kindOf : Str → Option NameKind} {x : Str} : ∀ {binds : List (Str × Value)} {m : Str → Option Value}, (∀ v, (x, v) ∉ binds) → bindC kindOf binds m x = m x
  | [], _, _ => rfl
  | (n, v) :: r, m, h => by
    unfold bindC
    rw [bindC_out fun w hw => h w (List.mem_cons_of_mem _ hw)]
    split
    · rfl
    · have : x ≠ n := by rintro rfl; exact h v List.mem_cons_self
      simp [this]
theorem bindL_get {kindOf : Str → Option NameKind} {x : Str} {v : Value} : ∀ {P : List Str} {vs : List Value} {i : Nat} {m : Str → Option Value}, P.Nodup → P[i]? = some x → vs[i]? = some v → kindOf x = some .local →
    bindL kindOf (P.zip vs) m x = some v
  | [], _, _, _, _, h, _, _ => by simp at h
  | _ :: _, [], _, _, _, _, h, _ => by simp at h
  | p :: P, w :: vs, 0, m, nd, h1, h2, hk => by
    simp at h1 h2; subst h1; subst h2
    show bindL kindOf ((p, w) :: P.zip vs) m p = _
    unfold bindL
    rw [bindL_out fun v hv => (List.nodup_cons.mp nd).1 (List.of_mem_zip hv).1, if_pos hk]
    simp
  | p :: P, w :: vs, i + 1, m, nd, h1, h2, hk => by
    show bindL kindOf ((p, w) :: P.zip vs) m x = _
    unfold bindL
    exact bindL_get (i := i) (List.nodup_cons.mp nd).2 (by simpa using h1) (by simpa using h2) hk
theorem bindC_get {kindOf : Str → Option NameKind} {x : Str} {v : Value} : ∀ {P : List Str} {vs : List Value} {i : Nat} {m : Str → Option Value}, P.Nodup → P[i]? = some x → vs[i]? = some v → kindOf x ≠ some .local →
    bindC kindOf (P.zip vs) m x = some v
  | [], _, _, _, _, h, _, _ => by simp at h
  | _ :: _, [], _, _, _, _, h, _ => by simp at h
  | p :: P, w :: vs, 0, m, nd, h1, h2, hk => by
    simp at h1 h2; subst h1; subst h2
    show bindC kindOf ((p, w) :: P.zip vs) m p = _
    unfold bindC
    rw [bindC_out fun v hv => (List.nodup_cons.mp nd).1 (List.of_mem_zip hv).1, if_neg hk]
    simp
  | p :: P, w :: vs, i + 1, m, nd, h1, h2, hk => by
    show bindC kindOf ((p, w) :: P.zip vs) m x = _
    unfold bindC
    exact bindC_get (i := i) (List.nodup_cons.mp nd).2 (by simpa using h1) (by simpa using h2) hk

/-- the names' values at the entry -/
def start (N : List Str) (vs : List V) : St := vs.map some ++ List.replicate (N.length - vs.length) none

/-- the context of a def's body, at its entry; an exception leaves the frame, then lies as CX says -/
def cxOf (CX : CXT) (P : Program) (w : World) (K : PySem.W.Frag) (mg : Str → Option Value) (base : Heap) (N : List Str) (qual : Str) (scope : Scope) (f : Addr) (cd : Value) (A : Around) (outer : List Env) (s : Shared) (H : Hp) (E : XK) : Cx where
  prog := P
  w := w
  K := K
  mg := mg
  base := base
  A := A.deeper (envOfC qual scope s.heap.objs.size f cd)
  N := N
  s₀ := s
  H₀ := H
  env := envOfC qual scope s.heap.objs.size f cd
  outer := outer
  stack := envOfC qual scope s.heap.objs.size f cd :: outer
  ex := []
  calm := true
  fn := fun _ => true
  pn := []
  xe := fun e s' => wpAny (model P w) (A.deeper (envOfC qual scope s.heap.objs.size f cd)) (leaving (envOfC qual scope s.heap.objs.size f cd) e) (fun _ s'' => CX outer H s E e s'') (fun e' s'' => CX outer H s E e' s'') s'

theorem cell_has {sc : Scope} {n : Nat} {x : Str} (h : sc.names.lookup x = some .cell) : ∃ c, (cellsFrom n sc.names []).lookup x = some c := by
  have q := PySem.W.cellsFrom_some sc.names n [] (.inl h)
  exact Option.isSome_iff_exists.mp q

theorem inv_start {CX : CXT} {P : Program} {w : World} {K : PySem.W.Frag} {mg : Str → Option Value} {base : Heap} {N ps : List Str} {qual : Str} {scope : Scope} {f : Addr} {cd : Value} {A : Around} {outer : List Env} {s s1 : Shared} {H : Hp} {E : XK} {us : List Value} {vs : List V}
    (S : FnScope N ps scope) (hd : A.handled = none) (e0 : Env0 P w K mg base A outer s H) (hl : vs.length = ps.length) (r : Vals vs us)
    (x : InCallC s s.heap.objs.size (bindL (envOfC qual scope s.heap.objs.size f cd).kindOf (ps.zip us) fun _ => none) (cellsFrom (s.heap.objs.size + 1) scope.names []) (bindC (envOfC qual scope s.heap.objs.size f cd).kindOf (ps.zip us) fun _ => none) s1) :
    Inv (cxOf CX P w K mg base N qual scope f cd A outer s H E) [] (start N vs) H s1 := by
  have hpl : ps.length ≤ N.length := by have := congrArg List.length S.pre; rw [List.length_take] at this; omega
  obtain ⟨h1, tk, rfl, hk⟩ := x.done
  have noA : ∀ b : Addr, b ∉ (cxOf CX P w K mg base N qual scope f cd A outer s H E).ex := fun b z => absurd (show b ∈ ([] : List Addr) from z) (by simp)
  refine ⟨⟨e0.mod, S.kind, rfl, rfl, Nat.le_refl _, fun y z c h1 h2 => ?_, fun y hy => ?_, fun y c _ h => ?_, fun _ => hd, Around.frames_deeper e0.frames, .inr ⟨rfl, rfl⟩, fun b z => absurd z (noA b), e0.bs, e0.bsz, fun b _ _ => noA b, fun b z => absurd z (noA b), e0.funs, e0.frf⟩,
    rfl, e0.bare, Un.kept hk, ⟨_, x.toInCall.ns, fun i y v h1 h2 h3 => ?_⟩, fun y c h => ⟨_, x.cell y c h⟩, e0.hok.fresh (Nat.le_refl _), fun y c h => ?_, fun p hp => absurd (show p ∈ ([] : List (Addr × Obj)) from hp) (by simp), e0.hok.kept hk, ?_⟩
  · exact name_of_addr x.apart (PySem.mem_of_lookup h1) (PySem.mem_of_lookup h2)
  · have hy : scope.names.lookup y = some .cell ∨ scope.names.lookup y = some .free := hy
    rcases hy with hy | hy
    · exact cell_has hy
    · exact absurd rfl (S.nofree _ (PySem.mem_of_lookup hy))
  · exact Nat.le_of_lt (x.above y c (PySem.mem_of_lookup h))
  · have hi : i < vs.length := by
      unfold start at h2
      by_cases hi : i < vs.length
      · exact hi
      · rw [List.getElem?_append_right (by simpa using hi)] at h2
        rw [List.getElem?_replicate] at h2
        split at h2 <;> cases h2
    have ha : vs[i]? = some v := by
      unfold start at h2
      rw [List.getElem?_append_left (by simpa using hi), List.getElem?_map] at h2
      cases e : vs[i]? with
      | none => rw [e] at h2; cases h2
      | some a => rw [e] at h2; cases h2; rfl
    obtain ⟨u, hu, rv⟩ := r.get ha
    have hp : ps[i]? = some y := by
      rw [← S.pre, List.getElem?_take_of_lt (by omega)]; exact h1
    have ndP : ps.Nodup := by rw [← S.pre]; exact S.nd.sublist (List.take_sublist _ _)
    refine ⟨u, rv, ?_⟩
    rcases S.par y (List.mem_of_getElem? hp) with k | k
    · exact .inl ⟨k, bindL_get ndP hp hu k⟩
    · obtain ⟨c, e⟩ := cell_has (n := s.heap.objs.size + 1) k
      refine .inr ⟨.inl k, c, e, ?_⟩
      have q := x.cell y c e
      rw [bindC_get ndP hp hu (by show scope.names.lookup y ≠ _; rw [k]; decide)] at q
      exact q
  · exact e0.hok.fresh (Nat.le_of_lt (x.above y c (PySem.mem_of_lookup h)))
  · unfold start
    show _ = N.length
    rw [List.length_append, List.length_map, List.length_replicate]
    omega

/-- THE RULE: a def (or a method) of the text, by its body. The body's reading t is chosen for each entry; it is run at the parameters' values -/
theorem fn_of {CX : CXT} {P : Program} {w : World} {K : PySem.W.Frag} {mg : Str → Option Value} {base : Heap} {k : Nat} {f : Addr} {name qual : Str} {params : Arguments} {body : List Stmt} {scope : Scope} {dV kV doc pm cdv ct oc : Value} {an od : Option Addr}
    {osl : Array (Option Value)} {N ps : List Str} {sp : Sp} (lk : K.lookup f = some ⟨oc, od, .func (PySem.W.fnOf name qual params body scope dV kV doc pm an cdv ct), osl⟩) (hcd : PySem.W.codeIn K cdv qual = true) (S : FnScope N ps scope)
    (len : ∀ vs H Q E, sp vs H Q E → vs.length = ps.length)
    (hbody : ∀ (A : Around) (outer : List Env) (s : Shared) (H : Hp) (vs : List V) (Q : VK) (E : XK), Room k (A.deeper (envOfC qual scope s.heap.objs.size f cdv)) → sp vs H Q E →
      ∃ t, PSs (cxOf CX P w K mg base N qual scope f cdv A outer s H E) body t ∧ t { nx := fun _ H' => Q .non H', rt := Q } (start N vs) H) :
    FnOk P w K mg base CX (k + 1) f (PySem.W.fnOf name qual params body scope dV kV doc pm an cdv ct) ps sp := by
  refine ⟨len, fun A outer s H args us vs Q E hr e0 hb r hsp => ?_⟩
  have hl := len _ _ _ _ hsp
  have KX : K.In s.heap := e0.mod.kin.keeps fun b o e => (e0.bs b o e).1
  have lim : s.heap.NoLimit := e0.mod.nolimit.keeps fun b o e => (e0.bs b o e).1
  have hkind : ∀ y ∈ ps.zip us, scope.names.lookup y.1 = some .local ∨ (scope.names.lookup y.1 = some .cell ∧ ((cellsFrom (s.heap.objs.size + 1) scope.names []).lookup y.1).isSome = true) := fun ⟨n, v⟩ hy => by
    rcases S.par n (List.of_mem_zip hy).1 with q | q
    · exact .inl q
    · exact .inr ⟨q, PySem.W.cellsFrom_some _ _ _ (.inl q)⟩
  refine codeAny_call_function hr.depth (KX _ _ lk) rfl S.co S.gen rfl (PySem.W.codeRec_of KX hcd) (hb _ _ _ _ ?_)
  refine wpAny_newFunctionEnv_cells S.kind hkind fun env he s1 x => ?_
  subst he
  refine ⟨lim.keeps x.toInCall.keep, codeAny_func ?_⟩
  obtain ⟨t, ht, hq⟩ := hbody A outer s H vs Q E (hr.deeper _) hsp
  have I : Inv (cxOf CX P w K mg base N qual scope f cdv A outer s H E) [] (start N vs) H s1 := inv_start S hr.hd e0 hl r x
  refine wpAny_mono (ht [] s1 (start N vs) H _ I hq) (fun fl s' hs => ?_) fun e s' hs => hs
  have fin : ∀ {σ' : St} {H' : Hp} {v : V} {u : Value}, Inv (cxOf CX P w K mg base N qual scope f cdv A outer s H E) [] σ' H' s' → RelV v u → Q v H' → CE outer P w H s Q u s' :=
    fun {σ' H' v u} J rv q => ⟨v, H', J.os, J.bare, J.base, J.hok, rv, q⟩
  cases fl with
  | ret u =>
    obtain ⟨v, σ', H', J, rv, q⟩ := hs
    exact fin J rv q
  | next =>
    obtain ⟨σ', H', J, q⟩ := hs
    exact fin (v := V.non) (u := Value.none) J rfl q
  | brk =>
    obtain ⟨_, _, _, q⟩ := hs
    exact False.elim q
  | cont =>
    obtain ⟨_, _, _, q⟩ := hs
    exact False.elim q
end L2

namespace L2
open PySem PySem.Spec PyProof.Rows
section
variable {X : Cx} {x : Str} {p pos : Pos} {e : Expr} {es : List Expr} {t : TA} {id T : String} {r : List V → Hp → VK → Prop}

def tCB (r : List V → Hp → VK → Prop) (t : TA) : TE := fun σ H Q => t σ H fun vs H1 => r vs H1 Q
/-- f(e, ..), f a built-in function -/
theorem pe_callB (hc : CallR X (.builtin id) r) (hg : Gl X x) (hm : X.mg x = none) (hv : bootBuiltins x = some (.builtin id)) (ha : PA X (e :: es) t) (hn : x ≠ "__name__" := by decide) (hdb : (x == ("__debug__" : Str)) = false := by decide)
    (he : starEach (e :: es) X.env = (false, eval e X.env) :: starEach es X.env := by rfl) (hpl : (backTo pos (starEach es X.env)).any (·.1) = false := by rfl) : PE X (.Call (.Name x p) (e :: es) [] pos) (tCB r t) := by
  intro pins s σ H Q I h
  refine wpAny_Call_Name_kw (ld_blt I hg hm hv ?_ hn hdb)
  exact PyProof.Rows.callWith_builtin1 (thn (ha pos pins s σ H _ I h) fun us s1 ⟨vs, H1, I1, r1, q1⟩ => hc pins s1 σ H1 vs us Q I1 r1 q1) he hpl
/-- T(e, ..), T a built-in type -/
theorem pe_callTy (hc : CallR X (.type T) r) (hg : Gl X x) (hm : X.mg x = none) (hv : bootBuiltins x = some (.type T)) (ha : PA X (e :: es) t) (hn : x ≠ "__name__" := by decide) (hdb : (x == ("__debug__" : Str)) = false := by decide)
    (he : starEach (e :: es) X.env = (false, eval e X.env) :: starEach es X.env := by rfl) (hpl : (backTo pos (starEach es X.env)).any (·.1) = false := by rfl) : PE X (.Call (.Name x p) (e :: es) [] pos) (tCB r t) := by
  intro pins s σ H Q I h
  refine wpAny_Call_Name_kw (ld_blt I hg hm hv ?_ hn hdb)
  exact PyProof.Rows.callWith_type1 (thn (ha pos pins s σ H _ I h) fun us s1 ⟨vs, H1, I1, r1, q1⟩ => hc pins s1 σ H1 vs us Q I1 r1 q1) he hpl
/-- T() -/
theorem pe_callTy0 (hc : CallR X (.type T) r) (hg : Gl X x) (hm : X.mg x = none) (hv : bootBuiltins x = some (.type T)) (hn : x ≠ "__name__" := by decide) (hdb : (x == ("__debug__" : Str)) = false := by decide) :
    PE X (.Call (.Name x p) [] [] pos) (tCB r tNil) := by
  intro pins s σ H Q I h
  refine wpAny_Call_Name_kw (ld_blt I hg hm hv ?_ hn hdb)
  exact PyProof.Rows.callWith_type0 (hc pins s σ H [] [] Q I .nil h)
end
end L2

namespace HT
open PySem PyProof.Rows

/-- t < u of tuples of ints -/
def lexLt : List Int → List Int → Bool
  | [], [] => false
  | [], _ :: _ => true
  | _ :: _, [] => false
  | x :: xs, y :: ys => if x = y then lexLt xs ys else decide (x < y)
theorem lexLt_cons (x y : Int) (xs ys : List Int) : lexLt (x :: xs) (y :: ys) = if x = y then lexLt xs ys else decide (x < y) := rfl
theorem lexLt_nil_nil : lexLt [] [] = false := rfl
theorem lexLt_nil_cons (y : Int) (ys : List Int) : lexLt [] (y :: ys) = true := rfl
theorem lexLt_cons_nil (x : Int) (xs : List Int) : lexLt (x :: xs) [] = false := rfl

theorem eqAt_int (A : Around) (s : Shared) (a : Int) (t : Tok) (c : Int) (u : Tok) : ∃ e, SeqAt.EqAt A s (.int a t) (.int c u) e ∧ (e = true ↔ a = c) :=
  ⟨(a == c), SeqAt.EqAt.int_int a t c u, by simp⟩
theorem rcLt_int (A : Around) (s : Shared) (a : Int) (t : Tok) (c : Int) (u : Tok) (prog : Program) (w : World) (E : Value → Shared → Prop) (Q : Value → Shared → Prop) (h : Q (.bool (decide (a < c))) s) :
    wpAny (model prog w) A (richCompare .Lt (.int a t) (.int c u)) Q E s :=
  (PyProof.Rows.lt_int h : wpAny (model prog w) A (compareOp .Lt (.int a t) (.int c u)) Q E s)

section
open PySem.SeqAt
open PySem.AutoSeq1 (wpAny_loadPart')
open PySem.MeetsSeq PySem.MeetsSeq2 PySem.MeetsSeq3

theorem tuple_lt_ints (l b : Addr) (items items2 : Array Value) (n n2 : Nat) (dd dd2 : Option Addr) (sl sl2 : Array (Option Value)) (ns ms : List Int) (hi : IntsAre items.toList ns) (hj : IntsAre items2.toList ms) :
    Meets (Builtin.«tuple.__lt__» ⟨[.ref l, .ref b], []⟩)
      (fun _ R s => s.heap.get? l = some { cls := .type "tuple", dict := dd, data := .seq items n, slots := sl } ∧ s.heap.get? b = some { cls := .type "tuple", dict := dd2, data := .seq items2 n2, slots := sl2 } ∧
        R (.ok (.ret (.bool (lexLt ns ms)))) s) :=
  .of_wp fun prog w A R s h => by
    obtain ⟨hp, g, d, tk, os⟩ := s; obtain ⟨hl, hb, h⟩ := h
    have f2 := AutoSeq1.sub_tuple_tuple
    have z1 : items.size = ns.length := by rw [← hi.length]; simp
    have z2 : items2.size = ms.length := by rw [← hj.length]; simp
    wp_walk using wpAny_loadPart' hl, wpAny_loadPart' hb, wpAny_forIn_list _ (fun rest b s' => b.1 = none ∧ s' = ⟨hp, g, d, tk, os⟩ ∧ ∃ (vs ws : List Value) (ns' ms' : List Int), rest = vs.zip ws ∧
      IntsAre vs ns' ∧ IntsAre ws ms' ∧ ns'.length + items2.size = ms'.length + items.size ∧ R (.ok (.ret (.bool (lexLt ns' ms')))) ⟨hp, g, d, tk, os⟩) _
    case turn =>
      rintro ⟨y, x⟩ rest b s' ⟨hb', rfl, vs, ws, ns', ms', hz, hvi, hwi, hlen, hR⟩
      cases hvi with
      | nil => rw [List.zip_nil_left] at hz; cases hz
      | cons a t hvi' =>
        cases hwi with
        | nil => rw [List.zip_nil_right] at hz; cases hz
        | cons c u hwi' =>
          rw [List.zip_cons_cons] at hz
          injection hz with hyx hrest
          injection hyx with hy hx
          subst hy hx
          rw [lexLt_cons] at hR
          simp only [List.length_cons] at hlen
          obtain ⟨e, he, hiff⟩ := eqAt_int A.in1 ⟨hp, g, d, tk, os⟩ a t c u
          refine wpAny_bind (he prog w _ _ ?_)
          cases e with
          | true =>
            rw [if_pos (hiff.mp rfl)] at hR
            wp_walk
            exact ⟨rfl, rfl, _, _, _, _, hrest, hvi', hwi', by omega, hR⟩
          | false =>
            rw [if_neg (fun q => absurd (hiff.mpr q) Bool.false_ne_true)] at hR
            have hri := rcLt_int A.in1 ⟨hp, g, d, tk, os⟩ a t c u prog w
            wp_walk using hri
            exact ⟨_, rfl, by simpa using hR⟩
    case fin =>
      rintro ⟨b1, b2⟩ s' ⟨hb', rfl, vs, ws, ns', ms', hz, hvi, hwi, hlen, hR⟩
      simp only at hb'
      subst hb'
      have hv : lexLt ns' ms' = decide (items.size < items2.size) := by
        cases hvi with
        | nil =>
          cases hwi with
          | nil =>
            simp only [List.length_nil] at hlen
            rw [lexLt_nil_nil]
            exact (decide_eq_false (by omega)).symm
          | cons c u hw =>
            simp only [List.length_nil, List.length_cons] at hlen
            rw [lexLt_nil_cons]
            exact (decide_eq_true (by omega)).symm
        | cons a t hv =>
          cases hwi with
          | nil =>
            simp only [List.length_nil, List.length_cons] at hlen
            rw [lexLt_cons_nil]
            exact (decide_eq_false (by omega)).symm
          | cons c u hw =>
            rw [List.zip_cons_cons] at hz
            cases hz
      rw [hv] at hR
      wp_walk
      exact ⟨_, rfl, by simpa [Builtin.Tuple.tupleCompareSizes] using hR⟩
    case h =>
      exact ⟨rfl, rfl, items.toList, items2.toList, ns, ms, rfl, hi, hj, by omega, h⟩
end

section
variable {prog : Program} {w : World} {A : Around} {E : Value → Shared → Prop} {s : Shared}

theorem lt_tupInts {l b : Addr} {items items2 : Array Value} {ns ms : List Int} {Q : Value → Shared → Prop} (hl : IsTup s.heap l items) (hb : IsTup s.heap b items2) (hi : IntsAre items.toList ns) (hj : IntsAre items2.toList ms)
    (hu : A.units < cLine) (h : Q (.bool (lexLt ns ms)) s) : wpAny (model prog w) A (compareOp .Lt (.ref l) (.ref b)) Q E s := by
  obtain ⟨⟨cls, dd, data, sl⟩, ho, hc, n, hd⟩ := id hl
  obtain ⟨⟨cls2, dd2, data2, sl2⟩, ho2, hc2, n2, hd2⟩ := id hb
  simp only at hc hd hc2 hd2
  subst hc hd hc2 hd2
  exact richCompare_meets_room (op := .Lt) ⟨_, ho, rfl⟩ ⟨_, ho2, rfl⟩ PySem.F.slot_tuple_lt PySem.F.entry_tuple_lt (PySem.F.args_tuple_lt_2 _ _) (tuple_lt_ints l b items items2 n n2 dd dd2 sl sl2 ns ms hi hj)
    ⟨ho, ho2, show Value.bool (lexLt ns ms) ≠ Value.notImplemented ∧ Q (.bool (lexLt ns ms)) s from ⟨(fun x => nomatch x), h⟩⟩ hu

/-- t + u, t not empty -/
theorem cat_tup {t b : Addr} {vs ws : List Value} {Q : Value → Shared → Prop} (ht : IsTup s.heap t vs.toArray) (hb : IsTup s.heap b ws.toArray) (hv : vs ≠ [])
    (h1 : ws = [] → Q (.ref t) s) (h2 : ws ≠ [] → Q (.ref s.heap.objs.size) { s with heap := s.heap.push { cls := .type "tuple", data := .seq (vs ++ ws).toArray } })
    (hsz : vs.length + ws.length ≤ sizeLine) : wpAny (model prog w) A (binaryOp .Add (.ref t) (.ref b)) Q E s := by
  obtain ⟨⟨cls, dd, data, sl⟩, ho, hc, n, hd⟩ := id ht
  obtain ⟨⟨cls2, dd2, data2, sl2⟩, ho2, hc2, n2, hd2⟩ := id hb
  simp only at hc hd hc2 hd2
  subst hc hd hc2 hd2
  have e : vs.toArray ++ ws.toArray = (vs ++ ws).toArray := by simp
  by_cases hw : ws = []
  · exact concat_meets ⟨_, ho, rfl⟩ ⟨_, ho2, rfl⟩ noFill_tuple_add seq_tuple_add PySem.F.slot_tuple_add PySem.F.entry_tuple_add (PySem.F.args_tuple_add_2 _ _)
      (tuple_addW1 t b vs.toArray ws.toArray n n2 dd dd2 sl sl2 (by simpa using hv) (by simp [hw])) ⟨ho, ho2, h1 hw⟩
  · refine concat_meets ⟨_, ho, rfl⟩ ⟨_, ho2, rfl⟩ noFill_tuple_add seq_tuple_add PySem.F.slot_tuple_add PySem.F.entry_tuple_add (PySem.F.args_tuple_add_2 _ _)
      (tuple_addW2 t b vs.toArray ws.toArray n n2 dd dd2 sl sl2 (by simpa using hv) (by simpa using hw) (by rw [List.size_toArray, List.size_toArray]; exact hsz)) ⟨ho, ho2, ?_⟩
    rw [e]
    exact h2 hw

/-! ### t[a:b], not the whole -/
/-- a slice's bound as a place among n (d where it is left out) -/
def sIx (n d : Nat) : Option Int → Nat
  | none => d
  | some v => if v < 0 then (v + (n : Int)).toNat else min v.toNat n
theorem sIx_none (n d : Nat) : sIx n d none = d := rfl
theorem sIx_nat (n d k : Nat) : sIx n d (some (k : Int)) = min k n := by
  show (if (k : Int) < 0 then ((k : Int) + (n : Int)).toNat else min (k : Int).toNat n) = min k n
  rw [if_neg (by omega), Int.toNat_natCast]
theorem sIx_le (n d : Nat) (hd : d ≤ n) (o : Option Int) : sIx n d o ≤ n := by
  cases o with
  | none => exact hd
  | some v =>
    show (if v < 0 then (v + (n : Int)).toNat else min v.toNat n) ≤ n
    by_cases hv : v < 0
    · rw [if_pos hv]; omega
    · rw [if_neg hv]; exact Nat.min_le_right _ _
theorem clip_eq (v : Int) (n d : Nat) : (if v < 0 then max (v + (n : Int)) 0 else min v (n : Int)) = ((sIx n d (some v) : Nat) : Int) := by
  show (if v < 0 then max (v + (n : Int)) 0 else min v (n : Int)) = (((if v < 0 then (v + (n : Int)).toNat else min v.toNat n) : Nat) : Int)
  by_cases hv : v < 0
  · simp only [if_pos hv]; omega
  · simp only [if_neg hv]; omega
theorem adjust_gen (lo hi : Option Int) (n : Nat) : Builtin.Slice.sliceAdjust lo hi 1 (n : Int) = (((sIx n 0 lo : Nat) : Int), ((sIx n n hi : Nat) : Int)) := by
  have h1 : ¬ ((1 : Int) < 0) := by omega
  unfold Builtin.Slice.sliceAdjust
  simp only [h1, if_false]
  refine Prod.ext ?_ ?_
  · cases lo with
    | none => rfl
    | some v => exact clip_eq v n 0
  · cases hi with
    | none => rfl
    | some v => exact clip_eq v n n
theorem places_gen (i j : Nat) : Builtin.Slice.slicePlaces (i : Int) (j : Int) 1 = j - i := by
  unfold Builtin.Slice.slicePlaces
  have h1 : (1 : Int) > 0 := by omega
  simp only [h1, if_true, Int.ediv_one]
  split <;> omega
theorem slicePart_ {v : Value} {o : Option Int} {Q : Option Int → Shared → Prop} (p : IsPart v o) (h : Q o s) : wpAny (model prog w) A (Builtin.Slice.slicePartIndex v) Q E s := by
  cases p with
  | none => exact slicePart_none h
  | int i t => exact slicePart_int h
theorem sliceApplied_gen {sl : Addr} {vl vu : Value} {lo hi : Option Int} {n : Nat} {Q : Int × Int × Nat → Shared → Prop} (hs : s.heap.IsSliceOf sl vl vu .none) (pl : IsPart vl lo) (pu : IsPart vu hi)
    (h : Q (((sIx n 0 lo : Nat) : Int), 1, sIx n n hi - sIx n 0 lo) s) : wpAny (model prog w) A (Builtin.Slice.sliceApplied (.ref sl) (pure (n : Int))) Q E s := by
  obtain ⟨os, hos, hcs, hds⟩ := id hs
  unfold Builtin.Slice.sliceApplied Builtin.Slice.sliceFields
  refine wpAny_bind (wpAny_bind (wpAny_field hos hds (x := vl) rfl (wpAny_bind (wpAny_field hos hds (x := vu) rfl (wpAny_bind (wpAny_field hos hds (x := .none) rfl (wpAny_pure ?_)))))))
  refine wpAny_bind (slicePart_none ?_)
  show wpAny _ _ (if ((1 : Int) == 0) = true then _ else _) _ _ s
  rw [if_neg (by decide)]
  refine wpAny_bind (slicePart_ pl (wpAny_bind (slicePart_ pu (wpAny_bind (wpAny_pure ?_)))))
  show wpAny _ _ (match Builtin.Slice.sliceAdjust lo hi 1 (n : Int) with | (lo, hi) => pure (lo, (1 : Int), Builtin.Slice.slicePlaces lo hi 1)) _ _ s
  rw [adjust_gen lo hi n]
  show wpAny _ _ (pure (((sIx n 0 lo : Nat) : Int), (1 : Int), Builtin.Slice.slicePlaces ((sIx n 0 lo : Nat) : Int) ((sIx n n hi : Nat) : Int) 1)) _ _ s
  rw [places_gen]
  exact wpAny_pure h
theorem pick_gen (xs : Array Value) (i k : Nat) : ((List.range k).filterMap fun (m : Nat) => xs[((i : Int) + (m : Int) * 1).toNat]?).toArray = ((xs.toList.drop i).take k).toArray := by
  have e : (fun (m : Nat) => xs[((i : Int) + (m : Int) * 1).toNat]?) = fun m => xs[i + m]? := by
    funext m
    have : ((i : Int) + (m : Int) * 1).toNat = i + m := by omega
    rw [this]
  rw [e]
  have := pick_run xs i k
  rw [List.filterMap_map] at this
  have e2 : ((fun x => xs[x]?) ∘ fun x => i + x) = fun m => xs[i + m]? := rfl
  rw [e2] at this
  rw [this]

theorem getItem_tuple_cut {t sl : Addr} {items : Array Value} {vl vu : Value} {lo hi : Option Int} {Q : Value → Shared → Prop} (ht : IsTup s.heap t items) (hs : s.heap.IsSliceOf sl vl vu .none) (pl : IsPart vl lo) (pu : IsPart vu hi)
    (hw : ¬ (sIx items.size 0 lo = 0 ∧ sIx items.size items.size hi = items.size))
    (h : Q (.ref s.heap.objs.size) { s with heap := s.heap.push { cls := .type "tuple", data := .seq ((items.toList.drop (sIx items.size 0 lo)).take (sIx items.size items.size hi - sIx items.size 0 lo)).toArray } })
    (hsz : items.size ≤ sizeLine) : wpAny (model prog w) A (getItem (.ref t) (.ref sl)) Q E s := by
  have htake : sizeOk (.seq ((items.toList.drop (sIx items.size 0 lo)).take (sIx items.size items.size hi - sIx items.size 0 lo)).toArray) := by
    show ((items.toList.drop (sIx items.size 0 lo)).take (sIx items.size items.size hi - sIx items.size 0 lo)).toArray.size ≤ sizeLine
    rw [List.size_toArray, List.length_take, List.length_drop, Array.length_toList]
    omega
  have hj : sIx items.size items.size hi ≤ items.size := sIx_le _ _ (Nat.le_refl _) hi
  obtain ⟨os, hos, hcs, hds⟩ := id hs
  have hTs : s.TypeIs (.ref sl) "slice" := ⟨os, hos, hcs⟩
  unfold getItem
  try with_reducible refine wpAny_holding ?_
  first | refine wpAny_bind (wpAny_pure ?_) | skip
  refine wpAny_bind (wpAny_sequenceKey ht.typeIs (by decide) ?_)
  refine wpAny_bind (wpAny_callSpecial?_slot (name := Str.ofString "__getitem__") ht.typeIs PyProof.Rows.slot_tuple_getitem
    (wpAny_call_entry PyProof.Rows.slot_tuple_getitem ht.typeIs entry_tuple_getitem ?_ (args_tuple_getitem _ _)))
  show wpAny _ _ (Builtin.Tuple.tupleItemsOf (.ref t) >>= _) _ _ s
  refine wpAny_bind (tupleItemsOf_ ht ?_)
  refine wpAny_bind (wpAny_typeOf hTs ?_)
  rw [if_pos (by decide)]
  refine wpAny_bind (sliceApplied_gen hs pl pu ?_)
  have hno : ¬ ((((sIx items.size 0 lo : Nat) : Int) == 0 && (1 : Int) == 1 && (sIx items.size items.size hi - sIx items.size 0 lo) == items.size) = true) := by
    intro q
    rw [Bool.and_eq_true, Bool.and_eq_true] at q
    have q1 : ((sIx items.size 0 lo : Nat) : Int) = 0 := eq_of_beq q.1.1
    have q2 : sIx items.size items.size hi - sIx items.size 0 lo = items.size := eq_of_beq q.2
    exact hw ⟨by omega, by omega⟩
  show wpAny _ _ (if (((sIx items.size 0 lo : Nat) : Int) == 0 && (1 : Int) == 1 && (sIx items.size items.size hi - sIx items.size 0 lo) == items.size) = true then _ else _) _ _ s
  rw [if_neg hno, pick_gen]
  first
    | exact wpAny_bind (m := Builtin.Tuple.tupleExact _) (wpAny_newObj_type (wpAny_pure ⟨_, rfl, wpAny_pure h⟩) htake)
    | exact wpAny_bind (m := Builtin.Tuple.tupleExact _) (wpAny_newObj_type (wpAny_bind (wpAny_pure (wpAny_pure ⟨_, rfl, wpAny_pure h⟩))) htake)
    | exact wpAny_bind (wpAny_bind (m := Builtin.Tuple.tupleExact _) (wpAny_newObj_type (wpAny_pure (wpAny_pure ⟨_, rfl, wpAny_pure h⟩)) htake))
    | exact wpAny_bind (wpAny_bind (m := Builtin.Tuple.tupleExact _) (wpAny_newObj_type (wpAny_pure ⟨_, rfl, wpAny_pure h⟩) htake))
end
end HT

namespace L2
open PySem PySem.Spec PyProof.Rows

/-! ### the parts of a slice -/
abbrev TO := St → Hp → (Option Int → Hp → Prop) → Prop
/-- a slice's part (left out, or an int) -/
def PO (X : Cx) (e : Option Expr) (t : TO) : Prop :=
  ∀ (pins : List (Addr × Obj)) (s : Shared) (σ : St) (H : Hp) (Q : Option Int → Hp → Prop), Inv X pins σ H s → t σ H Q →
    wpAny (model X.prog X.w) X.A (evalPart e X.env) (fun u s' => ∃ o H', Inv X pins σ H' s' ∧ IsPart u o ∧ Q o H') X.xe s
def tNoPart : TO := fun _ H Q => Q none H
def tPart (t : TE) : TO := fun σ H Q => t σ H fun x H1 => ∃ i, x = .int i ∧ Q (some i) H1

theorem intsAre_of {ns : List Int} : ∀ {us : List Value}, Vals (ns.map V.int) us → IntsAre us ns := by
  induction ns with
  | nil => intro us r; rw [List.map_nil] at r; cases r; exact .nil
  | cons n ns ih =>
    intro us r
    rw [List.map_cons] at r
    cases r with
    | cons r1 r2 =>
      obtain ⟨t, e⟩ := r1
      subst e
      exact .cons n t (ih r2)

section
variable {X : Cx} {e : Expr} {te : TE} {lo hi : Option Expr} {tl th : TO} {pos p2 : Pos}

theorem po_none : PO X none tNoPart := by
  intro pins s σ H Q I h
  rw [evalPart_none]
  exact wpAny_pure ⟨none, H, I, .none, h⟩
theorem po_some (h : PE X e te) : PO X (some e) (tPart te) := by
  intro pins s σ H Q I hw
  rw [evalPart_some]
  refine thn (h pins s σ H _ I hw) fun u s1 ⟨x, H1, I1, r1, q1⟩ => ?_
  obtain ⟨i, rfl, q⟩ := q1
  obtain ⟨t, rfl⟩ := r1
  exact ⟨some i, H1, I1, .int i t, q⟩

/-- what a slice of a value is, by values: the slice object stands at sl -/
def SlR (X : Cx) (r : V → Option Int → Option Int → Hp → VK → Prop) : Prop :=
  ∀ (pins : List (Addr × Obj)) (s : Shared) (σ : St) (H : Hp) (x : V) (v vl vu : Value) (lo hi : Option Int) (sl : Addr) (Q : VK), Inv X pins σ H s → RelV x v → s.heap.IsSliceOf sl vl vu .none → IsPart vl lo → IsPart vu hi → r x lo hi H Q →
    ∃ T id, typeLookup (.type T) "__getitem__" = pure (some (.builtin id)) ∧ s.TypeIs v T ∧ wpAny (model X.prog X.w) X.A (getItem v (.ref sl)) (EP X pins σ Q) X.xe s
theorem SlR.or {r r' : V → Option Int → Option Int → Hp → VK → Prop} (h : SlR X r) (h' : SlR X r') : SlR X (fun x lo hi H Q => r x lo hi H Q ∨ r' x lo hi H Q) := by
  intro pins s σ H x v vl vu lo hi sl Q I rx hs pl pu q
  rcases q with q | q
  · exact h pins s σ H x v vl vu lo hi sl Q I rx hs pl pu q
  · exact h' pins s σ H x v vl vu lo hi sl Q I rx hs pl pu q
def tSl (r : V → Option Int → Option Int → Hp → VK → Prop) (te : TE) (tl th : TO) : TE := fun σ H Q => te σ H fun x H1 => tl σ H1 fun l H2 => th σ H2 fun u H3 => r x l u H3 Q
/-- a[lo:hi], any a -/
theorem pe_slice {r : V → Option Int → Option Int → Hp → VK → Prop} (hr : SlR X r) (he : PE X e te) (hl : PO X lo tl) (hu : PO X hi th) : PE X (.Subscript e (.Slice lo hi none p2) pos) (tSl r te tl th) := by
  intro pins s σ H Q I h
  refine Subscript_ (thn (he pins s σ H _ I h) fun v s1 ⟨x, H1, I1, r1, q1⟩ => ?_)
  refine wpAny_Slice (thn (hl pins s1 σ H1 _ I1 q1) fun vl s2 ⟨l, H2, I2, pl, q2⟩ => thn (hu pins s2 σ H2 _ I2 q2) fun vu s3 ⟨u, H3, I3, pu, q3⟩ => ?_)
  rw [evalPart_none]
  refine wpAny_pure ?_
  have I4 : Inv X pins σ H3 { s3 with heap := s3.heap.push { cls := .type "slice", data := .fields #[vl, vu, .none] } } := I3.kept (t' := s3.toks) fun b ob q => Heap.get?_push_of_some _ q
  obtain ⟨T, id, hT, ht, hg⟩ := hr pins { s3 with heap := s3.heap.push { cls := .type "slice", data := .fields #[vl, vu, .none] } } σ H3 x v vl vu l u s3.heap.objs.size Q I4 r1 (Heap.IsSliceOf.new ..) pl pu q3
  show wpAny (model X.prog X.w) X.A (subscriptTail e (.Slice lo hi none p2) v (.ref s3.heap.objs.size)) (EP X pins σ Q) X.xe { s3 with heap := s3.heap.push { cls := .type "slice", data := .fields #[vl, vu, .none] } }
  exact tail_any (ops := [.ref s3.heap.objs.size, v]) ht hT hg (by with_unfolding_all rfl)

/-- the items of xs[lo:hi] -/
def cutV (xs : List V) (lo hi : Option Int) : List V := (xs.drop (HT.sIx xs.length 0 lo)).take (HT.sIx xs.length xs.length hi - HT.sIx xs.length 0 lo)
theorem cutV_length (xs : List V) (lo hi : Option Int) : (cutV xs lo hi).length ≤ xs.length := by
  unfold cutV
  rw [List.length_take, List.length_drop]
  omega
/-- t[lo:hi], not the whole of it (the whole would be t itself) -/
def rSlT (K : PySem.W.Frag) : V → Option Int → Option Int → Hp → VK → Prop := fun x lo hi H Q => ∃ a xs, x = .ref a ∧ SqT K H a xs ∧
  ¬ (HT.sIx xs.length 0 lo = 0 ∧ HT.sIx xs.length xs.length hi = xs.length) ∧ ∀ p, H p = none → Q (.ref p) (upd H p (.tup (cutV xs lo hi)))
theorem sl_tup : SlR X (rSlT X.K) := by
  intro pins s σ H x v vl vu lo hi sl Q I rx hs pl pu h
  obtain ⟨a, xs, rfl, hx, hw, q⟩ := h
  cases rx
  obtain ⟨its, r, ht, hz⟩ := I.tuple hx
  have hlen : its.toArray.size = xs.length := by rw [List.size_toArray]; exact r.length.symm
  refine ⟨"tuple", _, PyProof.Rows.slot_tuple_getitem.lookup, ht.typeIs, ?_⟩
  refine HT.getItem_tuple_cut ht hs pl pu (by rw [hlen]; exact hw) ?_ (by rw [hlen]; exact hz)
  rw [hlen]
  refine ⟨.ref s.heap.objs.size, _, I.laid (t' := s.toks) (o := .tup (cutV xs lo hi)) (fun b ob q => Heap.get?_push_of_some _ q) (Nat.le_refl _) ?_, rfl, q _ (I.hok.fresh (Nat.le_refl _))⟩
  exact ⟨Nat.le_trans (cutV_length xs lo hi) hz, _, (r.drop (HT.sIx xs.length 0 lo)).take (HT.sIx xs.length xs.length hi - HT.sIx xs.length 0 lo), IsTup.new _ _⟩

/-! ### t < u, t + u -/
def rLtT (K : PySem.W.Frag) : R2 := fun x y H Q => ∃ a b ns ms, x = .ref a ∧ y = .ref b ∧ SqT K H a (ns.map V.int) ∧ SqT K H b (ms.map V.int) ∧ Q (.bl (HT.lexLt ns ms)) H
theorem op_ltT (hu : X.A.units < cLine) : OpR X (compareOp .Lt) (rLtT X.K) := by
  intro pins s σ H x y v u Q I rx ry h
  obtain ⟨a, b, ns, ms, rfl, rfl, ha, hb, q⟩ := h
  cases rx
  cases ry
  obtain ⟨its, r1, p1, _⟩ := I.tuple ha
  obtain ⟨its2, r2, p2, _⟩ := I.tuple hb
  have i1 : IntsAre its.toArray.toList ns := intsAre_of r1
  have i2 : IntsAre its2.toArray.toList ms := intsAre_of r2
  exact HT.lt_tupInts p1 p2 i1 i2 hu ⟨.bl (HT.lexLt ns ms), H, I, rfl, q⟩
/-- t + u, t not empty: u empty gives t itself -/
def rCatT (K : PySem.W.Frag) : R2 := fun x y H Q => ∃ a b xs ys, x = .ref a ∧ y = .ref b ∧ SqT K H a xs ∧ SqT K H b ys ∧ xs ≠ [] ∧ xs.length + ys.length ≤ sizeLine ∧
  (ys = [] → Q (.ref a) H) ∧ (ys ≠ [] → ∀ p, H p = none → Q (.ref p) (upd H p (.tup (xs ++ ys))))
theorem Vals.nil_iff {xs : List V} {us : List Value} (r : Vals xs us) : us = [] ↔ xs = [] := by
  cases r with
  | nil => simp
  | cons _ _ => simp
theorem op_catT : OpR X (binaryOp .Add) (rCatT X.K) := by
  intro pins s σ H x y v u Q I rx ry h
  obtain ⟨a, b, xs, ys, rfl, rfl, ha, hb, hx, hz, q1, q2⟩ := h
  cases rx
  cases ry
  obtain ⟨its, r1, p1, _⟩ := I.tuple ha
  obtain ⟨its2, r2, p2, _⟩ := I.tuple hb
  refine HT.cat_tup p1 p2 (fun z => hx (r1.nil_iff.mp z)) (fun z => ⟨.ref a, H, I, rfl, q1 (r2.nil_iff.mp z)⟩) (fun z => ?_) (by rw [← r1.length, ← r2.length]; exact hz)
  refine ⟨.ref s.heap.objs.size, _, I.laid (t' := s.toks) (o := .tup (xs ++ ys)) (fun b ob q => Heap.get?_push_of_some _ q) (Nat.le_refl _) ?_, rfl, q2 (fun w => z (r2.nil_iff.mpr w)) _ (I.hok.fresh (Nat.le_refl _))⟩
  exact ⟨by rw [List.length_append]; exact hz, _, r1.append r2, IsTup.new _ _⟩
/-- tuple(t) -/
theorem call_tupleT : CallR X (.type "tuple") (fun xs H Q => ∃ a ys, xs = [.ref a] ∧ SqT X.K H a ys ∧ Q (.ref a) H) := by
  intro pins s σ H xs us Q I r h
  obtain ⟨a, ys, rfl, ha, q⟩ := h
  obtain ⟨u, rfl, ru⟩ := vals1 r
  cases ru
  obtain ⟨its, _, p1, _⟩ := I.tuple ha
  exact call_tuple_same (items := its.toArray) p1 ⟨.ref a, H, I, rfl, q⟩
end
end L2

namespace L2
open PySem PySem.Spec PyProof.Rows

/-! ### places -/
/-- the place that an index of any sign means -/
def ixN (n : Nat) (i : Int) : Option Nat := if 0 ≤ i then (if i < n then some i.toNat else none) else if -(n : Int) ≤ i then some (i + n).toNat else none
def atI {α : Type} (xs : List α) (i : Int) : Option α := (ixN xs.length i).bind fun j => xs[j]?
theorem ixN_seq {n : Nat} {i : Int} {j : Nat} (h : ixN n i = some j) : seqIndex? i n = some j ∧ j < n ∧ -(n : Int) ≤ i ∧ i < n := by
  unfold ixN at h
  by_cases h0 : 0 ≤ i
  · rw [if_pos h0] at h
    by_cases h1 : i < n
    · rw [if_pos h1] at h
      have e : i.toNat = j := Option.some.inj h
      exact ⟨by rw [seqIndex_of h0 h1, e], by omega, by omega, h1⟩
    · rw [if_neg h1] at h; cases h
  · rw [if_neg h0] at h
    by_cases h1 : -(n : Int) ≤ i
    · rw [if_pos h1] at h
      have e : (i + n).toNat = j := Option.some.inj h
      exact ⟨by rw [seqIndex_neg (by omega) h1, e], by omega, h1, by omega⟩
    · rw [if_neg h1] at h; cases h
theorem atI_get {α : Type} {xs : List α} {i : Int} {v : α} (h : atI xs i = some v) : ∃ j, seqIndex? i xs.length = some j ∧ xs[j]? = some v ∧ j < xs.length ∧ -(xs.length : Int) ≤ i ∧ i < xs.length := by
  unfold atI at h
  cases e : ixN xs.length i with
  | none => rw [e] at h; cases h
  | some j =>
    rw [e] at h
    obtain ⟨h1, h2, h3, h4⟩ := ixN_seq e
    exact ⟨j, h1, h, h2, h3, h4⟩
theorem atI_nat {α : Type} {xs : List α} {j : Nat} {v : α} (h : xs[j]? = some v) : atI xs (j : Int) = some v := by
  have hj : j < xs.length := (List.getElem?_eq_some_iff.mp h).1
  have e : ixN xs.length (j : Int) = some j := by
    unfold ixN
    rw [if_pos (by omega), if_pos (by omega)]; simp
  unfold atI; rw [e]; exact h
theorem atI_last {α : Type} (xs : List α) (v : α) : atI (xs ++ [v]) (-1) = some v := by
  have hl : (xs ++ [v]).length = xs.length + 1 := by simp
  have e : ixN (xs ++ [v]).length (-1) = some xs.length := by
    unfold ixN
    rw [hl, if_neg (by decide), if_pos (by omega)]
    congr 1
    omega
  unfold atI
  rw [e]
  show (xs ++ [v])[xs.length]? = some v
  simp

/-! ### what may be subscripted -/
/-- what stands as an index of a plain subscript -/
def PlainIx (b : Expr) : Prop := ∀ o i, subscripted b false o i = operate [o, i] (getItem o i)
/-- a subscript by values -/
def IxR (X : Cx) (r : R2) : Prop :=
  ∀ (value slice : Expr) (pins : List (Addr × Obj)) (s : Shared) (σ : St) (H : Hp) (x y : V) (v u : Value) (Q : VK), Inv X pins σ H s → RelV x v → RelV y u → r x y H Q →
    subscripted slice false v u = operate [v, u] (getItem v u) → wpAny (model X.prog X.w) X.A (subscriptTail value slice v u) (EP X pins σ Q) X.xe s
/-- a call of a builtin's method by values: the receiver, the arguments -/
def MtR (X : Cx) (id : String) (r : V → List V → Hp → VK → Prop) : Prop :=
  ∀ (pins : List (Addr × Obj)) (s : Shared) (σ : St) (H : Hp) (x : V) (xs : List V) (v : Value) (us : List Value) (Q : VK), Inv X pins σ H s → RelV x v → Vals xs us → r x xs H Q →
    wpAny (model X.prog X.w) X.A (call (.builtin id) (v :: us)) (EP X pins σ Q) X.xe s
section
variable {X : Cx} {a b : Expr} {ta tb : TE} {pos : Pos}
theorem IxR.or {r r' : R2} (h : IxR X r) (h' : IxR X r') : IxR X (fun x y H Q => r x y H Q ∨ r' x y H Q) := by
  intro value slice pins s σ H x y v u Q I rx ry q hs
  rcases q with q | q
  · exact h value slice pins s σ H x y v u Q I rx ry q hs
  · exact h' value slice pins s σ H x y v u Q I rx ry q hs
theorem MtR.or {id : String} {r r' : V → List V → Hp → VK → Prop} (h : MtR X id r) (h' : MtR X id r') : MtR X id (fun x xs H Q => r x xs H Q ∨ r' x xs H Q) := by
  intro pins s σ H x xs v us Q I rx rs q
  rcases q with q | q
  · exact h pins s σ H x xs v us Q I rx rs q
  · exact h' pins s σ H x xs v us Q I rx rs q
/-- a[b] -/
theorem pe_ix {r : R2} (hr : IxR X r) (ha : PE X a ta) (hb : PE X b tb) (hs : PlainIx b) : PE X (.Subscript a b pos) (tOp r ta tb) := by
  intro pins s σ H Q I h
  exact Subscript_ (binT ha hb I h fun v u s2 x y H2 I2 rx ry q => hr a b pins s2 σ H2 x y v u Q I2 rx ry q (hs _ _))

def rIxL (K : PySem.W.Frag) : R2 := fun x y H Q => ∃ p xs i v, x = .ref p ∧ y = .int i ∧ SqL K H p xs ∧ atI xs i = some v ∧ Q v H
def rIxT (K : PySem.W.Frag) : R2 := fun x y H Q => ∃ p xs i v, x = .ref p ∧ y = .int i ∧ SqT K H p xs ∧ atI xs i = some v ∧ Q v H
def rIxS : R2 := fun x y H Q => ∃ z i c, x = .str z ∧ y = .int i ∧ z.length ≤ sizeLine ∧ atI z.cps.toList i = some c ∧ Q (.str ⟨#[c]⟩) H
theorem ix_list : IxR X (rIxL X.K) := by
  intro value slice pins s σ H x y v u Q I rx ry h hs
  obtain ⟨p, xs, i, z, rfl, rfl, hq, he, q⟩ := h
  cases rx
  obtain ⟨t, rfl⟩ := ry
  obtain ⟨its, r, pl, hz⟩ := I.list hq
  obtain ⟨j, h1, h2, h3, h4, h5⟩ := atI_get he
  obtain ⟨w, ew, rw'⟩ := r.get h2
  have hl := r.length
  have hn := line63
  have fin : EP X pins σ Q w s := ⟨z, H, I, rw', q⟩
  by_cases h0 : 0 ≤ i
  · have hj : i.toNat = j := by
      rw [seqIndex_of h0 h5] at h1
      exact Option.some.inj h1
    exact item_listR pl.isList h0 (by omega) (by rw [hj]; simpa using ew) fin hs
  · have hj : (i + (its.toArray.size : Int)).toNat = j := by
      rw [seqIndex_neg (by omega) h4] at h1
      rw [List.size_toArray, ← hl]
      exact Option.some.inj h1
    exact subscriptTail_builtinR (x := w) pl.isList.typeIs slot_list_getitem.lookup
      (wpAny_getItem_list_neg (Q := fun r s' => r = w ∧ EP X pins σ Q r s') pl.isList (by omega) (by rw [List.size_toArray] <;> omega) (by omega) (by rw [hj]; simpa using ew) ⟨rfl, fin⟩) hs
theorem ix_tup : IxR X (rIxT X.K) := by
  intro value slice pins s σ H x y v u Q I rx ry h hs
  obtain ⟨p, xs, i, z, rfl, rfl, hq, he, q⟩ := h
  cases rx
  obtain ⟨t, rfl⟩ := ry
  obtain ⟨its, r, pl, hz⟩ := I.tuple hq
  obtain ⟨j, h1, h2, h3, h4, h5⟩ := atI_get he
  obtain ⟨w, ew, rw'⟩ := r.get h2
  have hl := r.length
  have hn := line63
  have fin : EP X pins σ Q w s := ⟨z, H, I, rw', q⟩
  exact subscriptTail_builtinR (x := w) pl.typeIs slot_tuple_getitem.lookup
    (getItem_tuple (j := j) (Q := fun r s' => r = w ∧ EP X pins σ Q r s') pl (by omega) (by omega) (by rw [List.size_toArray, ← hl]; exact h1) (by simpa using ew) ⟨rfl, fin⟩) hs
theorem ix_str : IxR X rIxS := by
  intro value slice pins s σ H x y v u Q I rx ry h hs
  obtain ⟨z, i, c, rfl, rfl, hz, he, q⟩ := h
  obtain ⟨t, rfl⟩ := rx
  obtain ⟨t', rfl⟩ := ry
  obtain ⟨j, h1, h2, h3, h4, h5⟩ := atI_get he
  have hl : z.cps.toList.length = z.length := by simp [Str.length]
  rw [hl] at h1 h4 h5
  have hn := line63
  exact tail_any (typeIs_str s z t) slot_str_getitem.lookup (getItem_str (c := c) (by
    have e1 : decide (i < -(2 ^ 63 : Int)) = false := decide_eq_false (by omega)
    have e2 : decide (i ≥ 2 ^ 63) = false := decide_eq_false (by omega)
    rw [e1, e2, Bool.or_false]) (by rw [h1]; simpa using h2) ⟨.str ⟨#[c]⟩, H, I.tok _, ⟨_, rfl⟩, q⟩) hs
/-- list, tuple or str -/
def rIx (K : PySem.W.Frag) : R2 := fun x y H Q => rIxL K x y H Q ∨ rIxT K x y H Q ∨ rIxS x y H Q
theorem ix_seq : IxR X (rIx X.K) := ix_list.or (ix_tup.or ix_str)

/-! ### xs[i] = v, any sign -/
/-- the list's object behind a store -/
theorem mapSeq_set (its : List Value) (n j : Nat) (u : Value) : Obj.mapSeq (·.setIfInBounds j u) { cls := .type "list", data := .seq its.toArray n } = { cls := .type "list", data := .seq (its.set j u).toArray n } := by
  simp [Obj.mapSeq]
theorem Inv.lst {pins : List (Addr × Obj)} {σ : St} {H : Hp} {s : Shared} {p : Addr} {xs : List V} (I : Inv X pins σ H s) (h : H p = some (.lst xs)) :
    ∃ (its : List Value) (n : Nat), Vals xs its ∧ s.heap.get? p = some { cls := .type "list", data := .seq its.toArray n } ∧ xs.length ≤ sizeLine := by
  obtain ⟨z, its, n, r, e⟩ := I.hok p _ h
  exact ⟨its, n, r, e, z⟩
/-- the list at p is written by an update of its object -/
theorem Inv.lstUpd {pins : List (Addr × Obj)} {σ : St} {H : Hp} {s : Shared} {p : Addr} {xs ys : List V} {its its' : List Value} {n n' : Nat} {f : Obj → Obj} (I : Inv X pins σ H s) (h : H p = some (.lst xs))
    (ho : s.heap.get? p = some { cls := .type "list", data := .seq its.toArray n }) (hf : f { cls := .type "list", data := .seq its.toArray n } = { cls := .type "list", data := .seq its'.toArray n' }) (r : Vals ys its') (hz : ys.length ≤ sizeLine) (t : Nat) :
    Inv X pins σ (upd H p (.lst ys)) { s with heap := s.heap.update p f, toks := t } := by
  have e : (s.heap.update p f).get? p = some { cls := .type "list", data := .seq its'.toArray n' } := by
    rw [Heap.get?_update_self f ho (by rw [hf] <;> rfl), hf]
  refine I.write (x := p) (e := p) (by rw [h]; trivial) (.inl rfl) (fun b u hb q => (Heap.get?_update_other _ _ (Ne.symm hb)).trans q) ⟨_, e⟩ ?_
  exact ⟨hz, its', n', r, e⟩
def rSetL : V → V → V → Hp → (Hp → Prop) → Prop := fun o i v H Q => ∃ p xs k j, o = .ref p ∧ i = .int k ∧ H p = some (.lst xs) ∧ ixN xs.length k = some j ∧ Q (upd H p (.lst (xs.set j v)))
theorem set_list : PSet X rSetL := by
  intro pins s σ H o i v ov iv u Q I ro ri rv h
  obtain ⟨p, xs, k, j, rfl, rfl, hp, hj, q⟩ := h
  cases ro
  obtain ⟨t, rfl⟩ := ri
  obtain ⟨its, n, r, ho, hz⟩ := I.lst hp
  obtain ⟨h1, h2, h3, h4⟩ := ixN_seq hj
  have hl := r.length
  have hn := line63
  have I' : Inv X pins σ (upd H p (.lst (xs.set j v))) { s with heap := s.heap.update p (Obj.mapSeq (·.setIfInBounds j u)) } :=
    I.lstUpd hp ho (mapSeq_set its n j u) (r.set rv j) (by rw [List.length_set]; exact hz) s.toks
  by_cases h0 : 0 ≤ k
  · have hk : k.toNat = j := by
      rw [seqIndex_of h0 h4] at h1
      exact Option.some.inj h1
    exact PySem.W.ki_setAt ho h0 (by omega) (by rw [List.size_toArray, ← hl]; exact h4) (by rw [hk]; exact ⟨_, I', q⟩)
  · have hk : (k + (its.toArray.size : Int)).toNat = j := by
      rw [seqIndex_neg (by omega) h3] at h1
      rw [List.size_toArray, ← hl]
      exact Option.some.inj h1
    exact PySem.W.ki_setBack ho (by omega) (by rw [List.size_toArray, ← hl]; exact h3) (by omega) (by rw [hk]; exact ⟨_, I', q⟩)

/-! ### slices -/
theorem slice_bounds (lo hi : Option Int) (n : Nat) : (sliceBounds lo hi none n).1 = ((HT.sIx n 0 lo : Nat) : Int) ∧ (sliceBounds lo hi none n).2.1 = ((HT.sIx n n hi : Nat) : Int) ∧ (sliceBounds lo hi none n).2.2 = 1 := by
  refine ⟨?_, ?_, rfl⟩
  · cases lo with
    | none => simp [sliceBounds, HT.sIx]
    | some i =>
      simp only [sliceBounds, HT.sIx, Option.getD_none, show (1 : Int) > 0 by decide, if_true]
      by_cases h : i < 0
      · simp only [h, if_true] <;> omega
      · simp only [h, if_false] <;> omega
  · cases hi with
    | none => simp [sliceBounds, HT.sIx]
    | some i =>
      simp only [sliceBounds, HT.sIx, Option.getD_none, show (1 : Int) > 0 by decide, if_true]
      by_cases h : i < 0
      · simp only [h, if_true] <;> omega
      · simp only [h, if_false] <;> omega
theorem slicePick_cut (its : List Value) (lo hi : Option Int) : slicePick its.toArray lo hi none = ((its.drop (HT.sIx its.length 0 lo)).take (HT.sIx its.length its.length hi - HT.sIx its.length 0 lo)).toArray := by
  obtain ⟨h1, h2, h3⟩ := slice_bounds lo hi its.toArray.size
  unfold slicePick
  rw [h1, h2, h3]
  simp only [sliceRange_one, pick_run, List.size_toArray] <;> rfl
/-- xs[lo:hi] of a list: a new list -/
def rSlL (K : PySem.W.Frag) : V → Option Int → Option Int → Hp → VK → Prop := fun x lo hi H Q => ∃ a xs, x = .ref a ∧ SqL K H a xs ∧ ∀ p, H p = none → Q (.ref p) (upd H p (.lst (cutV xs lo hi)))
theorem sl_list : SlR X (rSlL X.K) := by
  intro pins s σ H x v vl vu lo hi sl Q I rx hs pl pu h
  obtain ⟨a, xs, rfl, hx, q⟩ := h
  cases rx
  obtain ⟨its, r, ht, hz⟩ := I.list hx
  have hlen := r.length
  refine ⟨"list", _, slot_list_getitem.lookup, ht.isList.typeIs, ?_⟩
  refine wpAny_getItem_list_slice ht.isList hs pl pu .none (by simp) ?_ (by rw [List.size_toArray] <;> omega)
  rw [slicePick_cut, ← hlen]
  refine ⟨.ref s.heap.objs.size, _, I.laid (t' := s.toks) (o := .lst (cutV xs lo hi)) (fun b ob q => Heap.get?_push_of_some _ q) (Nat.le_refl _) ?_, rfl, q _ (I.hok.fresh (Nat.le_refl _))⟩
  exact ⟨Nat.le_trans (cutV_length xs lo hi) hz, _, 0, (r.drop (HT.sIx xs.length 0 lo)).take (HT.sIx xs.length xs.length hi - HT.sIx xs.length 0 lo), Heap.get?_push_size _ rfl⟩

/-! ### in, not in: flat items -/
def flatV : V → Bool
  | .non => true
  | .bl _ => true
  | .int _ => true
  | .str _ => true
  | _ => false
/-- == of flat values -/
def eqV : V → V → Bool
  | .non, .non => true
  | .bl a, .bl b => a == b
  | .bl a, .int b => (if a then 1 else 0) == b
  | .int a, .bl b => a == (if b then 1 else 0)
  | .int a, .int b => a == b
  | .str a, .str b => a == b
  | _, _ => false
theorem eqAt_V {A : Around} {s : Shared} {y x : V} {u v : Value} (ry : RelV y u) (rx : RelV x v) (fy : flatV y = true) (fx : flatV x = true) : SeqAt.EqAt A s u v (eqV y x) := by
  cases y with
  | non =>
    cases ry
    cases x with
    | non => cases rx; exact SeqAt.EqAt.same _
    | bl b => cases rx; exact SeqAt.EqAt.none_bool b
    | int b => obtain ⟨t, rfl⟩ := rx; exact SeqAt.EqAt.none_int b t
    | str b => obtain ⟨t, rfl⟩ := rx; exact SeqAt.EqAt.none_str b t
    | _ => exact absurd (show false = true from fx) Bool.false_ne_true
  | bl a =>
    cases ry
    cases x with
    | non => cases rx; exact SeqAt.EqAt.bool_none a
    | bl b => cases rx; exact SeqAt.EqAt.bool_bool a b
    | int b => obtain ⟨t, rfl⟩ := rx; exact SeqAt.EqAt.bool_int a b t
    | str b => obtain ⟨t, rfl⟩ := rx; exact SeqAt.EqAt.bool_str a b t
    | _ => exact absurd (show false = true from fx) Bool.false_ne_true
  | int a =>
    obtain ⟨t', rfl⟩ := ry
    cases x with
    | non => cases rx; exact SeqAt.EqAt.int_none a t'
    | bl b => cases rx; exact SeqAt.EqAt.int_bool a t' b
    | int b => obtain ⟨t, rfl⟩ := rx; exact SeqAt.EqAt.int_int a t' b t
    | str b => obtain ⟨t, rfl⟩ := rx; exact SeqAt.EqAt.int_str a t' b t
    | _ => exact absurd (show false = true from fx) Bool.false_ne_true
  | str a =>
    obtain ⟨t', rfl⟩ := ry
    cases x with
    | non => cases rx; exact SeqAt.EqAt.str_none a t'
    | bl b => cases rx; exact SeqAt.EqAt.str_bool a t' b
    | int b => obtain ⟨t, rfl⟩ := rx; exact SeqAt.EqAt.str_int a t' b t
    | str b => obtain ⟨t, rfl⟩ := rx; exact SeqAt.EqAt.str_str a t' b t
    | _ => exact absurd (show false = true from fx) Bool.false_ne_true
  | _ => exact absurd (show false = true from fy) Bool.false_ne_true
/-- the items' answers, read off the values (a value's own answer does not lean on its token) -/
def eqU (x : V) (u : Value) : Bool := match u with
  | .none => eqV .non x
  | .bool b => eqV (.bl b) x
  | .int i _ => eqV (.int i) x
  | .str z _ => eqV (.str z) x
  | _ => false
theorem eqU_of {x y : V} {u : Value} (r : RelV y u) (f : flatV y = true) : eqU x u = eqV y x := by
  cases y with
  | non => cases r; rfl
  | bl b => cases r; rfl
  | int i => obtain ⟨t, rfl⟩ := r; rfl
  | str z => obtain ⟨t, rfl⟩ := r; rfl
  | _ => exact absurd (show false = true from f) Bool.false_ne_true
theorem any_eqU {x : V} : ∀ {xs : List V} {us : List Value}, Vals xs us → xs.all flatV = true → us.any (eqU x) = xs.any fun y => eqV y x
  | _, _, .nil, _ => rfl
  | y :: xs, u :: us, .cons r t, f => by
    rw [List.all_cons, Bool.and_eq_true] at f
    rw [List.any_cons, List.any_cons, eqU_of r f.1, any_eqU t f.2]
theorem mem_eqAt {A : Around} {s : Shared} {x : V} {v : Value} (rx : RelV x v) (fx : flatV x = true) : ∀ {xs : List V} {us : List Value}, Vals xs us → xs.all flatV = true → ∀ u ∈ us, SeqAt.EqAt A s u v (eqU x u)
  | _, _, .nil, _ => fun u hu => by cases hu
  | y :: xs, u :: us, .cons r t, f => fun u' hu => by
    rw [List.all_cons, Bool.and_eq_true] at f
    rcases List.mem_cons.mp hu with rfl | hu
    · rw [eqU_of r f.1]; exact eqAt_V r rx f.1 fx
    · exact mem_eqAt rx fx t f.2 u' hu
def inV (x : V) (xs : List V) : Bool := xs.any fun y => eqV y x
/-- x in a list or tuple of flat items -/
def rIn (K : PySem.W.Frag) (neg : Bool) : R2 := fun x y H Q => ∃ p xs, y = .ref p ∧ (SqL K H p xs ∨ SqT K H p xs) ∧ flatV x = true ∧ xs.all flatV = true ∧ Q (.bl (if neg then !inV x xs else inV x xs)) H
theorem op_in_seq : OpR X (compareOp .In) (rIn X.K false) := by
  intro pins s σ H x y v u Q I rx ry h
  obtain ⟨p, xs, rfl, hq, fx, fs, q⟩ := h
  cases ry
  rcases hq with hq | hq
  · obtain ⟨its, r, pl, hz⟩ := I.list hq
    refine SeqAt.in_listAt (eqU x) pl.isList (fun w hw => mem_eqAt rx fx r fs w (by simpa using hw)) ⟨.bl _, H, I, rfl, ?_⟩
    rw [show its.toArray.any (eqU x) = its.any (eqU x) by simp, any_eqU r fs]
    exact q
  · obtain ⟨its, r, pl, hz⟩ := I.tuple hq
    refine SeqAt.in_tupleAt (eqU x) pl (fun w hw => mem_eqAt rx fx r fs w (by simpa using hw)) ⟨.bl _, H, I, rfl, ?_⟩
    rw [show its.toArray.any (eqU x) = its.any (eqU x) by simp, any_eqU r fs]
    exact q
theorem op_notIn_seq : OpR X (compareOp .NotIn) (rIn X.K true) := by
  intro pins s σ H x y v u Q I rx ry h
  obtain ⟨p, xs, rfl, hq, fx, fs, q⟩ := h
  cases ry
  rcases hq with hq | hq
  · obtain ⟨its, r, pl, hz⟩ := I.list hq
    refine SeqAt.notIn_listAt (eqU x) pl.isList (fun w hw => mem_eqAt rx fx r fs w (by simpa using hw)) ⟨.bl _, H, I, rfl, ?_⟩
    rw [show its.toArray.any (eqU x) = its.any (eqU x) by simp, any_eqU r fs]
    exact q
  · obtain ⟨its, r, pl, hz⟩ := I.tuple hq
    refine SeqAt.notIn_tupleAt (eqU x) pl (fun w hw => mem_eqAt rx fx r fs w (by simpa using hw)) ⟨.bl _, H, I, rfl, ?_⟩
    rw [show its.toArray.any (eqU x) = its.any (eqU x) by simp, any_eqU r fs]
    exact q
theorem op_notIn_str : OpR X (compareOp .NotIn) (fun x y H Q => ∃ i j, x = .str i ∧ y = .str j ∧ Q (.bl (!(!(Builtin.Str.occurrences j i 0 j.length 1).isEmpty))) H) := by
  intro pins s σ H x y v u Q I rx ry h
  obtain ⟨i, j, rfl, rfl, q⟩ := h
  obtain ⟨t, rfl⟩ := rx
  obtain ⟨t', rfl⟩ := ry
  exact notIn_str ⟨.bl _, H, I, rfl, q⟩

/-! ### len, list(x), tuple(x) of any list or tuple that is read -/
theorem call_len_seq : CallR X (.builtin "len") (fun xs H Q => ∃ p ys, xs = [.ref p] ∧ (SqL X.K H p ys ∨ SqT X.K H p ys) ∧ Q (.int ys.length) H) := by
  intro pins s σ H xs us Q I r h
  obtain ⟨p, ys, rfl, hq, q⟩ := h
  obtain ⟨u, rfl, rx⟩ := vals1 r
  cases rx
  have hn := line63
  rcases hq with hq | hq
  · obtain ⟨its, r', pl, hz⟩ := I.list hq
    have hlen := r'.length
    exact Calls.call_len_list pl.isList (by simp only [List.size_toArray] <;> omega) ⟨.int ys.length, H, I.tok _, ⟨s.toks + 1, by rw [List.size_toArray, hlen]⟩, q⟩
  · obtain ⟨its, r', pl, hz⟩ := I.tuple hq
    have hlen := r'.length
    exact len_tuple pl (by simp only [List.size_toArray] <;> omega) ⟨.int ys.length, H, I.tok _, ⟨s.toks + 1, by rw [List.size_toArray, hlen]⟩, q⟩
theorem call_len_str : CallR X (.builtin "len") (fun xs H Q => ∃ z, xs = [.str z] ∧ z.length ≤ sizeLine ∧ Q (.int z.length) H) := by
  intro pins s σ H xs us Q I r h
  obtain ⟨z, rfl, hz, q⟩ := h
  obtain ⟨u, rfl, t, rfl⟩ := vals1 r
  have hn := line63
  exact len_str (by omega) ⟨.int z.length, H, I.tok _, ⟨_, rfl⟩, q⟩
theorem CallR.or {f : Value} {r r' : List V → Hp → VK → Prop} (h : CallR X f r) (h' : CallR X f r') : CallR X f (fun xs H Q => r xs H Q ∨ r' xs H Q) := by
  intro pins s σ H xs us Q I rs q
  rcases q with q | q
  · exact h pins s σ H xs us Q I rs q
  · exact h' pins s σ H xs us Q I rs q
theorem call_list_of : CallR X (.type "list") (fun xs H Q => ∃ p ys, xs = [.ref p] ∧ (SqL X.K H p ys ∨ SqT X.K H p ys) ∧ ∀ l, H l = none → Q (.ref l) (upd H l (.lst ys))) := by
  intro pins s σ H xs us Q I r h
  obtain ⟨p, ys, rfl, hq, q⟩ := h
  obtain ⟨u, rfl, rx⟩ := vals1 r
  cases rx
  have fin : ∀ (its : List Value), Vals ys its → ys.length ≤ sizeLine → ∀ (h' : Heap) (c' : Nat), (∀ b o', s.heap.get? b = some o' → h'.get? b = some o') →
      h'.get? s.heap.objs.size = some { cls := .type "list", dict := none, data := .seq its.toArray c', slots := #[] } → EP X pins σ Q (.ref s.heap.objs.size) { s with heap := h' } := fun its r' hz h' c' kp e =>
    ⟨.ref s.heap.objs.size, _, I.laid (t' := s.toks) kp (Nat.le_refl _) (show ObjOk X.prog X.w _ h' _ (.lst ys) from ⟨hz, its, c', r', e⟩), rfl, q _ (I.hok.fresh (Nat.le_refl _))⟩
  rcases hq with hq | hq
  · obtain ⟨its, r', pl, hz⟩ := I.list hq
    have hlen := r'.length
    obtain ⟨o, ho, hc, n, hd⟩ := pl.isList
    exact call_list_seq p (.inl rfl) ho hc hd (fun h' c' kp e => fin its r' hz h' c' kp e) (by simp only [List.size_toArray] <;> omega)
  · obtain ⟨its, r', pl, hz⟩ := I.tuple hq
    have hlen := r'.length
    obtain ⟨o, ho, hc, n, hd⟩ := pl
    exact call_list_seq p (.inr rfl) ho hc hd (fun h' c' kp e => fin its r' hz h' c' kp e) (by simp only [List.size_toArray] <;> omega)
theorem call_tuple_of : CallR X (.type "tuple") (fun xs H Q => ∃ p ys, xs = [.ref p] ∧ ((SqL X.K H p ys ∧ ∀ l, H l = none → Q (.ref l) (upd H l (.tup ys))) ∨ (SqT X.K H p ys ∧ Q (.ref p) H))) := by
  intro pins s σ H xs us Q I r h
  obtain ⟨p, ys, rfl, h⟩ := h
  obtain ⟨u, rfl, rx⟩ := vals1 r
  cases rx
  rcases h with ⟨hq, q⟩ | ⟨hq, q⟩
  · obtain ⟨its, r', pl, hz⟩ := I.list hq
    have hlen := r'.length
    refine call_tuple_list pl.isList (fun h' kp => ?_) (by simp only [List.size_toArray] <;> omega)
    have I1 : Inv X pins σ H { s with heap := h' } := I.kept (t' := s.toks) kp
    have I2 : Inv X pins σ (upd H h'.objs.size (.tup ys)) { s with heap := h'.push { cls := .type "tuple", data := .seq its.toArray } } :=
      I1.laid (t' := s.toks) (fun b o e => Heap.get?_push_of_some _ e) (Nat.le_refl _) (show ObjOk X.prog X.w _ _ _ (.tup ys) from ⟨hz, its, r', IsTup.new _ _⟩)
    exact ⟨.ref h'.objs.size, _, I2, rfl, q _ (I1.hok.fresh (Nat.le_refl _))⟩
  · obtain ⟨its, r', pl, hz⟩ := I.tuple hq
    exact call_tuple_same pl ⟨.ref p, H, I, rfl, q⟩

/-! ### the call of a builtin's method: o.m(..) -/
/-- the value is of that builtin type -/
def tyV (K : PySem.W.Frag) (T : String) (x : V) (H : Hp) : Prop := match x with
  | .str _ => T = "str"
  | .int _ => T = "int"
  | .ref p => (T = "list" ∧ ∃ xs, SqL K H p xs) ∨ (T = "tuple" ∧ ∃ o, K.lookup p = some o ∧ o.cls = .type "tuple" ∧ o.dict = none) ∨
      (T = "dict" ∧ ((∃ kvs, H p = some (.dK kvs)) ∨ ∃ kvs, H p = some (.dT kvs))) ∨ (T = "set" ∧ ∃ S n, H p = some (.set S n))
  | _ => False
theorem tyV_is {pins : List (Addr × Obj)} {σ : St} {H : Hp} {s : Shared} {T : String} {x : V} {v : Value} (I : Inv X pins σ H s) (r : RelV x v) (ty : tyV X.K T x H) :
    s.TypeIs v T ∧ ∀ a, v = .ref a → ∃ ob, s.heap.get? a = some ob ∧ ob.dict = none := by
  cases x with
  | str z =>
    obtain ⟨t, rfl⟩ := r
    cases (show T = "str" from ty)
    exact ⟨typeIs_str s z t, fun _ e => nomatch e⟩
  | int i =>
    obtain ⟨t, rfl⟩ := r
    cases (show T = "int" from ty)
    exact ⟨typeIs_int s i t, fun _ e => nomatch e⟩
  | ref p =>
    cases r
    rcases ty with ⟨rfl, xs, hq⟩ | ⟨rfl, o, hk, hc, hd⟩ | ⟨rfl, hk⟩ | ⟨rfl, S, n, hk⟩
    · obtain ⟨its, _, pl, _⟩ := I.list hq
      refine ⟨pl.isList.typeIs, fun a e => ?_⟩
      cases e
      obtain ⟨o, n, e, c, hd, _⟩ := pl
      exact ⟨o, e, hd⟩
    · refine ⟨⟨o, I.kIn p o hk, hc⟩, fun a e => ?_⟩
      cases e
      exact ⟨o, I.kIn _ o hk, hd⟩
    · have z : ∃ o, s.heap.get? p = some o ∧ o.ExactDict := by
        rcases hk with ⟨kvs, hk⟩ | ⟨kvs, hk⟩
        · obtain ⟨_, _, _, _, o, _, _, e, ex, _⟩ := I.hok p _ hk
          exact ⟨o, e, ex⟩
        · obtain ⟨_, _, _, _, o, _, _, e, ex, _⟩ := I.hok p _ hk
          exact ⟨o, e, ex⟩
      obtain ⟨o, e, ex⟩ := z
      refine ⟨⟨o, e, ex.1⟩, fun a e2 => ?_⟩
      cases e2
      exact ⟨o, e, ex.2.1⟩
    · obtain ⟨o, _, _, _, e, ex, _⟩ := I.hok p _ hk
      refine ⟨⟨o, e, ex.1⟩, fun a e2 => ?_⟩
      cases e2
      exact ⟨o, e, ex.2.1⟩
  | _ => exact False.elim ty
def tBM0 (K : PySem.W.Frag) (T : String) (r : V → List V → Hp → VK → Prop) (to : TE) : TE := fun σ H Q => to σ H fun x H1 => tyV K T x H1 ∧ r x [] H1 Q
def tBM (K : PySem.W.Frag) (T : String) (r : V → List V → Hp → VK → Prop) (to : TE) (t : TA) : TE := fun σ H Q => to σ H fun x H1 => tyV K T x H1 ∧ t σ H1 fun xs H2 => r x xs H2 Q
variable {o e : Expr} {es : List Expr} {to : TE} {t : TA} {name : Str} {apos cpos : Pos} {T id : String} {r : V → List V → Hp → VK → Prop}
theorem pe_bm0 (pa : PlainAttrs T) (slot : Slot T name id) (hty : typeOf (.builtin id) = pure (.type "method_descriptor")) (hm : MtR X id r) (ho : PE X o to)
    (hbase : attributeBase o name X.env (eval o X.env) = eval o X.env := by rfl) (hline : (apos.endLine == cpos.line) = true := by rfl) : PE X (.Call (.Attribute o name apos) [] [] cpos) (tBM0 X.K T r to) := by
  intro pins s σ H Q I h
  refine wpAny_Call_method0_late hbase hline (thn (ho pins s σ H _ I h) fun v s1 ⟨x, H1, I1, r1, ty, q1⟩ => ?_)
  obtain ⟨h1, h2⟩ := tyV_is I1 r1 ty
  exact ⟨T, id, pa, slot, hty, h1, h2, Calls.callWith_builtin rfl (PySem.evalArgs_none (hm pins s1 σ H1 x [] v [] Q I1 r1 .nil q1))⟩
theorem pe_bm (pa : PlainAttrs T) (slot : Slot T name id) (hty : typeOf (.builtin id) = pure (.type "method_descriptor")) (hm : MtR X id r) (ho : PE X o to) (ha : PA X (e :: es) t)
    (hbase : attributeBase o name X.env (eval o X.env) = eval o X.env := by rfl)
    (hfew : ((backTo cpos (starEach (e :: es) X.env)).all (fun x => !x.1) && (backToKw cpos (keywordEach [] X.env)).all (fun x => x.1.isSome)
      && decide ((e :: es).length + ([] : List Keyword).length + (if ([] : List Keyword).isEmpty then 0 else 1) < 30)) = true := by rfl)
    (hline : (apos.endLine == cpos.line) = true := by rfl) (hs : starEach (e :: es) X.env = (false, eval e X.env) :: starEach es X.env := by rfl) (hplain : (backTo cpos (starEach es X.env)).any (·.1) = false := by rfl) :
    PE X (.Call (.Attribute o name apos) (e :: es) [] cpos) (tBM X.K T r to t) := by
  intro pins s σ H Q I h
  refine wpAny_Call_method_late hbase hfew hline rfl (thn (ho pins s σ H _ I h) fun v s1 ⟨x, H1, I1, r1, ty, q1⟩ => ?_)
  obtain ⟨h1, h2⟩ := tyV_is I1 r1 ty
  refine ⟨T, id, pa, slot, hty, h1, h2, ?_⟩
  have hA := ha cpos pins s1 σ H1 _ I1 q1
  rw [hs] at hA ⊢
  refine Calls.callWith_builtin (by show (false || (backTo cpos (starEach es X.env)).any (·.1)) = false; rw [hplain] <;> rfl) (Calls.evalArgs_plain ?_)
  exact thn hA fun us s2 ⟨vs, H2, I2, r2, q2⟩ => hm pins s2 σ H2 x vs v us Q I2 r1 r2 q2
/- xs.append(e), list.index on a module's tuple .. are MtR facts of 06m -/
end
end L2

namespace L2
open PySem PySem.Spec PyProof.Rows

def MtM (X : Cx) (id : String) (r : V → List V → Hp → VK → Prop) : Prop :=
  ∀ (pins : List (Addr × Obj)) (s : Shared) (σ : St) (H : Hp) (x : V) (xs : List V) (v : Value) (us : List Value) (Q : VK), Inv X pins σ H s → RelV x v → Vals xs us → r x xs H Q →
    wpAny (model X.prog X.w) X.A (call (.builtin id) (v :: us)) (EP X pins σ Q) X.xe s

/-! ### lists of values -/
theorem Vals.one : ∀ {x : V} {us : List Value}, Vals [x] us → ∃ u, us = [u] ∧ RelV x u
  | _, _, .cons r .nil => ⟨_, rfl, r⟩
theorem Vals.two : ∀ {x y : V} {us : List Value}, Vals [x, y] us → ∃ u v, us = [u, v] ∧ RelV x u ∧ RelV y v
  | _, _, _, .cons r (.cons q .nil) => ⟨_, _, rfl, r, q⟩
theorem Vals.zero : ∀ {us : List Value}, Vals [] us → us = []
  | _, .nil => rfl
theorem Vals.dropLast {xs : List V} {us : List Value} (h : Vals xs us) : Vals xs.dropLast us.dropLast := by
  induction h with
  | nil => exact .nil
  | cons r t ih =>
    cases t with
    | nil => exact .nil
    | cons q t' => exact .cons r ih
theorem Vals.eraseIdx : ∀ {xs : List V} {us : List Value} (i : Nat), Vals xs us → Vals (xs.eraseIdx i) (us.eraseIdx i)
  | _, _, _, .nil => .nil
  | _, _, 0, .cons _ t => t
  | _, _, i + 1, .cons r t => .cons r (Vals.eraseIdx i t)
theorem Vals.reverse {xs : List V} {us : List Value} (h : Vals xs us) : Vals xs.reverse us.reverse := by
  induction h with
  | nil => exact .nil
  | cons r t ih => rw [List.reverse_cons, List.reverse_cons]; exact Vals.append ih (.cons r .nil)
theorem Vals.rep {xs : List V} {us : List Value} (h : Vals xs us) : ∀ k : Nat, Vals (List.replicate k xs).flatten (List.replicate k us).flatten
  | 0 => .nil
  | k + 1 => by
    rw [List.replicate_succ, List.replicate_succ, List.flatten_cons, List.flatten_cons]
    exact Vals.append h (Vals.rep h k)
theorem erase_last {α : Type} (l : List α) : l.eraseIdx (l.length - 1) = l.dropLast := by
  induction l with
  | nil => rfl
  | cons a r ih =>
    cases r with
    | nil => rfl
    | cons b r =>
      have e : (a :: b :: r).length - 1 = ((b :: r).length - 1) + 1 := by
        have h1 : (a :: b :: r).length = r.length + 2 := rfl
        have h2 : (b :: r).length = r.length + 1 := rfl
        omega
      rw [e, List.eraseIdx_cons_succ, ih]
      all_goals rfl
theorem len_erase {α : Type} : ∀ (l : List α) (i : Nat), (l.eraseIdx i).length ≤ l.length
  | [], _ => Nat.le_refl _
  | _ :: _, 0 => Nat.le_succ _
  | _ :: r, i + 1 => Nat.succ_le_succ (len_erase r i)
theorem foldl_rep (its : List Value) : ∀ (k : Nat) (acc : List Value),
    List.foldl (fun x1 x2 => x1 ++ x2) acc.toArray (List.replicate k its.toArray) = (acc ++ (List.replicate k its).flatten).toArray
  | 0, acc => by simp
  | k + 1, acc => by
    have e : acc.toArray ++ its.toArray = (acc ++ its).toArray := by simp
    have e2 : (acc ++ its) ++ (List.replicate k its).flatten = acc ++ (List.replicate (k + 1) its).flatten := by
      rw [List.replicate_succ, List.flatten_cons, List.append_assoc]
    rw [← e2, ← foldl_rep its k (acc ++ its), ← e, List.replicate_succ, List.foldl_cons]

section
variable {X : Cx} {pins : List (Addr × Obj)} {σ : St} {H : Hp} {s : Shared} {l b : Addr} {xs ys zs : List V}

/-! ### the two steps: a tracked list is rewritten, a new list is laid -/
theorem Inv.lset {its its' : List Value} {n : Nat} {f : Array Value → Array Value} {t' : Nat} (I : Inv X pins σ H s) (hH : H l = some (.lst xs))
    (e : s.heap.get? l = some { cls := .type "list", data := .seq its.toArray n }) (hf : f its.toArray = its'.toArray) (hv : Vals ys its') (hz : ys.length ≤ sizeLine) :
    Inv X pins σ (upd H l (.lst ys)) { s with heap := s.heap.update l (Obj.mapSeq f), toks := t' } := by
  have q := PySem.IsL.update e f
  rw [hf] at q
  refine I.write (x := l) (e := l) (by rw [hH]; exact trivial) (.inl rfl) (fun b' u hb hu => (Heap.get?_update_other s.heap (Obj.mapSeq f) (Ne.symm hb)).trans hu) ⟨_, q⟩ ?_
  exact ⟨hz, its', _, hv, q⟩
theorem Inv.lnew {its : List Value} {t' : Nat} (I : Inv X pins σ H s) (hv : Vals ys its) (hz : ys.length ≤ sizeLine) :
    Inv X pins σ (upd H s.heap.objs.size (.lst ys)) { s with heap := s.heap.push { cls := .type "list", data := .seq its.toArray }, toks := t' } :=
  I.laid (fun _ _ q => Heap.get?_push_of_some _ q) (Nat.le_refl _) ⟨hz, its, 0, hv, Heap.get?_push_size _ rfl⟩
theorem Inv.fresh (I : Inv X pins σ H s) : H s.heap.objs.size = none := I.hok.fresh (Nat.le_refl _)
theorem Inv.lstM (I : Inv X pins σ H s) (hH : H l = some (.lst xs)) : xs.length ≤ sizeLine ∧ ∃ (its : List Value) (n : Nat), Vals xs its ∧ xs.length = its.length ∧ s.heap.get? l = some { cls := .type "list", data := .seq its.toArray n } := by
  obtain ⟨z, its, n, r, e⟩ := I.hok l _ hH
  exact ⟨z, its, n, r, r.length, e⟩

theorem notLongL {n : Nat} (h : n ≤ sizeLine) : Builtin.List.listTooLong n = false := by
  unfold Builtin.List.listTooLong
  exact decide_eq_false (by omega)
end

section
variable {X : Cx}

/-! ### methods -/
def rAppend : V → List V → Hp → VK → Prop := fun x vs H Q => ∃ l xs y, x = .ref l ∧ vs = [y] ∧ H l = some (.lst xs) ∧ xs.length < sizeLine ∧ Q .non (upd H l (.lst (xs ++ [y])))
theorem mt_append : MtM X "list.append" rAppend := by
  intro pins s σ H x vs v us Q I rx rv h
  obtain ⟨l, xs, y, rfl, rfl, hH, hz, q⟩ := h
  cases rx
  obtain ⟨u, rfl, ru⟩ := rv.one
  obtain ⟨z, its, n, r, hl, e⟩ := I.lstM hH
  refine call_meets F.slot_list_append ⟨_, e, rfl⟩ F.entry_list_append (F.args_list_append_2 _ _) (PySem.list_append l its.toArray n u (by rw [List.size_toArray]; omega)) ⟨e, ?_⟩
  refine ⟨.non, _, I.lset (its' := its ++ [u]) hH e (by simp) (r.append (.cons ru .nil)) ?_, rfl, q⟩
  rw [List.length_append, List.length_singleton]
  omega

def rExtend : V → List V → Hp → VK → Prop := fun x vs H Q => ∃ l b xs zs, x = .ref l ∧ vs = [.ref b] ∧ H l = some (.lst xs) ∧ H b = some (.lst zs) ∧ xs.length + zs.length ≤ sizeLine ∧ Q .non (upd H l (.lst (xs ++ zs)))
theorem mt_extend : MtM X "list.extend" rExtend := by
  intro pins s σ H x vs v us Q I rx rv h
  obtain ⟨l, b, xs, zs, rfl, rfl, hH, hB, hz, q⟩ := h
  cases rx
  obtain ⟨u, rfl, ru⟩ := rv.one
  cases ru
  obtain ⟨z, its, n, r, hl, e⟩ := I.lstM hH
  obtain ⟨z2, its2, n2, r2, hl2, e2⟩ := I.lstM hB
  have hsz : its.toArray.size + its2.toArray.size ≤ sizeLine := by rw [List.size_toArray, List.size_toArray]; omega
  have hlong : ¬ (!its.toArray.isEmpty && Builtin.List.listTooLong (its.toArray.size + its2.toArray.size)) = true := by
    rw [notLongL hsz, Bool.and_false]
    exact Bool.false_ne_true
  refine call_meets F.slot_list_extend ⟨_, e, rfl⟩ F.entry_list_extend (F.args_list_extend_2 _ _)
    (AutoSeq1.list_extend_list_list_0 l its.toArray n b its2.toArray n2 hlong (by rw [List.size_toArray]; omega) (by omega)) ⟨e, e2, ?_⟩
  refine ⟨.non, _, I.lset (its' := its ++ its2) hH e (by simp) (r.append r2) ?_, rfl, q⟩
  rw [List.length_append]
  omega

def rPop : V → List V → Hp → VK → Prop := fun x vs H Q => ∃ l xs y, x = .ref l ∧ vs = [] ∧ H l = some (.lst xs) ∧ xs[xs.length - 1]? = some y ∧ Q y (upd H l (.lst xs.dropLast))
theorem mt_pop : MtM X "list.pop" rPop := by
  intro pins s σ H x vs v us Q I rx rv h
  obtain ⟨l, xs, y, rfl, rfl, hH, hy, q⟩ := h
  cases rx
  have hus := rv.zero
  subst hus
  obtain ⟨z, its, n, r, hl, e⟩ := I.lstM hH
  obtain ⟨u, hu, ru⟩ := r.get hy
  have hy' : its.toArray[its.toArray.size - 1]? = some u := by
    show its.toArray[its.length - 1]? = some u
    rw [← Array.getElem?_toList, ← hl]
    exact hu
  refine call_meets F.slot_list_pop ⟨_, e, rfl⟩ F.entry_list_pop (F.args_list_pop_1 _) (MeetsSeq.list_pop_last l its.toArray n u hy' (by rw [List.size_toArray]; omega)) ⟨e, ?_⟩
  refine ⟨y, _, I.lset (its' := its.dropLast) hH e ?_ r.dropLast ?_, ru, q⟩
  · show its.toArray.eraseIdxIfInBounds (its.toArray.size - 1) = its.dropLast.toArray
    rw [List.size_toArray, List.eraseIdxIfInBounds_toArray, erase_last]
  · rw [List.length_dropLast]
    omega

def rPopAt : V → List V → Hp → VK → Prop := fun x vs H Q => ∃ l xs i k y, x = .ref l ∧ vs = [.int i] ∧ H l = some (.lst xs) ∧ -(2 ^ 63) ≤ i ∧ i < 2 ^ 63 ∧ seqIndex? i xs.length = some k ∧ xs[k]? = some y ∧ Q y (upd H l (.lst (xs.eraseIdx k)))
theorem mt_popAt : MtM X "list.pop" rPopAt := by
  intro pins s σ H x vs v us Q I rx rv h
  obtain ⟨l, xs, i, k, y, rfl, rfl, hH, h1, h2, hk, hy, q⟩ := h
  cases rx
  obtain ⟨u, rfl, ru⟩ := rv.one
  obtain ⟨t, rfl⟩ := ru
  obtain ⟨z, its, n, r, hl, e⟩ := I.lstM hH
  obtain ⟨w, hw, rw'⟩ := r.get hy
  refine call_meets F.slot_list_pop ⟨_, e, rfl⟩ F.entry_list_pop (F.args_list_pop_2 _ _)
    (MeetsSeq.list_pop_at l its.toArray n i t k w (fitsIndex_both h1 h2) (by rw [List.size_toArray, ← hl]; exact hk) (by rw [← Array.getElem?_toList]; exact hw) (by rw [List.size_toArray]; omega)) ⟨e, ?_⟩
  refine ⟨y, _, I.lset (its' := its.eraseIdx k) hH e ?_ (r.eraseIdx k) ?_, rw', q⟩
  · show its.toArray.eraseIdxIfInBounds k = (its.eraseIdx k).toArray
    rw [List.eraseIdxIfInBounds_toArray]
  · have := len_erase xs k
    omega

def rReverse : V → List V → Hp → VK → Prop := fun x vs H Q => ∃ l xs, x = .ref l ∧ vs = [] ∧ H l = some (.lst xs) ∧ Q .non (upd H l (.lst xs.reverse))
theorem mt_reverse : MtM X "list.reverse" rReverse := by
  intro pins s σ H x vs v us Q I rx rv h
  obtain ⟨l, xs, rfl, rfl, hH, q⟩ := h
  cases rx
  have hus := rv.zero
  subst hus
  obtain ⟨z, its, n, r, hl, e⟩ := I.lstM hH
  refine call_meets F.slot_list_reverse ⟨_, e, rfl⟩ F.entry_list_reverse (F.args_list_reverse_1 _) (AutoSeq1.list_reverse_list_0 l its.toArray n (by rw [List.size_toArray]; omega)) ⟨e, ?_⟩
  refine ⟨.non, _, I.lset (its' := its.reverse) hH e (by simp) r.reverse ?_, rfl, q⟩
  rw [List.length_reverse]
  omega

def rClear : V → List V → Hp → VK → Prop := fun x vs H Q => ∃ l xs, x = .ref l ∧ vs = [] ∧ H l = some (.lst xs) ∧ Q .non (upd H l (.lst []))
theorem mt_clear : MtM X "list.clear" rClear := by
  intro pins s σ H x vs v us Q I rx rv h
  obtain ⟨l, xs, rfl, rfl, hH, q⟩ := h
  cases rx
  have hus := rv.zero
  subst hus
  obtain ⟨z, its, n, r, hl, e⟩ := I.lstM hH
  refine call_meets F.slot_list_clear ⟨_, e, rfl⟩ F.entry_list_clear (F.args_list_clear_1 _) (AutoSeq1.list_clear_list_0 l its.toArray n (by rw [List.size_toArray]; omega)) ⟨e, ?_⟩
  exact ⟨.non, _, I.lset (its' := []) (ys := []) hH e rfl .nil (Nat.zero_le _), rfl, q⟩

/-! ### list + list, list += list, list * int -/
def rCat : R2 := fun x y H Q => ∃ l b xs zs, x = .ref l ∧ y = .ref b ∧ H l = some (.lst xs) ∧ H b = some (.lst zs) ∧ xs.length + zs.length ≤ sizeLine ∧ ∀ p, H p = none → Q (.ref p) (upd H p (.lst (xs ++ zs)))
theorem op_cat : OpR X (binaryOp .Add) rCat := by
  intro pins s σ H x y v u Q I rx ry h
  obtain ⟨l, b, xs, zs, rfl, rfl, hH, hB, hz, q⟩ := h
  cases rx
  cases ry
  obtain ⟨z, its, n, r, hl, e⟩ := I.lstM hH
  obtain ⟨z2, its2, n2, r2, hl2, e2⟩ := I.lstM hB
  refine PySem.P.add_list e e2 ?_ (by rw [List.size_toArray, List.size_toArray]; omega)
  have ea : its.toArray ++ its2.toArray = (its ++ its2).toArray := by simp
  rw [ea]
  exact ⟨.ref _, _, I.lnew (t' := s.toks) (r.append r2) (by rw [List.length_append]; omega), rfl, q _ I.fresh⟩
/-- a list times an int (a negative one is nothing) -/
def rRep : R2 := fun x y H Q => ∃ l k xs, x = .ref l ∧ y = .int k ∧ H l = some (.lst xs) ∧ -(2 ^ 63) ≤ k ∧ k < 2 ^ 63 ∧ xs.length * k.toNat ≤ sizeLine ∧
  ∀ p, H p = none → Q (.ref p) (upd H p (.lst (List.replicate k.toNat xs).flatten))
theorem len_rep {α : Type} (xs : List α) (k : Nat) : (List.replicate k xs).flatten.length = k * xs.length := by
  induction k with
  | zero => simp
  | succ k ih => rw [List.replicate_succ, List.flatten_cons, List.length_append, ih, Nat.succ_mul, Nat.add_comm]
theorem op_rep : OpR X (binaryOp .Mult) rRep := by
  intro pins s σ H x y v u Q I rx ry h
  obtain ⟨l, k, xs, rfl, rfl, hH, h1, h2, hz, q⟩ := h
  cases rx
  obtain ⟨t, rfl⟩ := ry
  obtain ⟨z, its, n, r, hl, e⟩ := I.lstM hH
  have hlen : its.toArray.size * k.toNat ≤ sizeLine := by rw [List.size_toArray, ← hl]; exact hz
  have hcap : ¬ its.toArray.size * k.toNat > (2 ^ 63 - 1) / 8 := by
    have : (sizeLine : Nat) ≤ (2 ^ 63 - 1) / 8 := by decide
    omega
  have hfit : ¬ (!Builtin.List.listFitsIndex k) = true := by
    rw [fitsIndex_both h1 h2]
    exact Bool.false_ne_true
  have hlong : ¬ Builtin.List.listTooLong (its.toArray.size * k.toNat) = true := by
    rw [notLongL hlen]
    exact Bool.false_ne_true
  have hnew : List.foldl (fun x1 x2 => x1 ++ x2) #[] (List.replicate (if its.toArray.isEmpty = true then 0 else k.toNat) its.toArray) = (List.replicate k.toNat its).flatten.toArray := by
    have f0 : ∀ m : Nat, List.foldl (fun x1 x2 => x1 ++ x2) #[] (List.replicate m its.toArray) = (List.replicate m its).flatten.toArray := fun m => by
      have := foldl_rep its m []
      rw [List.nil_append] at this
      exact this
    rw [f0]
    cases its with
    | nil => simp
    | cons a r' => rw [if_neg (by simp)]
  refine wpAny_binaryOp_repeat_ref (T := "list") (U := "int") (by decide) ⟨_, e, rfl⟩ (fun s' => typeIs_int s' k t) noFill_list_mul F.fills_int_mul F.slot_int_rmul repeat_list F.slot_int_index.lookup
    (call_meets F.slot_int_rmul (typeIs_int s k t) F.entry_int_rmul (F.args_int_rmul_2 _ _) (int___rmul___int_list k t l its.toArray n)
      ⟨e, rfl, ⟨_, e, rfl⟩, call_meets F.slot_list_mul ⟨_, e, rfl⟩ F.entry_list_mul (F.args_list_mul_2 _ _) (AutoListH.list___mul___list_int_3 l its.toArray n k t hfit hcap hlong) ⟨e, ?_⟩⟩)
  rw [hnew]
  exact ⟨.ref _, _, I.lnew (t' := s.toks) (r.rep k.toNat) (by rw [len_rep, Nat.mul_comm]; exact hz), rfl, q _ I.fresh⟩

/-! ### del xs[i] -/
theorem del_list {pins : List (Addr × Obj)} {s : Shared} {σ : St} {H : Hp} {l : Addr} {xs : List V} {i : Int} {t : Tok} {k : Nat} {Q : Unit → Shared → Prop} (I : Inv X pins σ H s) (hH : H l = some (.lst xs))
    (h1 : -(2 ^ 63) ≤ i) (h2 : i < 2 ^ 63) (hk : seqIndex? i xs.length = some k) (h : ∀ s', Inv X pins σ (upd H l (.lst (xs.eraseIdx k))) s' → Q () s') :
    wpAny (model X.prog X.w) X.A (delItem (.ref l) (.int i t)) Q X.xe s := by
  obtain ⟨z, its, n, r, hl, e⟩ := I.lstM hH
  refine PySem.P.delItem_list (k := k) e (fitsIndex_both h1 h2) (by rw [List.size_toArray, ← hl]; exact hk) (h _ ?_) (by rw [List.size_toArray]; omega)
  refine I.lset (its' := its.eraseIdx k) (t' := s.toks) hH e ?_ (r.eraseIdx k) ?_
  · show its.toArray.eraseIdxIfInBounds k = (its.eraseIdx k).toArray
    rw [List.eraseIdxIfInBounds_toArray]
  · have := len_erase xs k
    omega
end

/-! ### xs[a:b] = ys -/
section
variable {prog : Program} {w : World} {A : Around} {E : Value → Shared → Prop} {s : Shared}
theorem splice_eq (its its2 : List Value) (a c : Nat) : its.toArray.extract 0 a ++ its2.toArray ++ its.toArray.extract c its.toArray.size = (its.take a ++ its2 ++ its.drop c).toArray := by
  apply Array.toList_inj.mp
  first
    | (simp
       exact List.take_of_length_le (by simp))
    | simp [List.take_of_length_le]
    | simp
theorem bounds_run {a c n : Nat} (hac : a ≤ c) (hc : c ≤ n) : sliceBounds (some (a : Int)) (some (c : Int)) none n = ((a : Int), (c : Int), 1) := by
  simp only [sliceBounds, Option.getD_none]
  have h1 : ¬ ((a : Int) < 0) := by omega
  have h2 : ¬ ((c : Int) < 0) := by omega
  simp only [h1, h2, if_false, show (1 : Int) > 0 by decide, if_true]
  congr 1
  · omega
  · congr 1; omega
set_option maxRecDepth 100000 in
/-- list.__setitem__ with a slice of step one and another list -/
theorem setItem_slice {l b sl : Addr} {items new : Array Value} {n n2 : Nat} {vl vu : Value} {a c : Nat} {Q : Unit → Shared → Prop}
    (e : s.heap.get? l = some { cls := .type "list", data := .seq items n }) (e2 : s.heap.get? b = some { cls := .type "list", data := .seq new n2 }) (hne : l ≠ b)
    (hs : s.heap.IsSliceOf sl vl vu .none) (pl : IsPart vl (some (a : Int))) (pu : IsPart vu (some (c : Int))) (hac : a ≤ c) (hc : c ≤ items.size)
    (hsz : items.size + new.size ≤ sizeLine) (h : Q () { s with heap := s.heap.update l (Obj.mapSeq fun xs => xs.extract 0 a ++ new ++ xs.extract c xs.size) }) :
    wpAny (model prog w) A (setItem (.ref l) (.ref sl) (.ref b)) Q E s := by
  have hl : s.heap.IsList l items := PySem.IsL.isList e
  have hb : s.heap.IsList b new := PySem.IsL.isList e2
  obtain ⟨os, hos, hcs, hds⟩ := id hs
  have hTs : s.TypeIs (.ref sl) "slice" := ⟨os, hos, hcs⟩
  have hstep : ¬ ((rawPart none == rawInt 0) = true) := Bool.false_ne_true
  have hsame : Builtin.List.listSameRef (.ref l) (.ref b) = false := by
    unfold Builtin.List.listSameRef
    exact beq_eq_false_iff_ne.mpr hne
  have hmax : (max (a : Int) (c : Int)).toNat = c := by omega
  have hz' : ((fun xs : Array Value => xs.extract 0 a ++ new ++ xs.extract c xs.size) items).size ≤ sizeLine + 1 := by
    simp only [Array.size_append, Array.size_extract]
    omega
  unfold setItem
  try with_reducible refine wpAny_holding ?_
  first | refine wpAny_bind (wpAny_pure ?_) | skip
  refine wpAny_bind (wpAny_sequenceKey hl.typeIs (by decide) ?_)
  refine wpAny_bind (wpAny_callSpecial?_slot (name := Str.ofString "__setitem__") hl.typeIs slot_list_setitem
    (wpAny_call_entry slot_list_setitem hl.typeIs entry_list_setitem ?_ (args_list_setitem _ _ _)))
  show wpAny _ _ (Builtin.List.listSubscript? (.ref sl) >>= _) _ _ s
  refine wpAny_bind ?_
  unfold Builtin.List.listSubscript?
  refine wpAny_bind (wpAny_specialOf hTs slice_no_index ?_)
  simp only [Option.isNone_none, if_true]
  refine wpAny_pure ?_
  show wpAny _ _ (typeOf (.ref sl) >>= _) _ _ s
  refine wpAny_bind (wpAny_typeOf hTs ?_)
  first
    | rw [if_neg (by decide)]
    | refine PySem.W.KFB.if_not (by decide) ?_
  rw [listSliceParts_eq]
  refine wpAny_bind (wpAny_bind (wpAny_field hos hds (x := .none) rfl (wpAny_bind (wpAny_listPart .none ?_))))
  rw [if_neg hstep]
  refine wpAny_bind (wpAny_field hos hds (x := vl) rfl (wpAny_bind (wpAny_listPart pl ?_)))
  refine wpAny_bind (wpAny_field hos hds (x := vu) rfl (wpAny_bind (wpAny_listPart pu (wpAny_pure ?_))))
  first
    | simp only [hsame, Bool.false_eq_true, if_false]
    | refine PySem.W.KFB.if_not hsame ?_
    | (dsimp only
       rw [if_neg (by rw [hsame]; exact Bool.false_ne_true)])
  refine wpAny_bind (m := Builtin.List.listAllItems (.ref b) "must assign iterable to extended slice") ?_
  unfold Builtin.List.listAllItems
  refine wpAny_bind (wpAny_typeOf hb.typeIs ?_)
  first
    | refine PySem.W.KFB.if_so (by decide) ?_
    | rw [if_pos (by decide)]
    | simp only [beq_self_eq_true, Bool.true_or, if_true]
  unfold Builtin.List.listItems
  refine wpAny_bind (wpAny_seqItems e2 rfl (wpAny_pure ?_))
  refine wpAny_bind (wpAny_bind (wpAny_seqItems e rfl (wpAny_pure ?_)))
  refine wpAny_bind (wpAny_of_eq ((sliceIndices_raw (some (a : Int)) (some (c : Int)) none items.size (by simp)).trans (congrArg (pure : Int × Int × Int → Sem (Int × Int × Int)) (bounds_run hac hc))) ?_)
  show wpAny _ _ (if ((1 : Int) == 1) = true then _ else _) _ _ s
  rw [if_pos (by decide)]
  refine wpAny_bind (wpAny_rule ?_)
  first
    | simp only [notLongL hsz, Bool.false_eq_true, if_false]
    | refine PySem.W.KFB.if_not (notLongL hsz) ?_
  first | refine wpAny_bind (wpAny_pure ?_) | skip
  show wpAny _ _ (updateSeq l (fun xs => xs.extract 0 ((a : Int)).toNat ++ new ++ xs.extract (max (a : Int) (c : Int)).toNat xs.size) >>= _) _ _ s
  rw [hmax, Int.toNat_natCast]
  refine wpAny_bind (wpAny_updateSeq (hz := Nat.le_trans (Nat.le_add_right _ _) hsz) (_hz' := hz') e rfl ?_)
  refine wpAny_bind (wpAny_letGo ?_)
  first
    | exact wpAny_bind (wpAny_pure (wpAny_pure ⟨.none, rfl, wpAny_pure h⟩))
    | exact wpAny_pure ⟨.none, rfl, wpAny_pure h⟩
end

section
variable {X : Cx}
/-- xs[a:c] = ys of another list, at the value level: sl is the slice object that was just made -/
theorem set_slice {pins : List (Addr × Obj)} {s : Shared} {σ : St} {H : Hp} {l b sl : Addr} {xs ys : List V} {a c : Int} {vl vu : Value} {Q : Unit → Shared → Prop} (I : Inv X pins σ H s)
    (hH : H l = some (.lst xs)) (hB : H b = some (.lst ys)) (hne : l ≠ b) (hs : s.heap.IsSliceOf sl vl vu .none) (ra : RelV (.int a) vl) (rc : RelV (.int c) vu) (h0 : 0 ≤ a) (hac : a ≤ c) (hc : c ≤ xs.length)
    (hz : xs.length + ys.length ≤ sizeLine) (h : ∀ s', Inv X pins σ (upd H l (.lst (xs.take a.toNat ++ ys ++ xs.drop c.toNat))) s' → Q () s') :
    wpAny (model X.prog X.w) X.A (setItem (.ref l) (.ref sl) (.ref b)) Q X.xe s := by
  obtain ⟨ta, rfl⟩ := ra
  obtain ⟨tc, rfl⟩ := rc
  obtain ⟨z, its, n, r, hl, e⟩ := I.lstM hH
  obtain ⟨z2, its2, n2, r2, hl2, e2⟩ := I.lstM hB
  obtain ⟨a', rfl⟩ := Int.eq_ofNat_of_zero_le h0
  obtain ⟨c', rfl⟩ := Int.eq_ofNat_of_zero_le (Int.le_trans h0 hac)
  simp only [Int.toNat_natCast] at h
  refine setItem_slice (a := a') (c := c') e e2 hne hs (.int _ _) (.int _ _) (by omega) (by rw [List.size_toArray]; omega) (by rw [List.size_toArray, List.size_toArray]; omega) (h _ ?_)
  refine I.lset (its' := its.take a' ++ its2 ++ its.drop c') (t' := s.toks) hH e ?_ (Vals.append (Vals.append (r.take _) r2) (r.drop _)) ?_
  · exact splice_eq its its2 a' c'
  · rw [List.length_append, List.length_append, List.length_take, List.length_drop]
    omega
end
end L2

namespace Att
open PySem PySem.W PySem.Calls PyProof.Rows

/-! ### the script -/
theorem ints_of_wellAll {P : Params} {h : Heap} : ∀ (ns : List Int) (vs : List Value), WellAll P h vs (ns.map WData.int) → IntsAre vs ns := by
  intro ns
  induction ns with
  | nil =>
    intro vs w
    rw [List.map_nil] at w
    cases w
    exact .nil
  | cons n ns ih =>
    intro vs w
    rw [List.map_cons] at w
    cases w with
    | cons a b =>
      cases a
      exact .cons _ _ (ih _ b)

theorem script_of {l : OpenLaw} {n : Nat} (hn : l.most = some n) {P : Params} {h : Heap} {args : List WData} {vals : List Value}
    (hpre : l.row.toRowW.claim.pre args = true) (hwl : WellAll P h vals args) :
    ∃ a vs ns, vals = [Value.ref a] ∧ args = [WData.list (ns.map WData.int)] ∧ h.get? a = some { cls := .type "list", data := .seq vs.toArray } ∧ IntsAre vs ns ∧ ns.length ≤ n := by
  have hsh : WShape.hasAll [] args [.list .int] = true := (pre_splitW hpre).1
  have hc : l.pre.holds [] { args := args } = true := (pre_splitW hpre).2
  obtain ⟨d, r, rfl, h1, h2⟩ := hasAllW_cons hsh
  obtain rfl := hasAllW_nil h2
  obtain ⟨xs, rfl, h3⟩ := hasW_list h1
  obtain ⟨ns, rfl⟩ := items_int h3
  have hlen : ns.length ≤ n := by
    unfold OpenLaw.pre at hc
    have h4 : (WTm.not (.lt (.lit (.int (n : Int))) (.len (.arg 0)))).holds [] { args := [.list (ns.map .int)] } = true := by
      have h4 := (holds_andW hc).1
      rw [hn] at h4
      exact h4
    have h5 := condW_of h4 (w_not (w_lt w_lit (w_len_list (w_arg rfl))))
    rw [List.length_map] at h5
    refine Nat.le_of_not_lt fun q => ?_
    have q' : (n : Int) < ((ns.length : Nat) : Int) := by omega
    first
      | (rw [decide_eq_true q'] at h5; exact absurd h5 (by decide))
      | (simp at h5; omega)
  cases hwl with
  | cons w1 w2 =>
    cases w2
    cases w1 with
    | list ho hall => exact ⟨_, _, ns, rfl, rfl, ho, ints_of_wellAll ns _ hall, hlen⟩

theorem post_true (l : OpenLaw) (args : List WData) : l.row.toRowW.claim.post args (.bool true) args = true :=
  postW_of (r := l.row.toRowW) (X := (true == true))
    (show WShape.has [] (.bool true) .bool = true by first | rfl | decide | simp [WShape.has, WShape.arms, WShape.armsAll])
    (show (WTm.eq .res (.lit (.bool true))).value [] { args := args, res := some (.bool true), after := args } = some (.bool (true == true)) from w_eq_bool (w_res rfl) w_lit) rfl

/-! ### the attachment: holds_open's last premise (the goal 'hc' behind k_head) from a wpAny of the law's body -/
theorem attach {l : OpenLaw} {n : Nat} {q : Program} {loose : List Str} {XP : (Str → Option Value) → Heap → Prop} {YP : World → Heap → Prop} {d : DefRec} {x : Str}
    (hn : l.most = some n) (hdf : d.params.defaults = [])
    (hbind : ∀ pm cd doc v : Value, bindArgs (docDef d.name d.params d.body d.scope pm cd doc) ⟨[v], []⟩ = pure [(x, v)])
    (hx : d.scope.names.lookup x = some .local ∨ d.scope.names.lookup x = some .cell)
    (hk : d.scope.kind = .function) (hco : d.scope.isCoroutine = false) (hgen : d.scope.isGenerator = false)
    (body : ∀ (w : World) (s₀ s₁ s : Shared) (mg mb : Str → Option Value) (fa : Addr) (o : Obj) (pm cd doc : Value) (a : Addr) (vs : List Value) (ns : List Int),
      Ground q loose [] XP w s₀ mg mb s₁.heap → YP w s₁.heap →
      s₁.heap.get? fa = some o → o.data = .func (docDef d.name d.params d.body d.scope pm cd doc) → s₁.heap.CodeRec cd d.name → mg d.name = some (.ref fa) →
      s₁.heap.get? a = some { cls := .type "list", data := .seq vs.toArray } → IntsAre vs ns → ns.length ≤ n →
      s.gens = #[] → s.os = s₁.os →
      Fr s₁.heap s₁.heap.objs.size s.heap (bindL (envOfC d.name d.scope s₁.heap.objs.size fa cd).kindOf [(x, .ref a)] fun _ => none) →
      Cl s₁.heap.objs.size (cellsFrom (s₁.heap.objs.size + 1) d.scope.names []) s.heap (bindC (envOfC d.name d.scope s₁.heap.objs.size fa cd).kindOf [(x, .ref a)] fun _ => none) →
      wpAny (model l.prog w) (callerA.deeper (envOfC d.name d.scope s₁.heap.objs.size fa cd)) (execs d.body (envOfC d.name d.scope s₁.heap.objs.size fa cd))
        (fun f s' => f = .ret (.bool true) ∧ OldK s₁.heap s'.heap ∧ s'.os = s₁.os ∧ AllBare s'.gens) (fun _ _ => False) s) :
    WalkO q loose XP YP l.row.toRowW d [] (fun f vs => PySem.call f vs) := by
  intro w s₀ s₁ mg mb G Y fa o pm cd doc dV kV ho hd hcd hD hmg hg args vals as hpre hlay hrd hwl hlo
  obtain rfl : dV = .none := Dflts.none hD hdf
  obtain rfl : kV = .none := Dflts.noKw hD
  obtain ⟨a, vs, ns, rfl, rfl, hobj, hints, hlen⟩ := script_of hn hpre hwl
  refine enter_call ?_
  refine call_cells_ret (o := o) (by rw [depth_caller]; decide) ho (fd_plain hd) G.T.nolimit hcd (hbind pm cd doc (.ref a)) (fun y hy => ?_) (fun h₁ tk F X => ?_) hco hgen hk
  · obtain rfl : y = (x, Value.ref a) := List.mem_singleton.mp hy
    rcases hx with e | e
    · exact .inl e
    · exact .inr ⟨e, cellsFrom_some _ _ _ (.inl e)⟩
  · refine wpAny_mono (body w s₀ s₁ { s₁ with heap := h₁, toks := tk } mg mb fa o pm cd doc a vs ns G Y ho (fd_plain hd) hcd hmg hobj hints hlen hg rfl F X) (fun f s' hq => ?_) (fun _ _ hq => hq)
    obtain ⟨rfl, h2, h3, h4⟩ := hq
    exact ⟨.inl ⟨.bool true, .bool true, [], rfl, fun _ => rfl, .bool true, post_true l _, fun _ => ⟨List.Pairwise.nil, fun _ hm => (nomatch hm)⟩⟩, h2, h3, h4⟩

/-- the same from a codeAny of the CALL (for a layer whose function contracts speak of calls) -/
theorem attach_call {l : OpenLaw} {n : Nat} {q : Program} {loose : List Str} {XP : (Str → Option Value) → Heap → Prop} {YP : World → Heap → Prop} {d : DefRec}
    (hn : l.most = some n) (hdf : d.params.defaults = [])
    (call : ∀ (w : World) (s₀ s₁ : Shared) (mg mb : Str → Option Value) (fa : Addr) (o : Obj) (pm cd doc : Value) (a : Addr) (vs : List Value) (ns : List Int),
      Ground q loose [] XP w s₀ mg mb s₁.heap → YP w s₁.heap →
      s₁.heap.get? fa = some o → o.data = .func (docDef d.name d.params d.body d.scope pm cd doc) → s₁.heap.CodeRec cd d.name → mg d.name = some (.ref fa) →
      s₁.heap.get? a = some { cls := .type "list", data := .seq vs.toArray } → IntsAre vs ns → ns.length ≤ n → s₁.gens = #[] →
      codeAny (model l.prog w) callerA (.call (.ref fa) ⟨[.ref a], []⟩) (fun r s' => r = .ok (.ret (.bool true)) ∧ OldK s₁.heap s'.heap ∧ s'.os = s₁.os ∧ AllBare s'.gens) s₁) :
    WalkO q loose XP YP l.row.toRowW d [] (fun f vs => PySem.call f vs) := by
  intro w s₀ s₁ mg mb G Y fa o pm cd doc dV kV ho hd hcd hD hmg hg args vals as hpre hlay hrd hwl hlo
  obtain rfl : dV = .none := Dflts.none hD hdf
  obtain rfl : kV = .none := Dflts.noKw hD
  obtain ⟨a, vs, ns, rfl, rfl, hobj, hints, hlen⟩ := script_of hn hpre hwl
  refine enter_call (codeAny_mono (call w s₀ s₁ mg mb fa o pm cd doc a vs ns G Y ho (fd_plain hd) hcd hmg hobj hints hlen hg) fun r s' hq => ?_)
  obtain ⟨rfl, h2, h3, h4⟩ := hq
  exact ⟨.inl ⟨.bool true, .bool true, [], rfl, fun _ => rfl, .bool true, post_true l _, fun _ => ⟨List.Pairwise.nil, fun _ hm => (nomatch hm)⟩⟩, h2, h3, h4⟩

/-- the same where the top left finished generators (o_head chose holds_openN): nothing may have changed at all and no generator may be left -/
theorem attachN {l : OpenLaw} {n : Nat} {q : Program} {loose : List Str} {XP : (Str → Option Value) → Heap → Prop} {YP : World → Heap → Prop} {d : DefRec} {x : Str}
    (hn : l.most = some n) (hdf : d.params.defaults = [])
    (hbind : ∀ pm cd doc v : Value, bindArgs (docDef d.name d.params d.body d.scope pm cd doc) ⟨[v], []⟩ = pure [(x, v)])
    (hx : d.scope.names.lookup x = some .local ∨ d.scope.names.lookup x = some .cell)
    (hk : d.scope.kind = .function) (hco : d.scope.isCoroutine = false) (hgen : d.scope.isGenerator = false)
    (body : ∀ (w : World) (s₀ s₁ s : Shared) (mg mb : Str → Option Value) (fa : Addr) (o : Obj) (pm cd doc : Value) (a : Addr) (vs : List Value) (ns : List Int),
      Ground q loose [] XP w s₀ mg mb s₁.heap → YP w s₁.heap →
      s₁.heap.get? fa = some o → o.data = .func (docDef d.name d.params d.body d.scope pm cd doc) → s₁.heap.CodeRec cd d.name → mg d.name = some (.ref fa) →
      s₁.heap.get? a = some { cls := .type "list", data := .seq vs.toArray } → IntsAre vs ns → ns.length ≤ n →
      s.gens = #[] → s.os = s₁.os →
      Fr s₁.heap s₁.heap.objs.size s.heap (bindL (envOfC d.name d.scope s₁.heap.objs.size fa cd).kindOf [(x, .ref a)] fun _ => none) →
      Cl s₁.heap.objs.size (cellsFrom (s₁.heap.objs.size + 1) d.scope.names []) s.heap (bindC (envOfC d.name d.scope s₁.heap.objs.size fa cd).kindOf [(x, .ref a)] fun _ => none) →
      wpAny (model l.prog w) (callerA.deeper (envOfC d.name d.scope s₁.heap.objs.size fa cd)) (execs d.body (envOfC d.name d.scope s₁.heap.objs.size fa cd))
        (fun f s' => f = .ret (.bool true) ∧ (∀ b o, s₁.heap.get? b = some o → s'.heap.get? b = some o) ∧ s'.os = s₁.os ∧ s'.gens = #[]) (fun _ _ => False) s) :
    WalkN q loose XP YP l.row.toRowW d [] (fun f vs => PySem.call f vs) := by
  intro w s₀ s₁ mg mb G Y fa o pm cd doc dV kV ho hd hcd hD hmg hg args vals as hpre hlay hrd hwl hlo
  obtain rfl : dV = .none := Dflts.none hD hdf
  obtain rfl : kV = .none := Dflts.noKw hD
  obtain ⟨a, vs, ns, rfl, rfl, hobj, hints, hlen⟩ := script_of hn hpre hwl
  refine enter_callW ?_
  refine call_cells_ret (o := o) (by rw [depth_caller]; decide) ho (fd_plain hd) G.T.nolimit hcd (hbind pm cd doc (.ref a)) (fun y hy => ?_) (fun h₁ tk F X => ?_) hco hgen hk
  · obtain rfl : y = (x, Value.ref a) := List.mem_singleton.mp hy
    rcases hx with e | e
    · exact .inl e
    · exact .inr ⟨e, cellsFrom_some _ _ _ (.inl e)⟩
  · refine wpAny_mono (body w s₀ s₁ { s₁ with heap := h₁, toks := tk } mg mb fa o pm cd doc a vs ns G Y ho (fd_plain hd) hcd hmg hobj hints hlen hg rfl F X) (fun f s' hq => ?_) (fun _ _ hq => hq)
    obtain ⟨rfl, h2, h3, h4⟩ := hq
    exact ⟨.inl ⟨.bool true, .bool true, [], rfl, fun _ => rfl, .bool true, post_true l _, fun _ => ⟨List.Pairwise.nil, fun _ hm => (nomatch hm)⟩⟩, h2, h3, h4⟩

/-! ### rules over ANY heap (no ledger) from facts about the written part K: the library's own take a ledger (News) for what they write -/
section
variable {prog : Program} {w : World} {A : Around} {E : Value → Shared → Prop} {s : Shared} {K : Frag}

/-- a def of the module, or a method (qual 'C.m'), entered: the frame is the next address; cells behind it -/
theorem call_fn {R : Result → Shared → Prop} {name qual : Str} {params : Arguments} {body : List Stmt} {scope : Scope} {dV kV doc pm cdv ct oc : Value} {an od : Option Addr} {osl : Array (Option Value)} {f : Addr} {args : Args} {binds : List (Str × Value)}
    (X : K.In s.heap) (hlim : s.heap.NoLimit) (ho : K.lookup f = some ⟨oc, od, .func (fnOf name qual params body scope dV kV doc pm an cdv ct), osl⟩) (hcd : codeIn K cdv qual = true) (hroom : A.depth < recursionLimit)
    (hbind : BindsTo s (fnOf name qual params body scope dV kV doc pm an cdv ct) args binds)
    (hkind : (binds.all fun y => scope.names.lookup y.1 == some .local || scope.names.lookup y.1 == some .cell) = true)
    (h : ∀ s₁, InCallC s s.heap.objs.size (bindL (envOfC qual scope s.heap.objs.size f cdv).kindOf binds fun _ => none) (cellsFrom (s.heap.objs.size + 1) scope.names [])
        (bindC (envOfC qual scope s.heap.objs.size f cdv).kindOf binds fun _ => none) s₁ →
      wpAny (model prog w) (A.deeper (envOfC qual scope s.heap.objs.size f cdv)) (execs body (envOfC qual scope s.heap.objs.size f cdv))
        (fun fl s' => R (.ok (.ret (match fl with | .ret v => v | _ => .none))) s')
        (fun e s' => wpAny (model prog w) (A.deeper (envOfC qual scope s.heap.objs.size f cdv)) (leaving (envOfC qual scope s.heap.objs.size f cdv) e) (fun _ s'' => R (.error e) s'') (fun e' s'' => R (.error e') s'') s') s₁)
    (hco : scope.isCoroutine = false) (hgen : scope.isGenerator = false) (hk : scope.kind = .function) : codeAny (model prog w) A (.call (.ref f) args) R s := by
  refine codeAny_call_function hroom (X _ _ ho) rfl hco hgen rfl (codeRec_of X hcd) (hbind _ _ _ _ ?_)
  refine wpAny_newFunctionEnv_cells hk (kindsX hkind _) fun env he s₁ x => ?_
  subst he
  exact ⟨hlim.keeps x.toInCall.keep, codeAny_func (h s₁ x)⟩

/-- C(..): dict at size, instance at size + 1, then __init__ -/
theorem make_obj {R : Result → Shared → Prop} {C fI : Addr} {rest : List Value} {kw : List (Str × Value)}
    (X : K.In s.heap) (hm : makesIn K C = true) (hi : findIn K (.ref C) "__init__" = some (some (.ref fI))) (hf : isFn K (.ref fI) = true)
    (h : codeAny (model prog w) (A.under (.builtin "type.__call__" ⟨.ref C :: rest, kw⟩)) (.call (.ref fI) ⟨.ref (s.heap.objs.size + 1) :: rest, kw⟩) (InitBack (s.heap.objs.size + 1) R)
      { s with heap := (s.heap.push emptyDict).push (instObj C s.heap.objs.size) }) : codeAny (model prog w) A (.call (.ref C) ⟨rest, kw⟩) R s := by
  obtain ⟨hh, g, d, t, os⟩ := s
  exact make_core (makes_of X hm) (looks_findIn X hi) (fun self => bind_fn X self (beq_iff_eq.mp hf)) (.inl rfl) h

/-- x.name where the instance's dict holds the name and the class does not -/
theorem get_field {x C : Addr} {ox : Obj} {es : List DictEntry} {n : Nat} {name : Str} {expr : Bool} {v : Value} {Q : Value → Shared → Prop}
    (X : K.In s.heap) (I : PySem.W.InstAt s.heap x ox C (some (dictOf es n))) (hg : plainGet K C name = true) (hh : hasDictIn K C = true) (ha : findIn K (.ref C) name = some none)
    (hl : getL name es = some (some v)) (hv : handedIn v = true) (h : Q v { s with toks := s.toks + 1 }) : wpAny (model prog w) A (getAttr (.ref x) name expr) Q E s :=
  get_value X I (plainGet_of hg).1 (findObj_own hh ha rfl hl) hv h

/-- x.m(..): the method found in the class -/
theorem get_method {x C f : Addr} {ox : Obj} {es : List DictEntry} {n : Nat} {name : Str} {pl : Sem Bool} {Q : Value × List Value → Shared → Prop}
    (X : K.In s.heap) (I : PySem.W.InstAt s.heap x ox C (some (dictOf es n))) (hg : plainGet K C name = true) (hf : findIn K (.ref C) name = some (some (.ref f))) (ht : isFn K (.ref f) = true)
    (hl : getL name es = some none) (h : Q (.ref f, [.ref x]) s) : wpAny (model prog w) A (getMethod (.ref x) name pl) Q E s :=
  method_fn X I (plainGet_of hg).1 (plainGet_of hg).2 hf (beq_iff_eq.mp ht) (by show (lookIn name (dictOf es n)).map _ = _; rw [lookIn_dict, hl]; rfl) h

/-! the whole heap as the ledger: makes every rule that writes through a ledger a rule over any heap -/
def noObjs (h : Heap) : Heap := { h with objs := #[] }
theorem noObjs_get (h : Heap) (b : Addr) : (noObjs h).get? b = none := by
  cases e : (noObjs h).get? b with
  | none => rfl
  | some o => exact absurd (Heap.lt_size e) (Nat.not_lt_zero _)
def ledger (h : Heap) (L d : Addr) : List (Addr × Obj) := (List.range h.objs.size).filterMap fun a => if a = L ∨ a = d then none else (h.get? a).map fun o => (a, o)
theorem mem_ledger {h : Heap} {L d a : Addr} {o : Obj} : (a, o) ∈ ledger h L d ↔ a ≠ L ∧ a ≠ d ∧ h.get? a = some o := by
  unfold ledger
  rw [List.mem_filterMap]
  constructor
  · rintro ⟨b, _, e⟩
    split at e
    · cases e
    · rename_i hb
      obtain ⟨o', ho, e'⟩ := Option.map_eq_some_iff.mp e
      cases e'
      exact ⟨fun q => hb (.inl q), fun q => hb (.inr q), ho⟩
  · rintro ⟨n1, n2, ho⟩
    refine ⟨a, List.mem_range.mpr (Heap.lt_size ho), ?_⟩
    rw [if_neg (show ¬ (a = L ∨ a = d) from fun q => q.elim n1 n2), ho] <;> rfl
theorem news_ledger {h : Heap} {L d : Addr} {od : Obj} (hne : d ≠ L) (ho : h.get? d = some od) : News (noObjs h) L h ([] ++ (d, od) :: ledger h L d) := by
  rintro ⟨a, o⟩ hp
  rcases List.mem_cons.mp hp with e | hp
  · cases e
    exact ⟨ho, hne, noObjs_get _ _⟩
  · obtain ⟨n1, n2, e⟩ := mem_ledger.mp hp
    exact ⟨e, n1, noObjs_get _ _⟩
theorem fr_all {h : Heap} {L : Addr} {m : Str → Option Value} (n : h.Ns L m) : Fr (noObjs h) L h m :=
  ⟨n, fun b o e => (by rw [noObjs_get] at e; cases e), Nat.zero_le _⟩
/-- Upd of the head entry (for append_K, setItem_K ..) -/
theorem upd_ledger {h : Heap} {L d : Addr} {o o' : Obj} : Upd d o o' ((d, o) :: ledger h L d) ((d, o') :: ledger h L d) :=
  .head fun ⟨_, _⟩ hp => (mem_ledger.mp hp).2.1

/-- x.name = v over any heap: L is any namespace of the heap (the frame's, say): its map stays, its object is not told; all else but the dict stays -/
theorem set_field {x C dx L : Addr} {ox : Obj} {m : Str → Option Value} {es es' : List DictEntry} {n n' : Nat} {name : Str} {v : Value} {Q : Unit → Shared → Prop}
    (X : K.In s.heap) (I : PySem.W.InstAt s.heap x ox C (some (dictOf es n))) (hd : ox.dict = some dx) (hL : s.heap.Ns L m) (hne : dx ≠ L)
    (hs : findIn K (.ref C) "__setattr__" = some (some (.builtin "object.__setattr__"))) (hp : plainOver K C = true) (ht : takerIn K C name = some none) (hh : hasDictIn K C = true) (hl : (getL name es).isSome = true)
    (e : (putL name (PyData.keyHash w.params name) (.str name (s.toks + 1)) v es, putN name es n) = (es', n')) (hz : es'.length ≤ 1000)
    (h : ∀ h' : Heap, h'.Ns L m → h'.get? dx = some (dictOf es' n') → (∀ b o, b ≠ dx → b ≠ L → s.heap.get? b = some o → h'.get? b = some o) → Q () { s with heap := h', toks := s.toks + 2 }) :
    wpAny (model prog w) A (setAttr (.ref x) name v) Q E s := by
  obtain ⟨e1, e2⟩ := Prod.mk.inj e
  have hdx : s.heap.get? dx = some (dictOf es n) := by
    have := I.dict
    rw [hd] at this
    exact this
  refine set_plain X I hs (osa_dict (s := { s with toks := s.toks + 1 }) (h₀ := noObjs s.heap) (L := L) (m := m) (od := dictOf es n) (od' := dictOf es' n') (es := es') (n := n') (pre := []) (post := ledger s.heap L dx)
    (fr_all hL) (news_ledger hne hdx) X I hd hp ht hh hl (fun _ q => nomatch q) (fun ⟨_, _⟩ q => (mem_ledger.mp q).2.1) (by rw [putName_dict, e1, e2]) rfl hz fun h' F' N' => ?_)
  exact h h' F'.ns (N'.get (List.Mem.head _)) fun b o n1 n2 ho => N'.get (List.Mem.tail _ (mem_ledger.mpr ⟨n2, n1, ho⟩))
end
end Att

namespace L2
open PySem PySem.Spec PyProof.Rows

theorem vals_ints : ∀ {vs : List Value} {ns : List Int}, IntsAre vs ns → Vals (ns.map V.int) vs
  | _, _, .nil => .nil
  | _, _, .cons n t h => .cons ⟨t, rfl⟩ (vals_ints h)

/-- nothing is tracked but the script, known to the object (or it is an object of the module) -/
def Only (H : Hp) : Prop := ∀ b, H b = none ∨ ∃ o xs, H b = some (.frz o (.lst xs))

/-- THE HEAD: the law's promise, at the heap behind the top. F, the promise of the law's def, may use that base is part of the heap (so K.In base, base.Ns mainGlobals mg stand in Mod) -/
theorem law_call {P : Program} {w : World} {K : PySem.W.Frag} {mg mb : Str → Option Value} {CX : CXT} {k : Nat} {fa a : Addr} {fd : FuncData} {x : Str} {sp : Sp} {s₁ : Shared} {vs : List Value} {ns : List Int}
    (KX : K.In s₁.heap) (hns : s₁.heap.Ns mainGlobals mg) (hb : s₁.heap.Ns builtinsNs mb) (hbb : ∀ x : Str, x ≠ "__name__" → mb x = bootBuiltins x) (hlim : s₁.heap.NoLimit) (hg : s₁.gens = #[])
    (ha : s₁.heap.get? a = some { cls := .type "list", data := .seq vs.toArray }) (hi : IntsAre vs ns) (hl : ns.length ≤ sizeLine) (hr : Room k callerA)
    (F : ∀ base : Heap, K.In base → base.Ns mainGlobals mg → FnOk P w K mg base CX k fa fd [x] sp) (hbind : ∀ (s : Shared) (u : Value), BindsTo s fd ⟨[u], []⟩ [(x, u)])
    (hsp : ∀ H : Hp, Only H → SqL K H a (ns.map V.int) → sp [.ref a] H (fun v _ => v = .bl true) fun _ _ _ => False)
    (hCX : ∀ H e s', CX [] H s₁ (fun _ _ _ => False) e s' → False) :
    codeAny (model P w) callerA (.call (.ref fa) ⟨[.ref a], []⟩) (fun r s' => r = .ok (.ret (.bool true)) ∧ OldK s₁.heap s'.heap ∧ s'.os = s₁.os ∧ AllBare s'.gens) s₁ := by
  have rv := vals_ints hi
  have lenV := hi.length
  -- from an abstract heap in which nothing but the script may be tracked
  have core : ∀ H : Hp, Only H → SqL K H a (ns.map V.int) → HOk P w H s₁.heap → (∀ b, H b ≠ none → b = a) → (H a ≠ none → K.lookup a = none) →
      codeAny (model P w) callerA (.call (.ref fa) ⟨[.ref a], []⟩) (fun r s' => r = .ok (.ret (.bool true)) ∧ OldK s₁.heap s'.heap ∧ s'.os = s₁.os ∧ AllBare s'.gens) s₁ := by
    intro H hO hS hok hA hK
    have base_of : ∀ {b : Addr} {o : Obj}, s₁.heap.get? b = some o → H b = none → (hidT s₁.heap H).get? b = some o := fun e n => hidT_get e n
    have noA : ∀ {b : Addr} {o : Obj} {es : Array DictEntry} {ep : Nat}, s₁.heap.get? b = some o → o.data = .dict es ep → H b = none := fun {b o es ep} e d => by
      cases q : H b with
      | none => rfl
      | some u =>
        have e' : b = a := hA b (by rw [q]; simp)
        subst e'
        rw [ha] at e; cases e
        have d' : Data.seq vs.toArray _ = Data.dict es ep := d
        cases d'
    have nsK : ∀ {b : Addr} {m : Str → Option Value}, s₁.heap.Ns b m → (hidT s₁.heap H).Ns b m := fun {b m} ⟨o, es, ep, e, d, r⟩ => ⟨o, es, ep, base_of e (noA e d), d, r⟩
    have hKb : K.In (hidT s₁.heap H) := fun b o e => base_of (KX b o e) (by
      cases q : H b with
      | none => rfl
      | some u =>
        have e' : b = a := hA b (by rw [q]; simp)
        subst e'
        rw [hK (by rw [q]; simp)] at e; cases e)
    have hM : Mod K mg (hidT s₁.heap H) := ⟨hKb, nsK hns, ⟨mb, nsK hb, hbb⟩, let ⟨mc, h1, h2⟩ := hlim; ⟨mc, nsK h1, h2⟩⟩
    have e0 : Env0 P w K mg (hidT s₁.heap H) callerA [] s₁ H := ⟨rfl, hM, fun b o e => of_hidT e, Nat.le_of_eq (hidT_size _ _), trivial, fun b hb => absurd (show b ∈ ([] : List Addr) from hb) (by simp), hok, .of_eq hg⟩
    refine codeAny_mono ((F _ hKb (nsK hns)).run callerA [] s₁ H ⟨[.ref a], []⟩ [.ref a] [.ref a] _ _ hr e0 (hbind s₁ (.ref a)) (.cons rfl .nil) (hsp H hO hS)) fun r s' h => ?_
    cases r with
    | error e => exact (hCX H e s' h).elim
    | ok fl =>
      cases fl with
      | next => exact False.elim h
      | brk => exact False.elim h
      | cont => exact False.elim h
      | ret u =>
        obtain ⟨v, H', os, bare, un, hok', r', q⟩ := h
        have q' : v = .bl true := q
        subst q'
        obtain rfl : u = Value.bool true := r'
        refine ⟨rfl, OldK.of_keep fun b o e => ?_, os, bare⟩
        cases q : H b with
        | none => exact un.keep b o e q (by intro z; exact absurd (show b ∈ ([] : List Addr) from z) (by simp)) (by simp)
        | some u =>
          rcases hO b with z | ⟨ob, xs, z⟩
          · rw [q] at z; cases z
          · have z2 := un.frzs b ob _ z
            obtain ⟨e1, _⟩ := hok b _ z
            obtain ⟨e2, _⟩ := hok' b _ z2
            rw [e] at e1; cases e1
            exact e2
  cases hk : K.lookup a with
  | some o =>
    -- the script is one of the module's own objects
    have e := KX a o hk
    rw [ha] at e
    cases e
    refine core (fun _ => none) (fun _ => .inl rfl) (.inr ⟨_, vs.toArray, _, hk, rfl, rfl, rfl, by rw [List.size_toArray, lenV]; exact hl, by simpa using rv⟩) (fun b u z => by have z' : (none : Option HO) = some u := z; cases z') (fun b z => absurd rfl z) fun z => absurd rfl z
  | none =>
    refine core (fun b => if b = a then some (.frz { cls := .type "list", data := .seq vs.toArray } (.lst (ns.map V.int))) else none) (fun b => ?_) (.inl (.inr ⟨{ cls := .type "list", data := .seq vs.toArray }, if_pos rfl⟩)) (fun b u z => ?_) (fun b z => ?_) fun _ => hk
    · by_cases hb : b = a
      · exact .inr ⟨_, _, if_pos hb⟩
      · exact .inl (if_neg hb)
    · by_cases hb : b = a
      · have z' := (if_pos hb).symm.trans z
        cases z'
        subst hb
        exact ⟨ha, by rw [List.length_map]; exact hl, vs, _, rv, ha⟩
      · have z' := (if_neg hb).symm.trans z
        cases z'
    · by_cases hb : b = a
      · exact hb
      · exact absurd (if_neg hb) z
end L2

namespace L2
open PySem PySem.Spec PyProof.Rows

abbrev KOf {K : PySem.W.Frag} {h : Heap} (_ : K.In h) : PySem.W.Frag := K

/-- the goal that k_head leaves (case hc), from the law's promise. F gives the function object fd (K's own) once, then the promise over every base -/
theorem walk_of {l : PySem.W.OpenLaw} {n k : Nat} {q : Program} {loose : List Str} {XP : (Str → Option Value) → Heap → Prop} {YP : World → Heap → Prop} {d : DefRec} {K : Params → PySem.W.Frag} {CX : World → CXT} {sp : World → Sp} {x : Str}
    (hn : l.most = some n) (hn2 : n ≤ sizeLine) (hdf : d.params.defaults = []) (hr : Room k callerA)
    (hY : ∀ (w : World) (h : Heap), YP w h → (K w.params).In h)
    (F : ∀ (w : World) (mg : Str → Option Value) (fa : Addr) (h : Heap), (K w.params).In h → h.Ns mainGlobals mg → mg d.name = some (.ref fa) →
      ∃ fd : FuncData, (∀ (s : Shared) (u : Value), BindsTo s fd ⟨[u], []⟩ [(x, u)]) ∧
        ∀ base : Heap, (K w.params).In base → base.Ns mainGlobals mg → FnOk l.prog w (K w.params) mg base (CX w) k fa fd [x] (sp w))
    (hsp : ∀ (w : World) (H : Hp) (a : Addr) (ns : List Int), ns.length ≤ n → Only H → SqL (K w.params) H a (ns.map V.int) → sp w [.ref a] H (fun v _ => v = .bl true) fun _ _ _ => False)
    (hCX : ∀ (w : World) (H : Hp) (s : Shared) (e : Value) (s' : Shared), CX w [] H s (fun _ _ _ => False) e s' → False) :
    PySem.W.WalkO q loose XP YP l.row.toRowW d [] (fun f vs => PySem.call f vs) := by
  refine Att.attach_call hn hdf fun w s₀ s₁ mg mb fa o pm cd doc a vs ns G Y ho hd hcd hmg hobj hints hlen hg => ?_
  have KX := hY w _ Y
  obtain ⟨fd, hb, hF⟩ := F w mg fa _ KX G.T.g hmg
  exact law_call KX G.T.g G.T.b G.T.builtins G.T.nolimit hg hobj hints (Nat.le_trans hlen hn2) hr hF hb (fun H hO hS => hsp w H a ns hlen hO hS) fun H e s' => hCX w H s₁ e s'
/-- the same where the promise hangs on the written part alone: (sp := My.sp_law), no hole under a binder -/
theorem walk_ofK {l : PySem.W.OpenLaw} {n k : Nat} {q : Program} {loose : List Str} {XP : (Str → Option Value) → Heap → Prop} {YP : World → Heap → Prop} {d : DefRec} {K : Params → PySem.W.Frag} {CX : CXT} {sp : PySem.W.Frag → Sp} {x : Str}
    (hn : l.most = some n) (hn2 : n ≤ sizeLine) (hdf : d.params.defaults = []) (hr : Room k callerA)
    (hY : ∀ (w : World) (h : Heap), YP w h → (K w.params).In h)
    (F : ∀ (w : World) (mg : Str → Option Value) (fa : Addr) (h : Heap), (K w.params).In h → h.Ns mainGlobals mg → mg d.name = some (.ref fa) →
      ∃ fd : FuncData, (∀ (s : Shared) (u : Value), BindsTo s fd ⟨[u], []⟩ [(x, u)]) ∧
        ∀ base : Heap, (K w.params).In base → base.Ns mainGlobals mg → FnOk l.prog w (K w.params) mg base CX k fa fd [x] (sp (K w.params)))
    (hsp : ∀ (K : PySem.W.Frag) (H : Hp) (a : Addr) (ns : List Int), ns.length ≤ n → Only H → SqL K H a (ns.map V.int) → sp K [.ref a] H (fun v _ => v = .bl true) fun _ _ _ => False)
    (hCX : ∀ (H : Hp) (s : Shared) (e : Value) (s' : Shared), CX [] H s (fun _ _ _ => False) e s' → False) :
    PySem.W.WalkO q loose XP YP l.row.toRowW d [] (fun f vs => PySem.call f vs) :=
  walk_of (K := K) (CX := fun _ => CX) (sp := fun w => sp (K w.params)) hn hn2 hdf hr hY F (fun w H a ns h1 h2 h3 => hsp (K w.params) H a ns h1 h2 h3) fun _ H s e s' => hCX H s e s'
end L2


/-! SHORT WORDS over the layer: a def of the text, its body, what a loop and a test want. -/
namespace L2
open PySem PySem.Spec PyProof.Rows

/-! ### the text by places -/
/-- the j-th statement of a class's body -/
def inClass (s : Stmt) (j : Nat) : Stmt := match s with
  | .ClassDef _ _ _ body _ _ _ _ _ _ _ => body.getD j (.Pass ⟨0, 0, 0, 0⟩)
  | _ => .Pass ⟨0, 0, 0, 0⟩
def defArgs (s : Stmt) : Arguments := match s with
  | .FunctionDef _ a _ _ _ _ _ _ _ _ => a
  | _ => { posonlyargs := [], args := [], vararg := none, kwonlyargs := [], kw_defaults := [], kwarg := none, defaults := [] }
def defBody (s : Stmt) : List Stmt := match s with
  | .FunctionDef _ _ b _ _ _ _ _ _ _ => b
  | _ => []
def defScope (s : Stmt) : Scope := match s with
  | .FunctionDef _ _ _ _ _ _ sc _ _ _ => sc
  | _ => { kind := .function, names := [], isGenerator := false, isCoroutine := false }

/-! ### no exception leaves a def -/
abbrev CX0 : CXT := fun _ _ _ _ _ _ => False
abbrev E0 : XK := fun _ _ _ => False
theorem pass0 {X : Cx} : Passes CX0 X E0 := fun _ _ _ _ _ _ _ h => h.elim

/-! ### a def (or method) of the text as it stands behind the top -/
structure Fun (K : PySem.W.Frag) (x qual : Str) (st : Stmt) (f : Addr) (fd : FuncData) : Prop where
  ex : ∃ (oc : Value) (od : Option Addr) (kV doc pm : Value) (an : Option Addr) (cdv ct : Value) (osl : Array (Option Value)),
    fd = PySem.W.fnOf x qual (defArgs st) (defBody st) (defScope st) .none kV doc pm an cdv ct ∧ K.lookup f = some ⟨oc, od, .func fd, osl⟩ ∧ PySem.W.codeIn K cdv qual = true
  kp : PySem.W.keepIn K (.ref f) = true
section
variable {P : Program} {w : World} {K : PySem.W.Frag} {mg : Str → Option Value} {base : Heap}
/-- THE RULE for a def: its body as a term of rules, and the reading of that term -/
theorem Fun.ok {x qual : Str} {st : Stmt} {f : Addr} {fd : FuncData} {N ps : List Str} {k : Nat} {sp : Sp} (F : Fun K x qual st f fd) (S : FnScope N ps (defScope st)) (len : ∀ vs H Q E, sp vs H Q E → vs.length = ps.length)
    (hbody : ∀ (cdv : Value) (A : Around) (outer : List Env) (s : Shared) (H : Hp) (vs : List V) (Q : VK) (E : XK), Room k (A.deeper (envOfC qual (defScope st) s.heap.objs.size f cdv)) → sp vs H Q E →
      ∃ t, PSs (cxOf CX0 P w K mg base N qual (defScope st) f cdv A outer s H E).nox (defBody st) t ∧ t { nx := fun _ H' => Q .non H', rt := Q } (start N vs) H) : FnOk P w K mg base CX0 (k + 1) f fd ps sp := by
  obtain ⟨oc, od, kV, doc, pm, an, cdv, ct, osl, rfl, lk, hcd⟩ := F.ex
  refine fn_of lk hcd S len fun A outer s H vs Q E hr hsp => ?_
  obtain ⟨t, h, q⟩ := hbody cdv A outer s H vs Q E hr hsp
  exact ⟨t, h.nox, q⟩
/-- how its arguments bind (no defaults): h is «fun _ _ _ _ _ _ us hl => match us, hl with | [_, _], _ => rfl», one _ a parameter -/
theorem Fun.binds {x qual : Str} {st : Stmt} {f : Addr} {fd : FuncData} {ps : List Str} (F : Fun K x qual st f fd)
    (h : ∀ (kV doc pm : Value) (an : Option Addr) (cdv ct : Value) (us : List Value), us.length = ps.length → bindArgs (PySem.W.fnOf x qual (defArgs st) (defBody st) (defScope st) .none kV doc pm an cdv ct) ⟨us, []⟩ = pure (ps.zip us)) : Binds K fd ps [] := by
  obtain ⟨oc, od, kV, doc, pm, an, cdv, ct, osl, rfl, lk, hcd⟩ := F.ex
  exact .all (h kV doc pm an cdv ct)
theorem fun_mk {x qual : Str} {st : Stmt} {f : Addr} {oc : Value} {od an : Option Addr} {osl : Array (Option Value)} {kV doc pm cdv ct : Value} (l : K.lookup f = some ⟨oc, od, .func (PySem.W.fnOf x qual (defArgs st) (defBody st) (defScope st) .none kV doc pm an cdv ct), osl⟩)
    (c : PySem.W.codeIn K cdv qual = true) (k : PySem.W.keepIn K (.ref f) = true) : Fun K x qual st f (PySem.W.fnOf x qual (defArgs st) (defBody st) (defScope st) .none kV doc pm an cdv ct) := ⟨⟨oc, od, kV, doc, pm, an, cdv, ct, osl, rfl, l, c⟩, k⟩
end
theorem hu_of {A : Around} {k : Nat} (hr : Room k A) : A.units + 1 < cLine := Nat.lt_of_le_of_lt (Nat.add_le_add_left (by decide : 1 ≤ 64) _) hr.units
theorem small1000 {n : Nat} (h : n ≤ 1000) : n < sizeLine := Nat.lt_of_le_of_lt h (by decide)

/-! ### expressions in short: the name that stands in the i-th slot -/
section
variable {X : Cx}
theorem pv (i : Nat) {x : Str} {pos : Pos} (hN : X.N[i]? = some x := by rfl) (hv : Vis X.env.scope x := by first | exact Or.inl rfl | exact Or.inr (Or.inl rfl) | exact Or.inr (Or.inr rfl)) (hd : (x == ("__debug__" : Str)) = false := by decide)
    (hcd : (x == ("__classdict__" : Str)) = false := by decide) : PE X (.Name x pos) (tVar i) := pe_var hN hv hd hcd
end

/-! ### tests -/
theorem iteF {A B : Prop} (h : B) : if false = true then A else B := by
  rw [if_neg Bool.false_ne_true]
  exact h
theorem iteT {A B : Prop} (h : A) : if true = true then A else B := by
  rw [if_pos rfl]
  exact h
theorem ite2 {c A B : Prop} [Decidable c] (h1 : c → A) (h2 : ¬ c → B) : if c then A else B := by
  by_cases h : c
  · rw [if_pos h]
    exact h1 h
  · rw [if_neg h]
    exact h2 h
theorem iteNS {c A B : Prop} [Decidable c] (hc : c) (h : B) : if (!decide c) = true then A else B := by
  rw [decide_eq_true hc]
  exact iteF h

/-! ### heaps -/
/-- all that was tracked is as it was -/
def Same (H H' : Hp) : Prop := ∀ b o, H b = some o → H' b = some o
theorem Same.refl (H : Hp) : Same H H := fun _ _ h => h
theorem Same.trans {H H1 H2 : Hp} (a : Same H H1) (b : Same H1 H2) : Same H H2 := fun c o h => b c o (a c o h)
theorem Same.free {H H' : Hp} (e : Same H H') {l : Addr} (h : H' l = Option.none) : H l = Option.none := by
  cases q : H l with
  | none => rfl
  | some o =>
    rw [e l o q] at h
    cases h
theorem Same.seq {K : PySem.W.Frag} {H H' : Hp} {a : Addr} {xs : List V} (e : Same H H') (h : SqL K H a xs) : SqL K H' a xs := by
  rcases h with (h | ⟨o, h⟩) | h
  · exact .inl (.inl (e _ _ h))
  · exact .inl (.inr ⟨o, e _ _ h⟩)
  · exact .inr h

end L2

end
section
set_option Elab.async false
set_option linter.all false
set_option maxRecDepth 100000
/-! my own rules over the layer: list comprehensions -/
namespace L2
open PySem PySem.Spec PyProof.Rows

/-! the cells that a comprehension's block takes over -/
theorem closure_go (env : Env) : ∀ (names : List (Str × NameKind)) (cs : List (Str × Addr)),
    (∀ z ∈ names, z.2 = .free → ∃ c, env.cells.lookup z.1 = some c) →
    (∀ x c, cs.lookup x = some c → env.cells.lookup x = some c) →
    ∃ cl, (forIn (m := Sem) names cs fun (z : Str × NameKind) (r : List (Str × Addr)) =>
        if (z.2 == NameKind.free) = true then (do let a ← cellOf env z.1; pure (ForInStep.yield ((z.1, a) :: r))) else pure (ForInStep.yield r)) = pure cl ∧
      (∀ x c, cl.lookup x = some c → env.cells.lookup x = some c) ∧ (∀ z ∈ names, z.2 = .free → ∃ c, cl.lookup z.1 = some c) ∧
      ∀ x c, cs.lookup x = some c → ∃ c', cl.lookup x = some c'
  | [], cs, _, h2 => ⟨cs, rfl, h2, fun z hz => (nomatch hz), fun x c e => ⟨c, e⟩⟩
  | (n, k) :: r, cs, h1, h2 => by
    by_cases hk : k = .free
    · subst hk
      obtain ⟨c, hc⟩ := h1 (n, .free) List.mem_cons_self rfl
      have h2' : ∀ x d, ((n, c) :: cs).lookup x = some d → env.cells.lookup x = some d := fun x d e => by
        rw [List.lookup_cons] at e
        by_cases hx : (x == n) = true
        · rw [hx] at e
          have ex : x = n := by simpa using hx
          cases e
          rw [ex]; exact hc
        · have hx' : (x == n) = false := by simpa using hx
          rw [hx'] at e
          exact h2 x d e
      obtain ⟨cl, e1, e2, e3, e4⟩ := closure_go env r ((n, c) :: cs) (fun z hz => h1 z (List.mem_cons_of_mem _ hz)) h2'
      have e0 : cellOf env n = pure c := by unfold cellOf; rw [hc]
      refine ⟨cl, ?_, e2, fun z hz hf => ?_, fun x d e => ?_⟩
      · rw [List.forIn_cons]
        simp only [beq_self_eq_true, if_true, e0, pure_bind]
        exact e1
      · rcases List.mem_cons.mp hz with rfl | hz
        · exact e4 n c (by simp)
        · exact e3 z hz hf
      · by_cases hx : (x == n) = true
        · exact e4 x c (by rw [List.lookup_cons, hx])
        · have hx' : (x == n) = false := by simpa using hx
          exact e4 x d (by rw [List.lookup_cons, hx']; exact e)
    · have hb : (k == NameKind.free) = false := by simpa using hk
      obtain ⟨cl, e1, e2, e3, e4⟩ := closure_go env r cs (fun z hz => h1 z (List.mem_cons_of_mem _ hz)) h2
      refine ⟨cl, ?_, e2, fun z hz hf => ?_, e4⟩
      · rw [List.forIn_cons]
        simp only [hb, Bool.false_eq_true, if_false, pure_bind]
        exact e1
      · rcases List.mem_cons.mp hz with rfl | hz
        · exact absurd hf hk
        · exact e3 z hz hf
theorem closure_ok {scope : Scope} {env : Env} (h : ∀ z ∈ scope.names, z.2 = .free → ∃ c, env.cells.lookup z.1 = some c) :
    ∃ cl, closureFor scope env = pure cl ∧ (∀ x c, cl.lookup x = some c → env.cells.lookup x = some c) ∧ ∀ z ∈ scope.names, z.2 = .free → ∃ c, cl.lookup z.1 = some c := by
  obtain ⟨cl, e1, e2, e3, _⟩ := closure_go env scope.names [] h (fun x c e => by simp at e)
  refine ⟨cl, ?_, e2, e3⟩
  simp only [closureFor]
  rw [show (forIn (m := Sem) scope.names ([] : List (Str × Addr)) _) = pure cl from e1]
  rfl
theorem relabel_free {env : Env} : ∀ {names : List (Str × NameKind)} {x : Str}, names.lookup x = some .free →
    (names.map fun (n, k) => if (k == NameKind.free && env.scope.kind == .function && env.kindOf n == some .cell) then (n, NameKind.cell) else (n, k)).lookup x = some .cell ∨
    (names.map fun (n, k) => if (k == NameKind.free && env.scope.kind == .function && env.kindOf n == some .cell) then (n, NameKind.cell) else (n, k)).lookup x = some .free
  | [], _, h => by simp at h
  | (n, k) :: r, x, h => by
    have ih := @relabel_free env r x
    show List.lookup x ((if (k == NameKind.free && env.scope.kind == .function && env.kindOf n == some .cell) = true then (n, NameKind.cell) else (n, k)) :: _) = _ ∨
      List.lookup x ((if (k == NameKind.free && env.scope.kind == .function && env.kindOf n == some .cell) = true then (n, NameKind.cell) else (n, k)) :: _) = _
    cases hx : x == n with
    | true =>
      simp only [List.lookup_cons, hx] at h
      cases h
      split <;> simp [List.lookup_cons, hx]
    | false =>
      simp only [List.lookup_cons, hx] at h
      split <;> (simp only [List.lookup_cons, hx]; exact ih h)
theorem relabel_back {env : Env} : ∀ {names : List (Str × NameKind)} {x : Str} {q : NameKind}, (∀ z ∈ names, z.2 ≠ .cell) → (q = .cell ∨ q = .free) →
    (names.map fun (n, k) => if (k == NameKind.free && env.scope.kind == .function && env.kindOf n == some .cell) then (n, NameKind.cell) else (n, k)).lookup x = some q →
    ∃ z ∈ names, z.1 = x ∧ z.2 = .free
  | [], _, _, _, _, h => by simp at h
  | (n, k) :: r, x, q, hc, hq, h => by
    have ih := @relabel_back env r x q (fun z hz => hc z (List.mem_cons_of_mem _ hz)) hq
    have h : List.lookup x ((if (k == NameKind.free && env.scope.kind == .function && env.kindOf n == some .cell) = true then (n, NameKind.cell) else (n, k)) :: _) = some q := h
    cases hx : x == n with
    | true =>
      have ex : x = n := by simpa using hx
      refine ⟨(n, k), List.mem_cons_self, ex.symm, ?_⟩
      have hk := hc (n, k) List.mem_cons_self
      by_cases hf : k = .free
      · exact hf
      · exfalso
        have hb : (k == NameKind.free) = false := by simpa using hf
        simp only [hb, Bool.false_and, Bool.false_eq_true, if_false, List.lookup_cons, hx] at h
        cases h
        rcases hq with z | z
        · exact hk z
        · exact hf z
    | false =>
      have h' : List.lookup x (r.map fun (n, k) => if (k == NameKind.free && env.scope.kind == .function && env.kindOf n == some .cell) then (n, NameKind.cell) else (n, k)) = some q := by
        split at h <;> (rw [List.lookup_cons, hx] at h; exact h)
      obtain ⟨z, hz, e⟩ := ih h'
      exact ⟨z, List.mem_cons_of_mem _ hz, e⟩

/-- the context of a comprehension's block: its names (the variable first), the state and heap ahead of its own frame, the iterator's records -/
def cxC (X : Cx) (scope : Scope) (cl : List (Str × Addr)) (N' : List Str) (s3 : Shared) (H3 : Hp) (fp : List Addr) : Cx :=
  { X with N := N', s₀ := s3, H₀ := H3, env := compEnvC scope cl s3.heap.objs.size X.env, outer := X.stack, ex := fp, fn := fun _ => false, pn := [], xe := fun _ _ => False }

/-- what must be seen of a comprehension's scope -/
structure CScope (X : Cx) (scope : Scope) (x : Str) (ys : List Str) (ix : List Nat) : Prop where
  kind : scope.kind = .function
  nocell : ∀ z ∈ scope.names, z.2 ≠ .cell
  hx : scope.names.lookup x = some .local
  names : ∀ z ∈ scope.names, z.2 = .local → scope.names.lookup z.1 = some .local
  nd : (x :: ys).Nodup
  free : ∀ z ∈ scope.names, z.2 = .free → (X.env.kindOf z.1 = some .cell ∨ X.env.kindOf z.1 = some .free)
  ysf : ∀ y ∈ ys, scope.names.lookup y = some .free
  ysn : ∀ y ∈ ys, (X.env.kindOf y = some .cell ∨ X.env.kindOf y = some .free)
  ixs : ys.map some = ix.map (fun i => X.N[i]?)

/-- the block's slots: the variable, then what stands in X's slots ix -/
def slotsC (ix : List Nat) (σ : St) : St := ix.map fun i => σ.getD i none

section
variable {X : Cx} {pins : List (Addr × Obj)} {σ : St} {H : Hp} {s : Shared} {scope : Scope} {x : Str} {ys : List Str} {ix : List Nat} {cl : List (Str × Addr)} {fp : List Addr}

theorem inv_block {m : Str → Option Value} {tk : Nat} {h' : Heap} (I : Inv X pins σ H s) (S : CScope X scope x ys ix)
    (c1 : ∀ y c, cl.lookup y = some c → X.env.cells.lookup y = some c) (c2 : ∀ z ∈ scope.names, z.2 = .free → ∃ c, cl.lookup z.1 = some c)
    (hf : ∀ b ∈ fp, FpOk X pins H b) (hfs : ∀ b ∈ fp, b < s.heap.objs.size)
    (hns : h'.Ns s.heap.objs.size m) (hk : ∀ b o, s.heap.get? b = some o → h'.get? b = some o) :
    Inv (cxC X scope cl (x :: ys) s H fp) [] (none :: slotsC ix σ) H { s with heap := h', toks := tk } := by
  have hlen : ix.length = ys.length := by have := congrArg List.length S.ixs; simpa using this.symm
  refine ⟨⟨I.ok.mod, S.kind, I.ok.glob, I.ok.blt, Nat.le_refl _, fun y z c h1 h2 => I.ok.inj y z c (c1 y c h1) (c1 z c h2), fun y hy => ?_, fun y c hh _ => (by cases hh), I.ok.hd, I.ok.frames, .inl rfl, fun b hb => ⟨Nat.ne_of_lt (hfs b hb), fun y c e => (hf b hb).2.2.2.2.1 y c (c1 y c e)⟩,
    I.bs, Nat.le_trans I.ok.bsz I.sz, fun b o e hb => ?_, fun b hb => ?_, I.stack, I.stkFree⟩, rfl, I.bare, Un.kept hk, ⟨m, hns, fun i y v e1 e2 e3 => ?_⟩, fun y c e => ?_, I.hok.fresh (Nat.le_refl _), fun y c e => I.freeC y c (c1 y c e), fun p hp => absurd (show p ∈ ([] : List (Addr × Obj)) from hp) (by simp), I.hok.kept hk, ?_⟩
  · have hy' : ∃ z ∈ scope.names, z.1 = y ∧ z.2 = .free := by
      rcases hy with hy | hy
      · exact relabel_back S.nocell (.inl rfl) hy
      · exact relabel_back S.nocell (.inr rfl) hy
    obtain ⟨z, hz, rfl, hfz⟩ := hy'
    exact c2 z hz hfz
  · rcases (hf b hb).2.2.2.1 with z | z
    · exact I.ok.noex b o e z
    · exact absurd (Nat.lt_of_lt_of_le (Heap.lt_size e) (Nat.le_trans I.ok.bsz z)) (Nat.lt_irrefl _)
  · intro z
    rcases List.mem_cons.mp (I.stkSub b z) with e | e
    · exact (hf b hb).2.1 e
    · exact (hf b hb).2.2.1 e
  · cases i with
    | zero => simp at e2
    | succ j =>
      have e1' : ys[j]? = some y := by simpa [cxC] using e1
      have e2' : (slotsC ix σ)[j]? = some (some v) := by simpa using e2
      have hy : y ∈ ys := List.mem_of_getElem? e1'
      have e4 : (ys.map some)[j]? = some (some y) := by rw [List.getElem?_map, e1']; rfl
      rw [S.ixs, List.getElem?_map] at e4
      unfold slotsC at e2'
      rw [List.getElem?_map] at e2'
      cases hj : ix[j]? with
      | none => rw [hj] at e4; cases e4
      | some i =>
        rw [hj] at e4 e2'
        have e5 : X.N[i]? = some y := by simpa using e4
        have e6 : σ.getD i none = some v := by simpa using e2'
        have e7 : σ[i]? = some (some v) := by
          rw [List.getD_eq_getElem?_getD] at e6
          cases hq : σ[i]? with
          | none => rw [hq] at e6; cases e6
          | some o => rw [hq] at e6; cases e6; rfl
        obtain ⟨m0, hn0, hl0⟩ := I.loc
        have vis : Vis X.env.scope y := by
          rcases S.ysn y hy with q | q
          · exact .inr (.inl q)
          · exact .inr (.inr q)
        obtain ⟨u, r, l⟩ := hl0 i y v e5 e7 vis
        refine ⟨u, r, .inr ⟨relabel_free (S.ysf y hy), ?_⟩⟩
        rcases l with ⟨l1, _⟩ | ⟨_, c, l1, l2⟩
        · rcases S.ysn y hy with q | q <;> (rw [l1] at q; cases q)
        · obtain ⟨c', hc'⟩ := c2 (y, .free) (PySem.mem_of_lookup (S.ysf y hy)) rfl
          have : c' = c := by
            have z := c1 y c' hc'
            rw [l1] at z; cases z; rfl
          subst this
          obtain ⟨o, ho, hd⟩ := l2
          exact ⟨c', hc', o, hk c' o ho, hd⟩
  · obtain ⟨v, o, ho, hd⟩ := I.cell y c (c1 y c e)
    exact ⟨v, o, hk c o ho, hd⟩
  · show (none :: slotsC ix σ).length = (x :: ys).length
    simp [slotsC, hlen]

/-- behind the block -/
theorem inv_behind {s' : Shared} {H' : Hp} {σ' : St} {pins' : List (Addr × Obj)} {N' : List Str} (I : Inv X pins σ H s) (hf : ∀ b ∈ fp, FpOk X pins H b)
    (J : Inv (cxC X scope cl N' s H fp) pins' σ' H' s') : Inv X pins σ H' s' ∧ FpOk X pins H' s.heap.objs.size := by
  have hI := I.call' (s' := s') (H' := H') (ch := fp) J.os J.base J.hok J.bare fun b hb => ⟨(hf b hb).2.2.2.1, (hf b hb).2.1, (hf b hb).2.2.2.2.1, (hf b hb).2.2.2.2.2⟩
  exact ⟨hI, I.fpOk (Nat.le_refl _) J.free⟩
end

/-- one comprehension, one for: W is the invariant by the turn, a measure, the list so far -/
def bodyC (J : It) (tc : TT) (te : TE) (σf : St) (Q : VK) (H1 : Hp) : Prop :=
  ∀ D, H1 D = none → ∃ W : Nat → Nat → List V → Hp → Prop, (∃ m, W 0 m [] (upd H1 D (.lst []))) ∧ ∀ i m ys H, W i m ys H →
    ((J.stop i H ∧ Q (.ref D) H) ∨ (J.go i H ∧ ys.length < sizeLine ∧ ∃ N : List V → Hp → Prop, (∀ ys' H', N ys' H' → ∃ m', m' < m ∧ W (i + 1) m' ys' H') ∧
      ∀ x H', J.yld i H x H' → tc (some x :: σf) H' fun b H2 => if b = true then te (some x :: σf) H2 fun y H3 => H3 D = some (.lst ys) ∧ N (ys ++ [y]) (upd H3 D (.lst (ys ++ [y]))) else N ys H2))
def tComp (wi : TI) (ix : List Nat) (tc : TT) (te : TE) : TE := fun σ H Q => wi σ H fun J H1 => bodyC J tc te (slotsC ix σ) Q H1
/-- no if -/
def noIf : TT := fun _ H Q => Q true H
def PTests (X : Cx) (ifs : List Expr) (tc : TT) : Prop :=
  ∀ (pins : List (Addr × Obj)) (s : Shared) (σ : St) (H : Hp) (Q : Bool → Hp → Prop), Inv X pins σ H s → tc σ H Q →
    wpAny (model X.prog X.w) X.A (forIn ifs true fun c r => if r = true then do let ok ← isTrue c X.env (eval c X.env); pure (ForInStep.yield ok) else pure (ForInStep.yield r)) (TP X pins σ Q) X.xe s
theorem pts_nil {X : Cx} : PTests X [] noIf := fun pins s σ H Q I h => wpAny_tests_nil ⟨H, I, h⟩
theorem pts_one {X : Cx} {c : Expr} {tc : TT} (hc : PT X c tc) : PTests X [c] tc := fun pins s σ H Q I h => wpAny_tests_one (hc pins s σ H Q I h)

section
variable {prog : Program} {w : World} {A : Around} {R : Result → Shared → Prop} {s : Shared}
/-- the turns of the block, the step ahead of the store told too -/
theorem loop_own {elt target iter : Expr} {ifs : List Expr} {scope : Scope} {pos : Pos} {it acc : Value} {env : Env} (I : Nat → Shared → Prop)
    (turn : ∀ n s, I n s → wpAny (model prog w) A (pyNext it) (fun r s₁ => match r with
      | none => R (.ok .next) s₁
      | some v => wpAny (model prog w) A (letOwnedTupleGo target it v) (fun _ s₂ => wpAny (model prog w) A (assign target env v) (fun _ s₃ =>
          wpAny (model prog w) A (forIn ifs true fun c r => if r = true then do let ok ← isTrue c env (eval c env); pure (ForInStep.yield ok) else pure (ForInStep.yield r)) (fun ok s₄ =>
            if ok = true then wpAny (model prog w) A (eval elt env) (fun y s₅ =>
              wpAny (model prog w) A (call (.builtin "list.append") [acc, y]) (fun _ s₆ => ∃ m, m < n ∧ I m s₆) (fun _ _ => False) s₅) (fun _ _ => False) s₄
            else ∃ m, m < n ∧ I m s₄) (fun _ _ => False) s₃) (fun _ _ => False) s₂) (fun _ _ => False) s₁) (fun _ _ => False) s)
    (n : Nat) (h : I n s) : codeAny (model prog w) A (.compLoop (.ListComp elt [⟨target, iter, ifs, 0⟩] scope pos) 0 it acc env) R s := by
  refine codeAny_loop rfl I (fun n s hI => ?_) n h
  show wpAny _ A ((compTurn (.ListComp elt [⟨target, iter, ifs, 0⟩] scope pos) 0 it acc env).onRaise (fun x => do noteFrame x env; theTreesLotGoes x)) _ _ s
  refine wpAny_noted ?_
  rw [compTurn_list]
  have no : ∀ {F : Value → Shared → Prop} (e : Value) (s' : Shared), False → F e s' := fun _ _ z => z.elim
  refine wpAny_bind (wpAny_standAt (wpAny_bind (wpAny_mono (turn n s hI) (fun r s₁ h₁ => ?_) no)))
  cases r with
  | none => exact wpAny_pure h₁
  | some v =>
    refine wpAny_bind (wpAny_mono h₁ (fun _ s₂ h₂ => wpAny_bind (wpAny_mono h₂ (fun _ s₃ h₃ => wpAny_bind (wpAny_mono h₃ (fun ok s₄ h₄ => ?_) no)) no)) no)
    cases ok with
    | false => exact wpAny_pure ⟨rfl, h₄⟩
    | true =>
      exact wpAny_bind (wpAny_bind (wpAny_mono h₄ (fun y s₅ h₅ => wpAny_bind (wpAny_mono h₅ (fun _ s₆ h₆ => wpAny_pure (wpAny_pure ⟨rfl, h₆⟩)) no)) no))
end

section
variable {X : Cx} {scope : Scope} {x : Str} {ys : List Str} {ix : List Nat} {wi : TI} {tc : TT} {te : TE} {elt iter : Expr} {ifs : List Expr} {px pos : Pos} {cl : List (Str × Addr)}

/-- the block, from a fresh list to its end -/
theorem comp_walk {pins : List (Addr × Obj)} {σ : St} {H2 : Hp} {s2 : Shared} {J : It} {fp : List Addr} {it : Addr} {tn : Nat → Heap → Prop} {Q : VK} {E : Value → Shared → Prop} {RR : Value → Addr → Result → Shared → Prop}
    (hc : X.calm = true) (S : CScope X scope x ys ix)
    (c1 : ∀ y c, cl.lookup y = some c → X.env.cells.lookup y = some c) (c2 : ∀ z ∈ scope.names, z.2 = .free → ∃ c, cl.lookup z.1 = some c)
    (ht : ∀ s3 H3 fp, PTests (cxC X scope cl (x :: ys) s3 H3 fp) ifs tc) (he : ∀ s3 H3 fp, PE (cxC X scope cl (x :: ys) s3 H3 fp) elt te)
    (I : Inv X pins σ H2 s2) (T : Turn X.prog X.w X.K (.Name x px) J fp it tn) (st : tn 0 s2.heap) (hf : ∀ b ∈ fp, FpOk X pins H2 b)
    (hq : bodyC J tc te (slotsC ix σ) Q H2)
    (hRR : ∀ D C s' H', Inv X pins σ H' s' → (∃ m, s'.heap.Ns C m) → FpOk X pins H' C → Q (.ref D) H' → RR (.ref D) C (.ok .next) s') :
    wpAny (model X.prog X.w) X.A (newList []) (fun acc s3 => wpAny (model X.prog X.w) X.A (newFunctionEnv scope X.env.globals cl [] X.env.qual none .none (some X.env)) (fun cenv s4 =>
      codeAny (model X.prog X.w) X.A (.compStart (.ListComp elt [⟨.Name x px, iter, ifs, 0⟩] scope pos) 0 (.ref it) acc { cenv with scope := relabel scope X.env }) (RR acc cenv.locals) s4) E s3) E s2 := by
  refine wpAny_newObj_type ?_
  have hD : H2 s2.heap.objs.size = none := I.hok.fresh (Nat.le_refl _)
  have I3 : Inv X pins σ (upd H2 s2.heap.objs.size (.lst [])) { s2 with heap := s2.heap.push { cls := .type "list", dict := none, data := .seq ([] : List Value).toArray } } :=
    I.lnew (t' := s2.toks) (ys := []) (its := []) .nil (Nat.zero_le _)
  obtain ⟨W, ⟨m0, w0⟩, turn⟩ := hq _ hD
  generalize hD' : s2.heap.objs.size = D at *
  have hfD : ∀ b ∈ fp, b ≠ D := fun b hb e => by
    obtain ⟨o, ho, _⟩ := T.obj 0 _ st b hb
    have q := Heap.lt_size ho
    rw [hD', e] at q
    exact Nat.lt_irrefl _ q
  have hf3 : ∀ b ∈ fp, FpOk X pins (upd H2 D (.lst [])) b := fun b hb => ⟨by rw [upd_ne (hfD b hb)]; exact (hf b hb).1, (hf b hb).2⟩
  generalize hs3 : ({ s2 with heap := s2.heap.push { cls := .type "list", dict := none, data := .seq ([] : List Value).toArray } } : Shared) = s3 at *
  have st3 : tn 0 s3.heap := T.keep _ _ _ st fun b hb o e => by rw [← hs3]; exact Heap.get?_push_of_some _ e
  have hfs : ∀ b ∈ fp, b < s3.heap.objs.size := fun b hb => by
    obtain ⟨o, ho, _⟩ := T.obj 0 _ st3 b hb
    exact Heap.lt_size ho
  refine wpAny_newFunctionEnv S.nocell (by intro y hy; simp at hy) (fun h₁ hns₁ hsb₁ => ?_) S.kind
  have old : ∀ b o, s3.heap.get? b = some o → h₁.get? b = some o := fun b o e => hsb₁.extBut b o (Nat.ne_of_lt (Heap.lt_size e)) (Heap.get?_push_of_some _ e)
  have I4 := inv_block (tk := s3.toks + ([] : List (Str × Value)).length) I3 S c1 c2 hf3 hfs hns₁ old
  have st4 : tn 0 h₁ := T.keep _ _ _ st3 fun b _ o e => old b o e
  have hx' : (cxC X scope cl (x :: ys) s3 (upd H2 D (.lst [])) fp).env.scope.names.lookup x = some .local := lookup_relabel_local S.hx
  -- what stays true of the iterator's objects
  have stat : ∀ {H' : Hp}, (∀ b ∈ fp, H' b = none) → ∀ b ∈ fp, FpOk (cxC X scope cl (x :: ys) s3 (upd H2 D (.lst [])) fp) [] H' b := fun hn b hb =>
    ⟨hn b hb, Nat.ne_of_lt (hfs b hb), fun z => by
      rcases List.mem_cons.mp (I3.stkSub b z) with e | e
      · exact (hf b hb).2.1 e
      · exact (hf b hb).2.2.1 e, .inl hb, fun y c e => (hf b hb).2.2.2.2.1 y c (c1 y c e), fun p hp => absurd (show p ∈ ([] : List (Addr × Obj)) from hp) (by simp)⟩
  have loop : codeAny (model X.prog X.w) X.A (.compLoop (.ListComp elt [⟨.Name x px, iter, ifs, 0⟩] scope pos) 0 (.ref it) (.ref D) (compEnvC scope cl s3.heap.objs.size X.env))
      (RR (.ref D) s3.heap.objs.size) { s3 with heap := h₁, toks := s3.toks + ([] : List (Str × Value)).length } := by
    refine loop_own (fun n s' => ∃ i ys' σ' H', Inv (cxC X scope cl (x :: ys) s3 (upd H2 D (.lst [])) fp) [] σ' H' s' ∧ tn i s'.heap ∧ (∀ b ∈ fp, H' b = none) ∧ W i n ys' H' ∧ ∃ o, σ' = o :: slotsC ix σ) ?_ m0
      ⟨0, [], _, _, I4, st4, fun b hb => (hf3 b hb).1, w0, _, rfl⟩
    rintro n s5 ⟨i, ys', σ5, H5, I5, st5, fr5, w5, o5, rfl⟩
    rcases turn i n ys' H5 w5 with ⟨stop, qn⟩ | ⟨go, hlen, N, hN, step⟩
    · refine thn (T.done (cxC X scope cl (x :: ys) s3 (upd H2 D (.lst [])) fp) rfl rfl rfl hc i [] s5 _ H5 _ I5 (stat fr5) st5 stop) fun r s6 ⟨hr, I6⟩ => ?_
      subst hr
      obtain ⟨J1, J2⟩ := inv_behind I3 hf3 I6
      obtain ⟨m6, hn6, _⟩ := I6.loc
      exact hRR D _ s6 H5 J1 ⟨m6, hn6⟩ J2 qn
    · refine thn (T.item (cxC X scope cl (x :: ys) s3 (upd H2 D (.lst [])) fp) rfl rfl rfl hc i [] s5 _ H5 _ I5 (stat fr5) st5 go) fun r s6 ⟨u, hr, h6⟩ => ?_
      subst hr
      refine thn h6 fun _ s7 ⟨v, H7, I7, r7, y7, st7, fr7⟩ => ?_
      have I7' := I7.pinned (stat fr7) (T.obj _ _ st7)
      have q7 := step v H7 y7
      refine wpAny_assign_Name (store_ok (i := 0) I7' S.nd rfl (.inl hx') r7 (fun s8 I8 => ?_) (.inr hx'))
      have I8 : Inv (cxC X scope cl (x :: ys) s3 (upd H2 D (.lst [])) fp) ([] ++ pinsAt fp s7.heap) (some v :: slotsC ix σ) H7 s8 := I8
      refine thn (ht _ _ _ _ s8 _ H7 _ I8 q7) fun ok s9 ⟨H9, I9, q9⟩ => ?_
      have again : ∀ {ys'' : List V} {H10 : Hp} {s10 : Shared}, Inv (cxC X scope cl (x :: ys) s3 (upd H2 D (.lst [])) fp) ([] ++ pinsAt fp s7.heap) (some v :: slotsC ix σ) H10 s10 → N ys'' H10 →
          ∃ m, m < n ∧ ∃ i ys' σ' H', Inv (cxC X scope cl (x :: ys) s3 (upd H2 D (.lst [])) fp) [] σ' H' s10 ∧ tn i s10.heap ∧ (∀ b ∈ fp, H' b = none) ∧ W i m ys' H' ∧ ∃ o, σ' = o :: slotsC ix σ := fun {ys'' H10 s10} I10 n10 => by
        obtain ⟨m', hm, w10⟩ := hN _ _ n10
        refine ⟨m', hm, i + 1, ys'', _, H10, I10.unpinned, T.keep _ _ _ st7 fun b hb o e => (I10.pin (b, o) (List.mem_append_right _ (List.mem_append_right _ (mem_pinsAt hb e)))).1, fun b hb => ?_, w10, _, rfl⟩
        obtain ⟨o, e, d⟩ := T.obj _ _ st7 b hb
        exact (I10.pin (b, o) (List.mem_append_right _ (List.mem_append_right _ (mem_pinsAt hb e)))).2.1
      cases ok with
      | false => exact again I9 q9
      | true =>
        refine thn (he _ _ _ _ s9 _ H9 _ I9 q9) fun y s10 ⟨vy, H10, I10, r10, d10, n10⟩ => ?_
        refine thn (mt_append _ s10 _ H10 (.ref D) [vy] _ _ (fun z H11 => z = .non ∧ H11 = upd H10 D (.lst (ys' ++ [vy]))) I10 rfl (.cons r10 .nil) ⟨D, ys', vy, rfl, rfl, d10, hlen, rfl, rfl⟩) fun _ s11 ⟨_, H11, I11, _, _, e11⟩ => ?_
        subst e11
        exact again I11 n10
  exact codeAny_compStart_list loop (T.self _ 0 _ _ _ st4 loop)

theorem cells_of {pins : List (Addr × Obj)} {σ : St} {H : Hp} {s : Shared} (I : Inv X pins σ H s) (S : CScope X scope x ys ix) :
    ∃ cl, closureFor scope X.env = pure cl ∧ (∀ y c, cl.lookup y = some c → X.env.cells.lookup y = some c) ∧ ∀ z ∈ scope.names, z.2 = .free → ∃ c, cl.lookup z.1 = some c :=
  closure_ok fun z hz hf => I.ok.has z.1 (S.free z hz hf)

/-- [elt for x in iter if ..] as a value -/
theorem pe_comp (S : CScope X scope x ys ix) (hc : X.calm = true) (hi : PI X (.Name x px) iter wi) (ht : ∀ cl s3 H3 fp, PTests (cxC X scope cl (x :: ys) s3 H3 fp) ifs tc)
    (he : ∀ cl s3 H3 fp, PE (cxC X scope cl (x :: ys) s3 H3 fp) elt te) (hs : ∀ x, foldedSetIterable iter X.env x = pure x := by intro _; rfl) :
    PE X (.ListComp elt [⟨.Name x px, iter, ifs, 0⟩] scope pos) (tComp wi ix tc te) := by
  intro pins s σ H Q I h
  obtain ⟨cl, e1, c1, c2⟩ := cells_of I S
  rw [eval_ListComp]
  refine wpAny_comprehension_free (use := none) rfl hs e1 S.kind S.names (thn (hi pins s σ H _ I h) fun v s1 h1 => thn h1 fun itv s2 h2 => ?_)
  obtain ⟨it, fp, tn, J, H2, e, I2, T, st2, f2, q2⟩ := h2
  subst e
  refine comp_walk hc S c1 c2 (ht cl) (he cl) I2 T st2 f2 q2 fun D C s' H' I' hm fc q' => ?_
  obtain ⟨m, hn⟩ := hm
  exact ⟨m, hn, fun h' sb => ⟨.ref D, H', I'.turned (t' := s'.toks) (fun b o hb e => sb.extBut b o hb e) fc.1 fc.2.1 fc.2.2.2.1 fc.2.2.2.2.1 fc.2.2.2.2.2, rfl, q'⟩⟩

/-- y = [elt for x in iter if ..], the store exchanged with the block's end -/
theorem ps_setC {i : Nat} {y : Str} {py spos : Pos} (S : CScope X scope x ys ix) (hc : X.calm = true) (hN : X.N.Nodup) (hi' : X.N[i]? = some y) (hy : X.env.scope.names.lookup y = some .local)
    (hi : PI X (.Name x px) iter wi) (ht : ∀ cl s3 H3 fp, PTests (cxC X scope cl (x :: ys) s3 H3 fp) ifs tc)
    (he : ∀ cl s3 H3 fp, PE (cxC X scope cl (x :: ys) s3 H3 fp) elt te)
    (hsw : swapsWith (.ListComp elt [⟨.Name x px, iter, ifs, 0⟩] scope pos) (some (.Name y py)) spos.line X.env = pure true := by rfl) (hs : ∀ x, foldedSetIterable iter X.env x = pure x := by intro _; rfl) :
    PS X (.Assign [.Name y py] (.ListComp elt [⟨.Name x px, iter, ifs, 0⟩] scope pos) spos) (tAsg (tComp wi ix tc te) (gName i)) := by
  intro pins s σ H D I h
  obtain ⟨cl, e1, c1, c2⟩ := cells_of I S
  rw [exec_Assign_Name_used _ _ _ _ hsw]
  refine wpAny_bind (wpAny_standAt (wpAny_bind ?_))
  show wpAny _ X.A (do let _ ← comprehension (.ListComp elt [⟨.Name x px, iter, ifs, 0⟩] scope pos) scope X.env _ (newList []) false (eval iter X.env) (some (assign (.Name y py) X.env))) _ _ s
  refine wpAny_bind (thn (Q := fun _ s' => SP X pins D .next s') (wpAny_comprehension_free (use := some (assign (.Name y py) X.env)) rfl hs e1 S.kind S.names
    (thn (hi pins s σ H _ I h) fun v s1 h1 => thn h1 fun itv s2 h2 => ?_)) fun _ s' hq => wpAny_pure (wpAny_pure hq))
  obtain ⟨it, fp, tn, J, H2, e, I2, T, st2, f2, q2⟩ := h2
  subst e
  refine comp_walk hc S c1 c2 (ht cl) (he cl) I2 T st2 f2 q2 fun D' C s' H' I' hm fc q' => ?_
  obtain ⟨m, hn⟩ := hm
  show wpAny _ X.A (assign (.Name y py) X.env (.ref D')) _ _ s'
  refine wpAny_assign_Name (store_ok2 (v := .ref D') I' hN hi' (.inl hy) rfl (fun s'' I'' ch => ?_) (.inr hy))
  obtain ⟨a, sb, ha⟩ := ch
  have hCa : C ≠ a := by
    rcases ha with z | z
    · rw [z]; exact fc.2.1
    · exact fun q => fc.2.2.2.2.1 y a z q.symm
  refine ⟨m, hn.sameBut sb hCa, fun h' sb' => ?_⟩
  exact ⟨_, H', I''.turned (t' := s''.toks) (fun b o hb e => sb'.extBut b o hb e) fc.1 fc.2.1 fc.2.2.2.1 fc.2.2.2.2.1 fc.2.2.2.2.2, q'⟩
end
end L2

end
section
set_option Elab.async false
set_option linter.all false
set_option maxRecDepth 100000
/-! my own: the forms of a comprehension that one uses; callees; tests -/
namespace L2
open PySem PySem.Spec PyProof.Rows

/-- the tuples stay -/
def TupLe (H H' : Hp) : Prop := ∀ b xs, H b = some (.tup xs) → H' b = some (.tup xs)
theorem Same.tup {H H' : Hp} (h : Same H H') : TupLe H H' := fun b xs e => h b _ e
theorem TupLe.refl (H : Hp) : TupLe H H := fun _ _ h => h
theorem TupLe.trans {H H1 H2 : Hp} (a : TupLe H H1) (b : TupLe H1 H2) : TupLe H H2 := fun c o h => b c o (a c o h)
theorem tup_upd {H : Hp} {a : Addr} {o : HO} (h : ∀ xs, H a ≠ some (.tup xs)) : TupLe H (upd H a o) := fun b xs e => by
  by_cases hb : b = a
  · subst hb; exact absurd e (h xs)
  · rw [upd_ne hb]; exact e
theorem Same.new {H : Hp} {p : Addr} (h : H p = none) (o : HO) : Same H (upd H p o) := fun b u q => by
  rw [upd_ne (ne_of_none q h)]; exact q
theorem Same.seqT {K : PySem.W.Frag} {H H' : Hp} {a : Addr} {xs : List V} (e : Same H H') (h : SqT K H a xs) : SqT K H' a xs := by
  rcases h with (h | ⟨o, h⟩) | h
  · exact .inl (.inl (e _ _ h))
  · exact .inl (.inr ⟨o, e _ _ h⟩)
  · exact .inr h
/-- rewriting a list that is new since H -/
theorem Same.updNew {H H' : Hp} {p : Addr} {o : HO} (h : Same H H') (n : H p = none) : Same H (upd H' p o) := fun b u q => by
  rw [upd_ne (ne_of_none q n)]; exact h b u q

/-- each element told by G of its place; nothing that stood is changed -/
theorem body_items {J : It} {xs : List V} {te : TE} {σf : St} {Q : VK} {H1 : Hp} (G : Nat → V → Hp → Prop) (hlen : xs.length ≤ sizeLine)
    (hJ : ∀ i H, Same H1 H → (i < xs.length → J.go i H ∧ ∀ x H', J.yld i H x H' → H' = H ∧ xs[i]? = some x) ∧ (i = xs.length → J.stop i H))
    (stable : ∀ i y H H', TupLe H H' → G i y H → G i y H')
    (step : ∀ i x H (R : VK), xs[i]? = some x → Same H1 H → (∀ y H', Same H H' → G i y H' → R y H') → te (some x :: σf) H R)
    (fin : ∀ D ys H', H1 D = none → Same H1 H' → H' D = some (.lst ys) → ys.length = xs.length → (∀ i y, ys[i]? = some y → G i y H') → Q (.ref D) H') :
    bodyC J noIf te σf Q H1 := by
  intro D hD
  refine ⟨fun i m ys H => m = xs.length - i ∧ i ≤ xs.length ∧ ys.length = i ∧ Same H1 H ∧ H D = some (.lst ys) ∧ ∀ j y, ys[j]? = some y → G j y H,
    ⟨xs.length, by simp, Nat.zero_le _, rfl, Same.new hD _, upd_same, fun j y e => by simp at e⟩, ?_⟩
  rintro i m ys H ⟨rfl, hi, hl, hS, hH, hG⟩
  obtain ⟨j1, j2⟩ := hJ i H hS
  by_cases hlt : i < xs.length
  · obtain ⟨go, yl⟩ := j1 hlt
    refine .inr ⟨go, by omega, fun ys' H' => ys'.length = i + 1 ∧ Same H1 H' ∧ H' D = some (.lst ys') ∧ ∀ j y, ys'[j]? = some y → G j y H', fun ys' H' ⟨a, b, c, d⟩ => ⟨xs.length - (i + 1), by omega, rfl, hlt, a, b, c, d⟩, fun x H' y => ?_⟩
    obtain ⟨rfl, hx⟩ := yl x H' y
    unfold noIf
    refine iteT ?_
    refine step i x _ _ hx hS fun y H2 hS2 hg => ?_
    refine ⟨hS2 _ _ hH, by simp [hl], (hS.trans hS2).updNew hD, upd_same, fun j z e => ?_⟩
    have tl : TupLe H2 (upd H2 D (.lst (ys ++ [y]))) := tup_upd fun zs q => by rw [hS2 _ _ hH] at q; cases q
    by_cases hj : j < ys.length
    · rw [List.getElem?_append_left hj] at e
      exact stable j z _ _ (hS2.tup.trans tl) (hG j z e)
    · have ej : j = ys.length := by
        have := (List.getElem?_eq_some_iff.mp e).1
        simp at this
        omega
      subst ej
      rw [List.getElem?_append_right (Nat.le_refl _)] at e
      simp at e
      subst e
      rw [hl]
      exact stable i _ _ _ tl hg
  · have e : i = xs.length := by omega
    exact .inl ⟨j2 e, fin D ys H hD hS hH (hl.trans e) hG⟩
theorem body_list {K : PySem.W.Frag} {a : Addr} {xs : List V} {te : TE} {σf : St} {Q : VK} {H1 : Hp} (hS : SqL K H1 a xs) (hlen : xs.length ≤ sizeLine) (G : Nat → V → Hp → Prop)
    (stable : ∀ i y H H', TupLe H H' → G i y H → G i y H')
    (step : ∀ i x H (R : VK), xs[i]? = some x → Same H1 H → (∀ y H', Same H H' → G i y H' → R y H') → te (some x :: σf) H R)
    (fin : ∀ D ys H', H1 D = none → Same H1 H' → H' D = some (.lst ys) → ys.length = xs.length → (∀ i y, ys[i]? = some y → G i y H') → Q (.ref D) H') :
    bodyC (Itl K a) noIf te σf Q H1 :=
  body_items G hlen (fun i H s => ⟨fun hi => ⟨⟨xs, xs[i], s.seq hS, by simp [hi]⟩, fun x H' ⟨e, y⟩ => ⟨e, y xs (s.seq hS)⟩⟩, fun e => ⟨xs, s.seq hS, by omega⟩⟩) stable step fin
theorem body_tup {K : PySem.W.Frag} {a : Addr} {xs : List V} {te : TE} {σf : St} {Q : VK} {H1 : Hp} (hS : SqT K H1 a xs) (hlen : xs.length ≤ sizeLine) (G : Nat → V → Hp → Prop)
    (stable : ∀ i y H H', TupLe H H' → G i y H → G i y H')
    (step : ∀ i x H (R : VK), xs[i]? = some x → Same H1 H → (∀ y H', Same H H' → G i y H' → R y H') → te (some x :: σf) H R)
    (fin : ∀ D ys H', H1 D = none → Same H1 H' → H' D = some (.lst ys) → ys.length = xs.length → (∀ i y, ys[i]? = some y → G i y H') → Q (.ref D) H') :
    bodyC (Itt K a) noIf te σf Q H1 :=
  body_items G hlen (fun i H s => ⟨fun hi => ⟨⟨xs, xs[i], s.seqT hS, by simp [hi]⟩, fun x H' ⟨e, y⟩ => ⟨e, y xs (s.seqT hS)⟩⟩, fun e => ⟨xs, s.seqT hS, by omega⟩⟩) stable step fin
theorem body_rng {lo : Int} {n : Nat} {te : TE} {σf : St} {Q : VK} {H1 : Hp} (hlen : n ≤ sizeLine) (G : Nat → V → Hp → Prop)
    (stable : ∀ i y H H', TupLe H H' → G i y H → G i y H')
    (step : ∀ i H (R : VK), i < n → Same H1 H → (∀ y H', Same H H' → G i y H' → R y H') → te (some (.int (lo + i)) :: σf) H R)
    (fin : ∀ D ys H', H1 D = none → Same H1 H' → H' D = some (.lst ys) → ys.length = n → (∀ i y, ys[i]? = some y → G i y H') → Q (.ref D) H') :
    bodyC (Itr lo n) noIf te σf Q H1 :=
  body_items (xs := (List.range n).map fun (i : Nat) => V.int (lo + i)) G (by simpa using hlen)
    (fun i H s => ⟨fun hi => ⟨by simpa [Itr] using hi, fun x H' ⟨e, y⟩ => ⟨e, by
      have hi' : i < n := by simpa using hi
      rw [List.getElem?_map, List.getElem?_range hi', y]; rfl⟩⟩, fun e => by
        have : i = n := by simpa using e
        exact Nat.le_of_eq this.symm⟩) stable
    (fun i x H R hx => by
      have hi : i < n := by have := (List.getElem?_eq_some_iff.mp hx).1; simpa using this
      rw [List.getElem?_map, List.getElem?_range hi] at hx
      cases hx
      exact step i H R hi) (fun D ys H' a b c d => fin D ys H' a b c (by simpa using d))

/-! ### callees -/
/-- the name x is a def that keeps the promise sp, in k calls' room -/
def Callee (P : Program) (w : World) (K : PySem.W.Frag) (mg : Str → Option Value) (base : Heap) (x : Str) (k : Nat) (ps : List Str) (sp : Sp) : Prop :=
  ∃ f fd, FnOk P w K mg base CX0 k f fd ps sp ∧ Binds K fd ps [] ∧ PySem.W.keepIn K (.ref f) = true ∧ mg x = some (.ref f)
section
variable {X : Cx} {x : Str} {k k' : Nat} {ps : List Str} {sp : Sp} {e : Expr} {es : List Expr} {t : TA} {p pos : Pos}
theorem pe_callD (D : Callee X.prog X.w X.K X.mg X.base x k ps sp) (hr : Room k' X.A) (hk : k ≤ k') (hg : Gl X x) (ha : PA X (e :: es) t)
    (hdb : (x == ("__debug__" : Str)) = false := by decide) (he : starEach (e :: es) X.env = (false, eval e X.env) :: starEach es X.env := by rfl)
    (hpl : (backTo pos (starEach es X.env)).any (·.1) = false := by rfl) : PE X (.Call (.Name x p) (e :: es) [] pos) (tCall sp [] E0 t) := by
  obtain ⟨f, fd, F, b, kp, m⟩ := D
  exact pe_call F (hr.mono hk) hg m kp b .nil pass0 ha hdb he hpl
end
theorem iteFh {c : Bool} {A B : Prop} (h : c = false) (b : B) : if c = true then A else B := by rw [h]; exact iteF b
theorem iteTh {c : Bool} {A B : Prop} (h : c = true) (a : A) : if c = true then A else B := by rw [h]; exact iteT a
end L2
namespace L2
open PySem PySem.Spec PyProof.Rows
/-- what must be seen of a comprehension's scope within a def's scope, closed: «{}» shows it -/
structure CSc (osc : Scope) (N : List Str) (scope : Scope) (x : Str) (ys : List Str) (ix : List Nat) : Prop where
  kind : scope.kind = .function := by rfl
  nocell : ∀ z ∈ scope.names, z.2 ≠ .cell := by decide +kernel
  hx : scope.names.lookup x = some .local := by decide +kernel
  names : ∀ z ∈ scope.names, z.2 = .local → scope.names.lookup z.1 = some .local := by decide +kernel
  nd : (x :: ys).Nodup := by decide +kernel
  free : ∀ z ∈ scope.names, z.2 = .free → (osc.names.lookup z.1 = some .cell ∨ osc.names.lookup z.1 = some .free) := by decide +kernel
  ysf : ∀ y ∈ ys, scope.names.lookup y = some .free := by decide +kernel
  ysn : ∀ y ∈ ys, (osc.names.lookup y = some .cell ∨ osc.names.lookup y = some .free) := by decide +kernel
  ixs : ys.map some = ix.map (fun i => N[i]?) := by decide +kernel
theorem CScope.of {X : Cx} {osc : Scope} {N ps : List Str} {scope : Scope} {x : Str} {ys : List Str} {ix : List Nat} (S : FnScope N ps osc) (c : CSc osc N scope x ys ix) (e1 : X.env.scope = osc := by rfl) (e2 : X.N = N := by rfl) : CScope X scope x ys ix :=
  ⟨c.kind, c.nocell, c.hx, c.names, c.nd, fun z hz hf => by unfold Env.kindOf; rw [e1]; exact c.free z hz hf, c.ysf, fun y hy => by unfold Env.kindOf; rw [e1]; exact c.ysn y hy, by rw [e2]; exact c.ixs⟩
end L2
namespace L2
open PySem PySem.Spec PyProof.Rows
section
variable {X : Cx} {st : Stmt} {t : TS}
/-- a statement whose ways meet: C holds behind it on every way -/
def tJoin (t : TS) : TS := fun D σ H => ∃ C : St → Hp → Prop, t { D with nx := C } σ H ∧ ∀ σ' H', C σ' H' → D.nx σ' H'
theorem ps_join (h : PS X st t) : PS X st (tJoin t) := by
  intro pins s σ H D I hq
  obtain ⟨C, q1, q2⟩ := hq
  refine thn (h pins s σ H _ I q1) fun f s1 q => ?_
  cases f with
  | next => obtain ⟨σ', H', I', c⟩ := q; exact ⟨σ', H', I', q2 _ _ c⟩
  | ret v => exact q
  | brk => exact q
  | cont => exact q
/-- rules that name K, for use within a comprehension -/
theorem ix_listK {K : PySem.W.Frag} (h : X.K = K) : IxR X (rIxL K) := h ▸ ix_list
theorem ix_tupK {K : PySem.W.Frag} (h : X.K = K) : IxR X (rIxT K) := h ▸ ix_tup
theorem sl_tupK {K : PySem.W.Frag} (h : X.K = K) : SlR X (rSlT K) := h ▸ sl_tup
theorem op_in_seqK {K : PySem.W.Frag} (h : X.K = K) : OpR X (compareOp .In) (rIn K false) := h ▸ op_in_seq
theorem op_notIn_seqK {K : PySem.W.Frag} (h : X.K = K) : OpR X (compareOp .NotIn) (rIn K true) := h ▸ op_notIn_seq
theorem call_len_seqK {K : PySem.W.Frag} (h : X.K = K) : CallR X (.builtin "len") (fun xs H Q => ∃ p ys, xs = [.ref p] ∧ (SqL K H p ys ∨ SqT K H p ys) ∧ Q (.int ys.length) H) := h ▸ call_len_seq
/-- isinstance(x, T), T a built-in type -/
def rIsI (K : PySem.W.Frag) : List V → Hp → VK → Prop := fun xs H Q => ∃ x T t b, xs = [x, .ty T] ∧ TyOf K H x t ∧ PySem.W.kitOne K t (.type T) = some b ∧ Q (.bl b) H
theorem call_isinst {K : PySem.W.Frag} (h : X.K = K) : CallR X (.builtin "isinstance") (rIsI K) := by
  subst h
  intro pins s σ H xs us Q I r q
  obtain ⟨x, T, t, b, rfl, ty, e, q⟩ := q
  obtain ⟨u, v, rfl, r1, r2⟩ := r.two
  cases r2
  exact isinst_ok I r1 ty e fun tk => ⟨.bl b, H, I.tok tk, rfl, q⟩
end
end L2

end
section
set_option Elab.async false
set_option linter.all false
set_option maxRecDepth 100000
/-! my own: nested data in the heap, == and != over them; t + u of any tuples -/
namespace L2
open PySem PySem.Spec PyProof.Rows
mutual
/-- the heap bears the data at v -/
inductive DAt (K : PySem.W.Frag) (H : Hp) : PyData → V → Prop where
  | none : DAt K H .none .non
  | bool (b : Bool) : DAt K H (.bool b) (.bl b)
  | int (i : Int) : DAt K H (.int i) (.int i)
  | str (x : Str) : DAt K H (.str x) (.str x)
  | list {a : Addr} {xs : List V} {ds : List PyData} : SqL K H a xs → DsAt K H ds xs → DAt K H (.list ds) (.ref a)
  | tuple {a : Addr} {xs : List V} {ds : List PyData} : SqT K H a xs → DsAt K H ds xs → DAt K H (.tuple ds) (.ref a)
inductive DsAt (K : PySem.W.Frag) (H : Hp) : List PyData → List V → Prop where
  | nil : DsAt K H [] []
  | cons {d : PyData} {v : V} {ds : List PyData} {vs : List V} : DAt K H d v → DsAt K H ds vs → DsAt K H (d :: ds) (v :: vs)
end
section
variable {X : Cx} {pins : List (Addr × Obj)} {σ : St} {H : Hp} {s : Shared}
mutual
theorem DAt.reads (I : Inv X pins σ H s) : ∀ {d : PyData} {v : V} {u : Value}, DAt X.K H d v → RelV v u → ∃ as, Reads s.heap u d as
  | _, _, _, .none, r => by cases r; exact ⟨_, .none⟩
  | _, _, _, .bool b, r => by cases r; exact ⟨_, .bool b⟩
  | _, _, _, .int i, r => by obtain ⟨t, rfl⟩ := r; exact ⟨_, .int i t⟩
  | _, _, _, .str x, r => by obtain ⟨t, rfl⟩ := r; exact ⟨_, .str x t⟩
  | _, _, _, .list h hs, r => by
    cases r
    obtain ⟨its, rv, ⟨o, n, e1, e2, e3, e4⟩, _⟩ := I.list h
    obtain ⟨as, ra⟩ := DsAt.reads I hs rv
    exact ⟨_, .list e1 e2 e4 (by simpa using ra)⟩
  | _, _, _, .tuple h hs, r => by
    cases r
    obtain ⟨its, rv, ⟨o, e1, e2, n, e4⟩, _⟩ := I.tuple h
    obtain ⟨as, ra⟩ := DsAt.reads I hs rv
    exact ⟨_, .tuple e1 e2 e4 (by simpa using ra)⟩
theorem DsAt.reads (I : Inv X pins σ H s) : ∀ {ds : List PyData} {vs : List V} {us : List Value}, DsAt X.K H ds vs → Vals vs us → ∃ as, ReadsAll s.heap us ds as
  | _, _, _, .nil, .nil => ⟨_, .nil⟩
  | _, _, _, .cons h hs, .cons r rs => by
    obtain ⟨as, ra⟩ := DAt.reads I h r
    obtain ⟨bs, rb⟩ := DsAt.reads I hs rs
    exact ⟨_, .cons ra rb⟩
end
mutual
theorem DAt.mono {K : PySem.W.Frag} {H' : Hp} (hs : Same H H') : ∀ {d : PyData} {v : V}, DAt K H d v → DAt K H' d v
  | _, _, .none => .none
  | _, _, .bool b => .bool b
  | _, _, .int i => .int i
  | _, _, .str x => .str x
  | _, _, .list h r => .list (hs.seq h) (DsAt.mono hs r)
  | _, _, .tuple h r => .tuple (hs.seqT h) (DsAt.mono hs r)
theorem DsAt.mono {K : PySem.W.Frag} {H' : Hp} (hs : Same H H') : ∀ {ds : List PyData} {vs : List V}, DsAt K H ds vs → DsAt K H' ds vs
  | _, _, .nil => .nil
  | _, _, .cons h r => .cons (DAt.mono hs h) (DsAt.mono hs r)
end
theorem DsAt.length {K : PySem.W.Frag} : ∀ {ds : List PyData} {vs : List V}, DsAt K H ds vs → vs.length = ds.length
  | _, _, .nil => rfl
  | _, _, .cons _ r => by simp [DsAt.length r]
theorem DsAt.map {K : PySem.W.Frag} {α : Type} {f : α → PyData} {g : α → V} (h : ∀ a, DAt K H (f a) (g a)) : ∀ (l : List α), DsAt K H (l.map f) (l.map g)
  | [] => .nil
  | a :: l => .cons (h a) (DsAt.map h l)
/-- == and != of data without dicts -/
def rEqD (K : PySem.W.Frag) (neg : Bool) : R2 := fun x y H Q => ∃ d e, DAt K H d x ∧ DAt K H e y ∧ d.canLay0 = true ∧ e.canLay0 = true ∧ (d.depth ≤ 64 ∨ e.depth ≤ 64) ∧ Q (.bl (if neg then !PyData.eqv d e else PyData.eqv d e)) H
theorem op_eqD {K : PySem.W.Frag} (h : X.K = K) (hu : X.A.units + 64 < cLine) : OpR X (compareOp .Eq) (rEqD K false) := by
  subst h
  intro pins s σ H x y v u Q I rx ry q
  obtain ⟨d, e, hd, he, cd, ce, dd, q⟩ := q
  obtain ⟨as, ra⟩ := hd.reads I rx
  obtain ⟨bs, rb⟩ := he.reads I ry
  exact SeqAt.rcAt_reads ra rb cd ce (by omega) X.prog X.w X.xe _ ⟨.bl _, H, I, rfl, q⟩
theorem op_neD {K : PySem.W.Frag} (h : X.K = K) (hu : X.A.units + 64 < cLine) : OpR X (compareOp .NotEq) (rEqD K true) := by
  subst h
  intro pins s σ H x y v u Q I rx ry q
  obtain ⟨d, e, hd, he, cd, ce, dd, q⟩ := q
  obtain ⟨as, ra⟩ := hd.reads I rx
  obtain ⟨bs, rb⟩ := he.reads I ry
  exact SeqAt.rcNeAt_reads ra rb cd ce (by omega) X.prog X.w X.xe _ ⟨.bl _, H, I, rfl, q⟩

/-! ### t + u, whatever they hold -/
theorem cat_empty {prog : Program} {w : World} {A : Around} {E : Value → Shared → Prop} {s : Shared} {t b : Addr} {ws : List Value} {Q : Value → Shared → Prop} (ht : IsTup s.heap t (#[] : Array Value)) (hb : IsTup s.heap b ws.toArray)
    (h : Q (.ref b) s) : wpAny (model prog w) A (binaryOp .Add (.ref t) (.ref b)) Q E s := by
  obtain ⟨⟨cls, dd, data, sl⟩, ho, hc, n, hd⟩ := id ht
  obtain ⟨⟨cls2, dd2, data2, sl2⟩, ho2, hc2, n2, hd2⟩ := id hb
  simp only at hc hd hc2 hd2
  subst hc hd hc2 hd2
  exact concat_meets ⟨_, ho, rfl⟩ ⟨_, ho2, rfl⟩ noFill_tuple_add seq_tuple_add PySem.F.slot_tuple_add PySem.F.entry_tuple_add (PySem.F.args_tuple_add_2 _ _)
    (tuple_addW0 t b #[] ws.toArray n n2 dd dd2 sl sl2 rfl) ⟨ho, ho2, h⟩
def rCatA : R2 := fun x y H Q => ∃ a b xs ys, x = .ref a ∧ y = .ref b ∧ H a = some (.tup xs) ∧ H b = some (.tup ys) ∧ xs.length + ys.length ≤ sizeLine ∧ ∀ p H', Same H H' → H' p = some (.tup (xs ++ ys)) → Q (.ref p) H'
theorem op_catA : OpR X (binaryOp .Add) rCatA := by
  intro pins s σ H x y v u Q I rx ry q
  obtain ⟨a, b, xs, ys, rfl, rfl, ha, hb, hz, q⟩ := q
  by_cases hx : xs = []
  · subst hx
    cases rx
    cases ry
    obtain ⟨its, r1, p1, _⟩ := I.tuple (SqT.of ha)
    obtain ⟨its2, r2, p2, _⟩ := I.tuple (SqT.of hb)
    cases r1
    exact cat_empty p1 p2 ⟨.ref b, H, I, rfl, q b H (Same.refl _) (by simpa using hb)⟩
  · exact op_catT pins s σ H _ _ v u Q I rx ry ⟨a, b, xs, ys, rfl, rfl, SqT.of ha, SqT.of hb, hx, hz, fun e => q a H (Same.refl _) (by rw [e, List.append_nil]; exact ha), fun _ p hp => q p _ (Same.new hp _) upd_same⟩
end
end L2
namespace L2
open PySem PySem.Spec PyProof.Rows
section
variable {X : Cx}
theorem vals_bools {bs : List Bool} : ∀ {us : List Value}, Vals (bs.map V.bl) us → us = bs.map Value.bool := by
  induction bs with
  | nil => intro us r; cases r; rfl
  | cons b bs ih =>
    intro us r
    rw [List.map_cons] at r
    cases r with
    | cons r1 r2 => cases r1; rw [ih r2]; rfl
theorem range_allG {α : Type} (l : List α) (f : α → Bool) (d : Bool) : ((List.range l.length).all fun i => (l[i]?.map f).getD d) = l.all f := by
  rw [Bool.eq_iff_iff]
  simp only [List.all_eq_true, List.mem_range]
  constructor
  · intro h x hx
    obtain ⟨i, hi, rfl⟩ := List.mem_iff_getElem.mp hx
    have := h i hi
    simpa [hi] using this
  · intro h i hi
    simp [hi]
    exact h _ (List.getElem_mem hi)
theorem range_anyG {α : Type} (l : List α) (f : α → Bool) (d : Bool) : ((List.range l.length).any fun i => (l[i]?.map f).getD d) = l.any f := by
  rw [Bool.eq_iff_iff]
  simp only [List.any_eq_true, List.mem_range]
  constructor
  · rintro ⟨i, hi, h⟩
    exact ⟨l[i], List.getElem_mem hi, by simpa [hi] using h⟩
  · rintro ⟨x, hx, h⟩
    obtain ⟨i, hi, rfl⟩ := List.mem_iff_getElem.mp hx
    exact ⟨i, hi, by simpa [hi] using h⟩
theorem keptI {s : Shared} {h' : Heap} {o : Obj} (hk : ∀ b x, b ∉ [s.heap.objs.size] → (s.heap.push o).get? b = some x → h'.get? b = some x) : ∀ b x, s.heap.get? b = some x → h'.get? b = some x :=
  fun b x e => hk b x (fun hm => Nat.lt_irrefl _ (Nat.lt_of_lt_of_eq (Heap.lt_size e) (List.mem_singleton.mp hm).symm)) (Heap.get?_push_of_some _ e)
/-- all(xs), any(xs) of a list of bools -/
theorem call_allB {K : PySem.W.Frag} (h : X.K = K) (hc : X.calm = true) : CallR X (.builtin "all") (fun xs H Q => ∃ (p : Addr) (bs : List Bool), xs = [.ref p] ∧ SqL K H p (bs.map V.bl) ∧ Q (.bl (bs.all id)) H) := by
  subst h
  intro pins s σ H xs us Q I r q
  obtain ⟨p, bs, rfl, hS, q⟩ := q
  obtain ⟨u, rfl, r1⟩ := r.one
  cases r1
  obtain ⟨its, rv, pl, hz⟩ := I.list hS
  obtain rfl := vals_bools rv
  have hl := pl.isList
  have hlt : p < s.heap.objs.size := by obtain ⟨_, e, _⟩ := hl; exact Heap.lt_size e
  refine call_all_walk (wpAny_pyIter_list hl ?_)
  refine ⟨s.heap.objs.size, [s.heap.objs.size, p], [s.heap.objs.size], (bs.map Value.bool).toArray.size, _, _, fun i => (bs[i]?.map id).getD true, rfl, Walks.list (A := X.A.in1) (I.ok.hd hc) _ p (Nat.ne_of_lt hlt) _,
    ⟨⟨_, Heap.get?_push_size _ rfl, rfl, rfl⟩, hl.push _⟩, fun i v s' Q' E' hP hQ => ?_, fun h' tk hk => ?_⟩
  · have hP' : (bs.map Value.bool)[i]? = some v := by simpa using hP
    rw [List.getElem?_map] at hP'
    cases e : bs[i]? with
    | none => rw [e] at hP'; cases hP'
    | some b =>
      rw [e] at hP'
      cases hP'
      simp only [e] at hQ
      exact wpAny_truthy_bool hQ
  · have e : ((List.range (bs.map Value.bool).toArray.size).all fun i => (bs[i]?.map id).getD true) = bs.all id := by
      rw [List.size_toArray, List.length_map]; exact range_allG bs id true
    rw [e]
    exact ⟨.bl _, H, I.kept (keptI hk), rfl, q⟩
theorem call_anyB {K : PySem.W.Frag} (h : X.K = K) (hc : X.calm = true) : CallR X (.builtin "any") (fun xs H Q => ∃ (p : Addr) (bs : List Bool), xs = [.ref p] ∧ SqL K H p (bs.map V.bl) ∧ Q (.bl (bs.any id)) H) := by
  subst h
  intro pins s σ H xs us Q I r q
  obtain ⟨p, bs, rfl, hS, q⟩ := q
  obtain ⟨u, rfl, r1⟩ := r.one
  cases r1
  obtain ⟨its, rv, pl, hz⟩ := I.list hS
  obtain rfl := vals_bools rv
  have hl := pl.isList
  have hlt : p < s.heap.objs.size := by obtain ⟨_, e, _⟩ := hl; exact Heap.lt_size e
  refine call_any_walk (wpAny_pyIter_list hl ?_)
  refine ⟨s.heap.objs.size, [s.heap.objs.size, p], [s.heap.objs.size], (bs.map Value.bool).toArray.size, _, _, fun i => (bs[i]?.map id).getD false, rfl, Walks.list (A := X.A.in1) (I.ok.hd hc) _ p (Nat.ne_of_lt hlt) _,
    ⟨⟨_, Heap.get?_push_size _ rfl, rfl, rfl⟩, hl.push _⟩, fun i v s' Q' E' hP hQ => ?_, fun h' tk hk => ?_⟩
  · have hP' : (bs.map Value.bool)[i]? = some v := by simpa using hP
    rw [List.getElem?_map] at hP'
    cases e : bs[i]? with
    | none => rw [e] at hP'; cases hP'
    | some b =>
      rw [e] at hP'
      cases hP'
      simp only [e] at hQ
      exact wpAny_truthy_bool hQ
  · have e : ((List.range (bs.map Value.bool).toArray.size).any fun i => (bs[i]?.map id).getD false) = bs.any id := by
      rw [List.size_toArray, List.length_map]; exact range_anyG bs id false
    rw [e]
    exact ⟨.bl _, H, I.kept (keptI hk), rfl, q⟩
end
end L2

end
section
set_option Elab.async false
set_option linter.all false
set_option maxRecDepth 100000
set_option maxHeartbeats 1000000
/-! my own: exceptions of own classes: raised, passing through a def, caught -/
namespace L2
open PySem PySem.Spec PyProof.Rows
open PySem.W (hideAll of_hideAll hideAll_get hideAll_none funFrames_hide)

/-- how an exception lies behind a call: B is all that stays as it is while it flies -/
def CXr (P : Program) (w : World) : CXT := fun outer H s E e s' => ∃ (a C t : Addr) (H' : Hp) (B : Heap), e = .ref a ∧ Heap.FlyingW B outer a (.ref C) (.ref t) s'.heap ∧ s'.os = s.os ∧ AllBare s'.gens ∧
  Un (frs outer) [] H H' s.heap s'.heap ∧ HOk P w H' s'.heap ∧ (∀ b o, H' b = some o → ∀ u, s'.heap.get? b = some u → B.get? b = some u) ∧
  (∀ b o, s.heap.get? b = some o → H b = none → b ∉ frs outer → B.get? b = some o) ∧ (∀ b o, s.heap.get? b = some o → b ∉ frs outer → ∃ o', B.get? b = some o') ∧ H' a = none ∧ E (.ref C) none H'

theorem frame_data {h base : Heap} {l : List Env} (F : h.FunFrames base l) {b : Addr} (hb : b ∈ frs l) : ∃ o, h.get? b = some o ∧ ∀ vs, o.data ≠ .fields vs := by
  obtain ⟨_, o, ho, hd⟩ := F.mem hb
  exact ⟨o, ho, hd⟩
theorem hok_there {P : Program} {w : World} {H : Hp} {h : Heap} (ok : HOk P w H h) {b : Addr} {o : HO} (e : H b = some o) : ∃ u, h.get? b = some u := by
  have := (ok b o e).lt
  cases q : h.get? b with
  | some u => exact ⟨u, rfl⟩
  | none =>
    exfalso
    have z := ok b o e
    cases o with
    | lst xs => obtain ⟨_, _, _, _, e⟩ := z; rw [q] at e; cases e
    | tup xs => obtain ⟨_, _, _, p⟩ := z; obtain ⟨o, e, _⟩ := p; rw [q] at e; cases e
    | dK kvs => obtain ⟨_, _, _, _, o, _, _, e, _⟩ := z; rw [q] at e; cases e
    | dT kvs => obtain ⟨_, _, _, _, o, _, _, e, _⟩ := z; rw [q] at e; cases e
    | set S n => obtain ⟨o, _, _, _, e, _⟩ := z; rw [q] at e; cases e
    | ins C dx fs => obtain ⟨_, _, _, e, _⟩ := z; rw [q] at e; cases e
    | own x => obtain ⟨o, e⟩ := z; rw [q] at e; cases e
    | xd fs => obtain ⟨m, n, _⟩ := z; obtain ⟨o, _, _, e, _⟩ := n.ns; rw [q] at e; cases e
    | met f x => have z : h.get? b = _ := z; rw [q] at z; cases z
    | rng lo hi => obtain ⟨_, _, _, e⟩ := z; rw [q] at e; cases e
    | frz o u => obtain ⟨e, _⟩ := z; rw [q] at e; cases e
    | tbl ps => have z : h.get? b = _ := z; rw [q] at z; cases z
    | ext φ => obtain ⟨_, ⟨o, e⟩, _⟩ := z; rw [q] at e; cases e
/-- the tracked heap is held where every tracked record stays -/
theorem hok_stay {P : Program} {w : World} {H : Hp} {h h' : Heap} (ok : HOk P w H h) (k : ∀ b o, H b = some o → ∀ u, h.get? b = some u → h'.get? b = some u) : HOk P w H h' := fun b o e =>
  (ok b o e).stay (fun c v hc q => by
    rcases hc with rfl | hc
    · exact k c o e v q
    · exact k c _ hc v q) (fun _ q => q) fun _ _ q => q

section
variable {P : Program} {w : World} {K : PySem.W.Frag} {mg : Str → Option Value} {base : Heap} {N : List Str} {qual : Str} {scope : Scope} {f : Addr} {cd : Value} {A : Around} {outer : List Env} {s0 : Shared} {H0 : Hp} {E : XK}

theorem un_slots {fs : List Addr} {H : Hp} {h h' : Heap} (keep : ∀ b o, h.get? b = some o → H b = none → b ∉ fs → h'.get? b = some o) (slot : ∀ b o, h.get? b = some o → b ∈ fs → ∃ sl, h'.get? b = some { o with slots := sl })
    (trk : ∀ b o, H b = some o → ∀ u, h.get? b = some u → h'.get? b = some u) : Un fs [] H H h h' where
  keep := fun b o e n hb _ => keep b o e n hb
  slot := fun b o e n hb _ => slot b o e hb
  free := fun _ _ _ n _ => n
  there := fun b o e _ => by
    by_cases hb : b ∈ fs
    · obtain ⟨sl, q⟩ := slot b o e hb; exact ⟨_, q⟩
    · cases q : H b with
      | none => exact ⟨o, keep b o e q hb⟩
      | some u => exact ⟨o, trk b u q o e⟩
  tups := fun _ _ q => q
  frzs := fun _ _ _ q => q
  tbls := fun b ps q => ⟨#[], by rw [q]; simp⟩

/-- an exception just made leaves the def -/
theorem made_leaves {pins : List (Addr × Obj)} {σ : St} {H : Hp} {s : Shared} {h' : Heap} {e C : Addr} {vs : List Value} (I : Inv (cxOf (CXr P w) P w K mg base N qual scope f cd A outer s0 H0 E) pins σ H s)
    (hx : Heap.MadeExcOf s.heap h' e (.ref C) vs) (hE : E (.ref C) none H) : (cxOf (CXr P w) P w K mg base N qual scope f cd A outer s0 H0 E).xe (.ref e) { s with heap := h' } := by
  have fr : (cxOf (CXr P w) P w K mg base N qual scope f cd A outer s0 H0 E).stack = envOfC qual scope s0.heap.objs.size f cd :: outer := rfl
  have FF := I.stack
  rw [fr] at FF
  have hin : ∀ env ∈ (envOfC qual scope s0.heap.objs.size f cd :: outer), ∀ b, env.frame = some b → b ∈ frs (envOfC qual scope s0.heap.objs.size f cd :: outer) := fun env he b hb => List.mem_filterMap.mpr ⟨env, he, hb⟩
  show wpAny (model P w) (A.deeper (envOfC qual scope s0.heap.objs.size f cd)) (leaving (envOfC qual scope s0.heap.objs.size f cd) (.ref e)) _ _ _
  refine wpAny_leaves_madeW (base := hideAll s.heap (frs (envOfC qual scope s0.heap.objs.size f cd :: outer))) (h := s.heap) I.ok.frames rfl (fun b o q => of_hideAll _ q) (funFrames_hide FF hin) hx fun h'' t x1 x2 x3 x4 => ?_
  have sub : ∀ b, b ∈ frs outer → b ∈ frs (envOfC qual scope s0.heap.objs.size f cd :: outer) := fun b hb => by
    unfold frs at hb ⊢
    rw [List.filterMap_cons]
    split
    · exact hb
    · exact List.mem_cons_of_mem _ hb
  have old : ∀ b o, s.heap.get? b = some o → b ∉ frs (envOfC qual scope s0.heap.objs.size f cd :: outer) → (hideAll s.heap (frs (envOfC qual scope s0.heap.objs.size f cd :: outer))).get? b = some o := fun b o q hb => hideAll_get _ q hb
  have notfr : ∀ b o, H b = some o → b ∉ frs (envOfC qual scope s0.heap.objs.size f cd :: outer) := fun b o q hb => by rw [I.stkFree b hb] at q; cases q
  have slots : ∀ b o, s.heap.get? b = some o → b ∈ frs (envOfC qual scope s0.heap.objs.size f cd :: outer) → ∃ sl, h''.get? b = some { o with slots := sl } := fun b o q hb => by
    obtain ⟨o', ho', hd⟩ := frame_data FF hb
    rw [q] at ho'; cases ho'
    exact x4 b o (hx.keeps b o q) hd
  have inL : ∀ b, b ∈ frs (envOfC qual scope s0.heap.objs.size f cd :: outer) → b = s0.heap.objs.size ∨ b ∈ frs outer := fun b hb => by
    rcases List.mem_cons.mp (I.stkSub b hb) with z | z
    · exact .inl z
    · exact .inr z
  have un2 : Un (frs (envOfC qual scope s0.heap.objs.size f cd :: outer)) [] H H s.heap h'' := un_slots (fun b o q _ hb => x1.1 b o (old b o q hb)) slots (fun b o q u hu => x1.1 b u (old b u hu (notfr b o q)))
  have un1 : Un (frs outer) [] H0 H s0.heap s.heap := I.base
  have below : ∀ b o, s0.heap.get? b = some o → b ≠ s0.heap.objs.size := fun b o q => Nat.ne_of_lt (Heap.lt_size q)
  have oldN : ∀ b o, s0.heap.get? b = some o → b ∉ frs outer → b ∉ frs (envOfC qual scope s0.heap.objs.size f cd :: outer) := fun b o q hb hm => (inL b hm).elim (below b o q) hb
  refine ⟨e, C, t, H, _, rfl, x1, I.os, I.bare, ?_, hok_stay I.hok (fun b o q u hu => x1.1 b u (old b u hu (notfr b o q))), fun b o q u hu => ?_, fun b o q n hb => ?_, fun b o q hb => ?_, ?_, hE⟩
  · refine ⟨fun b o q n hb _ => un2.keep b o (un1.keep b o q n hb (by simp)) (un1.free b o q n (by simp)) (oldN b o q hb) (by simp), fun b o q n hb _ => ?_, fun b o q n _ => un1.free b o q n (by simp), fun b o q _ => ?_, un1.tups, un1.frzs, un1.tbls⟩
    · obtain ⟨sl, q1⟩ := un1.slot b o q n hb (by simp)
      obtain ⟨sl', q2⟩ := un2.slot b _ q1 (un1.free b o q n (by simp)) (sub b hb) (by simp)
      exact ⟨sl', q2⟩
    · obtain ⟨o', q1⟩ := un1.there b o q (by simp)
      exact un2.there b o' q1 (by simp)
  · obtain ⟨v, hv⟩ := hok_there I.hok q
    have z := old b v hv (notfr b o q)
    have z2 := x1.1 b v z
    have hu' : h''.get? b = some u := hu
    rw [z2] at hu'; cases hu'
    exact z
  · exact old b o (un1.keep b o q n hb (by simp)) (oldN b o q hb)
  · obtain ⟨o', q1⟩ := un1.there b o q (by simp)
    exact ⟨o', old b o' q1 (oldN b o q hb)⟩
  · cases q : H e with
    | none => rfl
    | some o =>
      obtain ⟨v, hv⟩ := hok_there I.hok q
      rw [hx.new] at hv; cases hv

/-- an exception of a callee leaves the def too -/
theorem pass_r : Passes (CXr P w) (cxOf (CXr P w) P w K mg base N qual scope f cd A outer s0 H0 E) E := by
  intro pins σ H s e s' I hx
  obtain ⟨a, C, t, H', B, rfl, fl, os, bare, un, ok, kB, kO, kT, hna, hE⟩ := hx
  have fr : (cxOf (CXr P w) P w K mg base N qual scope f cd A outer s0 H0 E).stack = envOfC qual scope s0.heap.objs.size f cd :: outer := rfl
  rw [fr] at fl un kO kT
  show wpAny (model P w) (A.deeper (envOfC qual scope s0.heap.objs.size f cd)) (leaving (envOfC qual scope s0.heap.objs.size f cd) (.ref a)) _ _ _
  refine wpAny_leaves_onW (base := B) I.ok.frames rfl fl fun h'' x1 x2 => ?_
  have sub : ∀ b, b ∈ frs outer → b ∈ frs (envOfC qual scope s0.heap.objs.size f cd :: outer) := fun b hb => by
    unfold frs at hb ⊢
    rw [List.filterMap_cons]
    split
    · exact hb
    · exact List.mem_cons_of_mem _ hb
  have inL : ∀ b, b ∈ frs (envOfC qual scope s0.heap.objs.size f cd :: outer) → b = s0.heap.objs.size ∨ b ∈ frs outer := fun b hb => by
    rcases List.mem_cons.mp (I.stkSub b hb) with z | z
    · exact .inl z
    · exact .inr z
  have un1 : Un (frs outer) [] H0 H s0.heap s.heap := I.base
  have below : ∀ b o, s0.heap.get? b = some o → b ≠ s0.heap.objs.size := fun b o q => Nat.ne_of_lt (Heap.lt_size q)
  have oldN : ∀ b o, s0.heap.get? b = some o → b ∉ frs outer → b ∉ frs (envOfC qual scope s0.heap.objs.size f cd :: outer) := fun b o q hb hm => (inL b hm).elim (below b o q) hb
  refine ⟨a, C, t, H', B, rfl, x1, os.trans I.os, bare, ?_, hok_stay ok (fun b o q u hu => x1.1 b u (kB b o q u hu)), fun b o q u hu => ?_, fun b o q n hb => ?_, fun b o q hb => ?_, hna, hE⟩
  · refine ⟨fun b o q n hb _ => ?_, fun b o q n hb _ => ?_, fun b o q n _ => ?_, fun b o q _ => ?_, fun b xs q => un.tups b xs (un1.tups b xs q), fun b o xs q => un.frzs b o xs (un1.frzs b o xs q), fun b ps q => ?_⟩
    · exact x1.1 b o (kO b o (un1.keep b o q n hb (by simp)) (un1.free b o q n (by simp)) (oldN b o q hb))
    · obtain ⟨sl, q1⟩ := un1.slot b o q n hb (by simp)
      obtain ⟨sl', q2⟩ := un.slot b _ q1 (un1.free b o q n (by simp)) (sub b hb) (by simp)
      obtain ⟨o', ho', hd⟩ := frame_data fl.2.2.1 (sub b hb)
      have q2' : s'.heap.get? b = some _ := q2
      rw [q2'] at ho'; cases ho'
      obtain ⟨sl'', q3⟩ := x2 b _ q2 hd
      exact ⟨sl'', q3⟩
    · obtain ⟨o', q1⟩ := un1.there b o q (by simp)
      exact un.free b o' q1 (un1.free b o q n (by simp)) (by simp)
    · obtain ⟨o', q1⟩ := un1.there b o q (by simp)
      obtain ⟨o'', q2⟩ := un.there b o' q1 (by simp)
      have q2' : s'.heap.get? b = some o'' := q2
      by_cases hm : b ∈ frs (envOfC qual scope s0.heap.objs.size f cd :: outer)
      · obtain ⟨o3, ho3, hd⟩ := frame_data fl.2.2.1 hm
        rw [q2'] at ho3; cases ho3
        obtain ⟨sl, q3⟩ := x2 b _ q2' hd
        exact ⟨_, q3⟩
      · obtain ⟨o3, q3⟩ := kT b o' q1 hm
        exact ⟨o3, x1.1 b o3 q3⟩
    · obtain ⟨m1, q1⟩ := un1.tbls b ps q
      obtain ⟨m2, q2⟩ := un.tbls b _ q1
      exact ⟨m1 ++ m2, by rw [q2, Array.append_assoc]⟩
  · obtain ⟨v, hv⟩ := hok_there ok q
    have z := kB b o q v hv
    have z2 := x1.1 b v z
    have hu' : h''.get? b = some u := hu
    rw [z2] at hu'; cases hu'
    exact z
  · exact kO b o (un1.keep b o q n hb (by simp)) (un1.free b o q n (by simp)) (oldN b o q hb)
  · obtain ⟨o', q1⟩ := un1.there b o q (by simp)
    exact kT b o' q1 (oldN b o q hb)
end
end L2

end
section
set_option Elab.async false
set_option linter.all false
set_option maxRecDepth 100000
set_option maxHeartbeats 2000000
/-! my own: isinstance(e, C) of an exception of an own class -/
namespace L2
open PySem PySem.W PySem.Spec PySem.Calls PyProof.Rows
open PySem.Builtin.ObjectAttr
open PySem.Builtin PySem.Builtin.Getset_descriptor
section
variable {K : Frag} {M : Model} {h : Heap} {x C : Addr} {name : Str} {a g : Value}
theorem looks_data (X : K.In h) (ha : findIn K (.ref C) name = some (some a)) (hg : specialIn K a "__get__" = some (some g)) (hd : takesIn K a = some true) : Looks M h (find (.ref x) (.ref C) name) (.bind g a) := by
  have l3 : Looks M h (dataDescriptor? (some a) (some g)) (some (g, a)) := (looks_takesIn (M := M) X hd).andThen .now
  exact (looks_findIn (M := M) X ha).andThen ((looks_specialIn X hg).andThen (l3.andThen (Looks.tag .now)))
end
section
variable {prog : Program} {w : World} {A : Around} {E : Value → Shared → Prop} {s : Shared} {K : Frag} {x C : Addr} {ox : Obj} {R : Result → Shared → Prop}
theorem looks_ty {M : Model} {h : Heap} (hx : h.get? x = some ox) (hc : ox.cls = .ref C) : Looks M h (typeOf (.ref x)) (.ref C) := hc ▸ (Looks.ld hx).andThen .now
theorem exc_class_get {tp : Value} (X : K.In s.heap) (hx : s.heap.get? x = some ox) (hc : ox.cls = .ref C) (hm : mroIn K C (.type "object") = some true) (q : R (.ok (.ret (.ref C))) s) :
    codeAny (model prog w) A (.call (.builtin "getset_descriptor.__get__") ⟨[.builtin "object.__class__", .ref x, tp], []⟩) R s := by
  obtain ⟨hh, g, dr, t, os⟩ := s
  have l0 := looks_ty (M := model prog w) hx hc
  have l1 := looks_mroIn (M := model prog w) X hm
  refine codeAny_call_builtin KF.slot_gs.plain KF.entry_gs
    (KF.slot_gs.check _ _ _ _ _ _ _ _ KF.type_class (KF.args_gs _ _ _) ?_)
  unfold Builtin.«getset_descriptor.__get__» descrGet
  rw [dga_obj]
  refine wpAny_bind (wpAny_pure ?_)
  unfold descrGetter descrCheckInstance descrNameAndClass isInstance
  simp only [KF.owner_class]
  repeat lk
  refine ⟨Code.quiet_builtin _ (by decide +kernel), codeAny_builtin
    KF.entry_class ?_⟩
  unfold Builtin.«object.__class__» shownTypeOf
  repeat lk
  exact q
/-- what must be seen of an own exception class: its attributes are read as every exception's -/
structure ExcGet (K : Frag) (C : Addr) : Prop where
  ga : findIn K (.ref C) "__getattribute__" = some (some (.builtin "BaseException.__getattribute__"))
  gt : findIn K (.ref C) "__getattr__" = some none
  cl : findIn K (.ref C) "__class__" = some (some (.builtin "object.__class__"))
  gg : specialIn K (.builtin "object.__class__") "__get__" = some (some (.builtin "getset_descriptor.__get__"))
  tk : takesIn K (.builtin "object.__class__") = some true
  ob : mroIn K C (.type "object") = some true
  be : mroIn K C (.type "BaseException") = some true
theorem ga_bind (self : Value) : bindSpecial (.builtin "BaseException.__getattribute__") self = pure (.builtin "BaseException.__getattribute__", [self]) := PySem.F.excAttr_ValueError.ga.bind self
theorem exc_class {Q : Option Value → Shared → Prop} (X : K.In s.heap) (hx : s.heap.get? x = some ox) (hc : ox.cls = .ref C) (G : ExcGet K C) (q : Q (some (.ref C)) { s with toks := s.toks + 1 }) :
    wpAny (model prog w) A (getAttr? (.ref x) "__class__") Q E s := by
  obtain ⟨hh, g, d, t, os⟩ := s
  have l0 := looks_ty (M := model prog w) hx hc
  have l1 := looks_findIn (M := model prog w) X G.ga
  have l2 := looks_findIn (M := model prog w) X G.gt
  have l3 := looks_data (M := model prog w) (x := x) X G.cl G.gg G.tk
  have l4 := looks_mroIn (M := model prog w) X G.be
  unfold getAttr? getAttrBy? getAttrBy
  refine wpAny_bind (wpAny_mkText (wpAny_bind (wpAny_attempt (wpAny_holding (wpAny_bind (l0.at (wpAny_bind (l1.at ?_))))))))
  show wpAny _ _ (getAttrByItsOwn _ _ _ _ _ _) _ _ _
  unfold getAttrByItsOwn hookBefore
  refine wpAny_bind (l2.at ?_)
  show wpAny _ _ (do
    match ← (holding [] (boundAndCalled (.builtin "BaseException.__getattribute__") (.ref x) _)).attempt with
    | .ok v => handedOut v
    | .error e => getattributeRaised _ _ _ e none _ _) _ _ _
  refine wpAny_bind (wpAny_attempt (wpAny_holding ?_))
  unfold boundAndCalled
  rw [ga_bind]
  refine wpAny_bind (wpAny_pure ?_)
  refine wpAny_call (codeAny_call_builtin PySem.F.excAttr_ValueError.ga.plain F.entry_bexc_ga ?_)
  have hk : builtinKind "BaseException.__getattribute__" = some .slot := by decide +kernel
  have hsp : splitId "BaseException.__getattribute__" = some ("BaseException", "__getattribute__") := by decide +kernel
  have hao := F.args_bexc_ga (.ref x) (.str "__class__" t)
  simp only [checkBuiltinCall, hk, hsp]
  dsimp only [List.cons_append, List.nil_append]
  unfold isInstance
  refine wpAny_bind (wpAny_bind (l0.at (l4.at ?_)))
  simp only [Bool.not_true, Bool.false_eq_true, if_false]
  repeat (first | assumption | wp_step)
  rw [hc]
  have l5 := looks_findIn (M := model prog w) X G.cl
  have l6 : Looks (model prog w) hh (getOf (some (.builtin "object.__class__"))) _ := looks_specialIn X G.gg
  have l7 : Looks (model prog w) hh (dataDescriptor? (some (.builtin "object.__class__")) (some (.builtin "getset_descriptor.__get__"))) (some (.builtin "getset_descriptor.__get__", .builtin "object.__class__")) := (looks_takesIn (M := model prog w) X G.tk).andThen .now
  refine l5.at (wpAny_bind (l6.at (wpAny_bind (l7.at ?_))))
  refine wpAny_bind (wpAny_rule (wpAny_pure ?_))
  show wpAny _ _ (bindTo (.builtin "getset_descriptor.__get__") (.builtin "object.__class__") (.ref x) (.ref C)) _ _ _
  unfold bindTo
  show wpAny _ _ (do ret (← holding [_] (call _ [_, .ref x, .ref C]))) _ _ _
  refine wpAny_bind (wpAny_holding (wpAny_call (exc_class_get X hx hc G.ob ?_)))
  refine wpAny_pure ?_
  exact handed_on rfl (wpAny_pure q)
end
end L2

end
section
set_option Elab.async false
set_option linter.all false
set_option maxRecDepth 100000
set_option maxHeartbeats 2000000
namespace L2
open PySem PySem.W PySem.Spec PySem.Calls PyProof.Rows
/-! ### the exception as a thing in the heap -/
def exφ (a C : Addr) : Heap → Prop := fun h => ∃ o, h.get? a = some o ∧ o.cls = .ref C
abbrev ExcO (a C : Addr) : HO := .ext (exφ a C)
section
variable {K : Frag} {x C : Addr}
theorem kitx_exc (G : ExcGet K C) : KitX K (.ref x) (.ref C) (exφ x C) where
  ty := fun M h _ p => let ⟨_, e, c⟩ := p; looks_ty e c
  it := fun M h X _ => by
    obtain ⟨cd, hc, _⟩ := Option.bind_eq_some_iff.mp G.ob
    unfold clsIn at hc
    split at hc
    · rename_i ho
      intro A' Q' E' s' k q
      unfold isType loadHead
      exact wpAny_bind (wpAny_loadPart (k _ _ (X _ _ ho)) (wpAny_pure q))
    · cases hc
  ne := fun h tp dd its n sl X htp => by
    obtain ⟨cd, hc, _⟩ := Option.bind_eq_some_iff.mp G.ob
    refine Bool.eq_false_iff.mpr fun q => ?_
    have e : C = tp := Value.ref.inj (beq_iff_eq.mp q)
    subst e
    unfold clsIn at hc
    split at hc
    · rename_i ho
      have z := (X _ _ ho).symm.trans htp
      cases z
    · cases hc
  ca := fun X p k => let ⟨_, e, c⟩ := p; exc_class X e c G k
end
def clsV : V → Option Value
  | .ref D => some (.ref D)
  | .ty n => some (.type n)
  | _ => none
section
variable {X : Cx}
/-- isinstance(e, C) of an exception that was caught -/
def rIsX (K : Frag) : List V → Hp → VK → Prop := fun xs H Q => ∃ a C c cv b, xs = [.ref a, c] ∧ H a = some (ExcO a C) ∧ ExcGet K C ∧ clsV c = some cv ∧ kitOne K (.ref C) cv = some b ∧ Q (.bl b) H
theorem call_isexc {K : Frag} (hK : X.K = K) : CallR X (.builtin "isinstance") (rIsX K) := by
  subst hK
  intro pins s σ H xs us Q I r q
  obtain ⟨a, C, c, cv, b, rfl, e, G, ec, ek, q⟩ := q
  obtain ⟨u, v, rfl, r1, r2⟩ := r.two
  cases r1
  have ev : v = cv := by
    cases c with
    | ref D => cases r2; cases ec; rfl
    | ty n => cases r2; cases ec; rfl
    | _ => cases ec
  subst ev
  obtain ⟨p, _, _⟩ := (show ObjOk X.prog X.w H s.heap a (ExcO a C) from I.hok a _ e)
  exact kia_one (kitx_exc G) I.kIn p ek (fun z => nomatch z) fun tk => ⟨.bl b, H, I.tok tk, rfl, q⟩
end

/-! ### a thing that stood untracked is tracked from here on -/
section
variable {X : Cx} {pins : List (Addr × Obj)} {σ : St} {H : Hp} {s : Shared}
theorem Inv.track {a : Addr} {o : HO} (I : Inv X pins σ H s) (hn : H a = none) (h0 : X.s₀.heap.get? a = none) (hL : a ≠ X.env.locals) (hC : ∀ x c, X.env.cells.lookup x = some c → c ≠ a) (hp : ∀ p ∈ X.pn ++ pins, p.1 ≠ a)
    (new : ObjOk X.prog X.w (upd H a o) s.heap a o) : Inv X pins σ (upd H a o) s := by
  have ne : ∀ b u, H b = some u → b ≠ a := fun b u e z => by rw [z, hn] at e; cases e
  refine ⟨I.ok, I.os, I.bare, ⟨I.base.keep, I.base.slot, fun b u e n hx => ?_, I.base.there, fun b xs e => ?_, fun b u xs e => ?_, fun b ps e => ?_⟩, I.loc, I.cell, ?_, fun x c e => ?_, fun p q => ?_, fun b u e => ?_, I.len⟩
  · have hb : b ≠ a := fun z => by rw [z, h0] at e; cases e
    rw [upd_ne hb]
    exact I.base.free b u e n hx
  · have z := I.base.tups b xs e
    rw [upd_ne (ne _ _ z)]; exact z
  · have z := I.base.frzs b u xs e
    rw [upd_ne (ne _ _ z)]; exact z
  · obtain ⟨m, z⟩ := I.base.tbls b ps e
    exact ⟨m, by rw [upd_ne (ne _ _ z)]; exact z⟩
  · rw [upd_ne (Ne.symm hL)]; exact I.free
  · rw [upd_ne (hC x c e)]; exact I.freeC x c e
  · obtain ⟨z1, z2, z3, z4, z5⟩ := I.pin p q
    exact ⟨z1, by rw [upd_ne (hp p q)]; exact z2, z3, z4, z5⟩
  · by_cases hb : b = a
    · subst hb
      rw [upd_same] at e; cases e
      exact new
    · rw [upd_ne hb] at e
      exact (I.hok b u e).stay (fun c v _ q => q) (fun c q => by rw [upd_ne (ne _ _ q)]; exact q) fun c xs q => by rw [upd_ne (ne _ _ q)]; exact q
end

/-! ### within an except suite -/
def Cx.inExc (X : Cx) (a : Addr) : Cx := { X with A := X.A.mark (some (.ref a)), calm := false, xe := fun _ _ => False }
section
variable {X : Cx} {pins : List (Addr × Obj)} {σ : St} {H : Hp} {s : Shared} {a : Addr}
theorem Inv.inExc (I : Inv X pins σ H s) (a : Addr) : Inv (X.inExc a) pins σ H s :=
  ⟨⟨I.ok.mod, I.ok.kind, I.ok.glob, I.ok.blt, I.ok.above, I.ok.inj, I.ok.has, I.ok.cab, fun z => Bool.noConfusion (show false = true from z), I.ok.frames, I.ok.stk, I.ok.exf, I.ok.bs, I.ok.bsz, I.ok.noex, I.ok.exfs, I.ok.funs, I.ok.frf⟩, I.os, I.bare, I.base, I.loc, I.cell, I.free, I.freeC, I.pin, I.hok, I.len⟩
theorem Inv.outExc (ok : X.Ok) (I : Inv (X.inExc a) pins σ H s) : Inv X pins σ H s := ⟨ok, I.os, I.bare, I.base, I.loc, I.cell, I.free, I.freeC, I.pin, I.hok, I.len⟩
/-- the exception's name goes -/
theorem Inv.nameGoes {h' : Heap} {tk : Nat} {n : Str} {j : Nat} {v : Option Value} (I : Inv X pins σ H s) (hN : X.N.Nodup) (hj : X.N[j]? = some n) (sb : Heap.SameBut X.env.locals s.heap h')
    (hn : ∀ m, s.heap.Ns X.env.locals m → h'.Ns X.env.locals (fun x => if x = n then v else m x)) (hl : X.env.scope.names.lookup n = some .local) : Inv X pins (σ.set j none) H { s with heap := h', toks := tk } := by
  have neL : ∀ b o, X.s₀.heap.get? b = some o → b ≠ X.env.locals := fun b o e => Nat.ne_of_lt (Nat.lt_of_lt_of_le (Heap.lt_size e) I.ok.above)
  obtain ⟨m, hm, hloc⟩ := id I.loc
  refine ⟨I.ok, I.os, I.bare, ⟨fun b o e n' hb hx => (sb.2 b (neL b o e)).trans (I.base.keep b o e n' hb hx), fun b o e n' hb hx => ?_, I.base.free, fun b o e hx => ?_, I.base.tups, I.base.frzs, I.base.tbls⟩,
    ⟨_, hn m hm, fun i y u e1 e2 e3 => ?_⟩, fun y c e => ?_, I.free, I.freeC, fun p hp => ?_, fun b u e => ?_, by simpa using I.len⟩
  · obtain ⟨sl, z⟩ := I.base.slot b o e n' hb hx
    exact ⟨sl, (sb.2 b (neL b o e)).trans z⟩
  · obtain ⟨o', z⟩ := I.base.there b o e hx
    exact ⟨o', (sb.2 b (neL b o e)).trans z⟩
  · have hji : i ≠ j := fun z => by
      subst z
      have hi : i < σ.length := by rw [I.len]; exact (List.getElem?_eq_some_iff.mp e1).1
      rw [List.getElem?_set_self hi] at e2
      cases e2
    rw [List.getElem?_set_ne (Ne.symm hji)] at e2
    obtain ⟨u', r, l⟩ := hloc i y u e1 e2 e3
    have hyn : y ≠ n := fun z => hji (nodup_ix hN e1 (z ▸ hj))
    refine ⟨u', r, ?_⟩
    rcases l with ⟨k, e⟩ | ⟨k, c, e, z⟩
    · exact .inl ⟨k, by simp [hyn, e]⟩
    · exact .inr ⟨k, c, e, z.sameBut sb (I.cne y c e)⟩
  · obtain ⟨u', z⟩ := I.cell y c e
    exact ⟨u', z.sameBut sb (I.cne y c e)⟩
  · obtain ⟨z1, z2, z3, z4, z5⟩ := I.pin p hp
    exact ⟨(sb.2 p.1 z3).trans z1, z2, z3, z4, z5⟩
  · refine (I.hok b u e).stay (fun c v' hc q => (sb.2 c ?_).trans q) (fun _ q => q) fun _ _ q => q
    rintro rfl
    rcases hc with rfl | hc
    · rw [I.free] at e; cases e
    · rw [I.free] at hc; cases hc
end

/-! ### own exception classes, straight or not under ValueError -/
abbrev VErr : List Value := [.type "ValueError", .type "Exception", .type "BaseException", .type "object"]
structure ExcC (K : Frag) (mg : Str → Option Value) (x : Str) (C : Addr) : Prop where
  nm : mg x = some (.ref C)
  ex : excIn K C VErr "ValueError.__new__" = true
  get : ExcGet K C
theorem exc_obj {K : Frag} {h : Heap} {C : Addr} (X : K.In h) (q : excIn K C VErr "ValueError.__new__" = true) :
    ∃ bm N nm qn bs hdct sn sub ab col dd k0 k1 k2 k3 k5 mN, h.get? C = some (excClassObj nm qn C N bs bm hdct sn sub ab col dd k0 k1 k2 k3 k5 "ValueError.__new__") ∧ h.Ns N mN ∧ mN "__init__" = none ∧ OwnTail h VErr bm ∧
      ∀ v, mroIn K C v = some true → (Value.ref C :: bm).contains v = true := by
  unfold excIn at q
  split at q
  · rename_i dd cd sl look
    split at q
    · rename_i C' bm k0 k1 k2 k3 nw k5 hmro hsl
      simp only [Bool.and_eq_true, beq_iff_eq, Bool.not_eq_true'] at q
      obtain ⟨⟨⟨⟨⟨q1, q2⟩, q3⟩, q4⟩, q5⟩, q6⟩ := q
      subst q1 q2
      have hmr : ∀ v, mroIn K C' v = some true → (Value.ref C' :: bm).contains v = true := fun v hv => by
        unfold mroIn clsIn at hv
        rw [look] at hv
        simp only [Option.bind_some] at hv
        rw [hmro] at hv
        simpa using hv
      obtain ⟨nm, bs, mro, ns, qn, hd, sn, sub, ab, col, del⟩ := cd
      dsimp only at hmro q3 q5 q6
      subst hmro q3
      have es : sl = #[k0, k1, k2, k3, some (.builtin "ValueError.__new__"), k5] := by
        obtain ⟨l⟩ := sl
        simp only at hsl
        rw [hsl]
      subst es
      exact ⟨bm, ns, nm, qn, bs, hd, sn, sub, ab, col, dd, k0, k1, k2, k3, k5, _, X _ _ look, .of_isNs (isNs_of_in X q5),
        nsMap_none_of_in X q5 q6, tail_of_in X q4, hmr⟩
    · cases q
  · cases q

section
variable {P : Program} {w : World} {K : Frag} {mg : Str → Option Value} {base : Heap} {N : List Str} {qual : Str} {scope : Scope} {f : Addr} {cd : Value} {A : Around} {outer : List Env} {s0 : Shared} {H0 : Hp} {E : XK}
/-- raise C(e, ..) out of a def -/
def tRaise (C : Addr) (E : XK) (ta : TA) : TS := fun _ σ H => ta σ H fun vs H1 => vs.length ≤ sizeLine ∧ E (.ref C) none H1
theorem ps_raise {x : Str} {C : Addr} {e₀ : Expr} {rest : List Expr} {ta : TA} {np cpos pos : Pos} (hx : ExcC K mg x C) (hc : A.handled = none) (ha : PA (cxOf (CXr P w) P w K mg base N qual scope f cd A outer s0 H0 E) (e₀ :: rest) ta)
    (hg : Gl (cxOf (CXr P w) P w K mg base N qual scope f cd A outer s0 H0 E) x) (hd : (x == ("__debug__" : Str)) = false := by decide)
    (he : starEach (e₀ :: rest) (envOfC qual scope s0.heap.objs.size f cd) = (false, eval e₀ (envOfC qual scope s0.heap.objs.size f cd)) :: starEach rest (envOfC qual scope s0.heap.objs.size f cd) := by rfl)
    (hpl : (backTo cpos (starEach rest (envOfC qual scope s0.heap.objs.size f cd))).any (·.1) = false := by rfl) :
    PS (cxOf (CXr P w) P w K mg base N qual scope f cd A outer s0 H0 E) (.Raise (some (.Call (.Name x np) (e₀ :: rest) [] cpos)) none pos) (tRaise C E ta) := by
  intro pins s σ H D I h
  obtain ⟨tl, N', nm, q, bs, hdct, sn, sub, ab, col, dd, k0, k1, k2, k3, k5, mN, hC, hN', hni, T, _⟩ := exc_obj I.mod.kin hx.ex
  show wpAny (model P w) (A.deeper (envOfC qual scope s0.heap.objs.size f cd)) (exec _ (envOfC qual scope s0.heap.objs.size f cd)) _ _ s
  refine wpAny_Raise_call_subT (C := C) (nm := nm) (q := q) (N := N') (bs := bs) (bm := tl) (hdct := hdct) (sn := sn) (sub := sub) (ab := ab) (col := col) (dd := dd) (k0 := k0) (k1 := k1) (k2 := k2) (k3 := k3) (k5 := k5)
    PySem.F.excBase_ValueError (mN := mN) (T.hasType PySem.F.excBase_ValueError.hasBase) hc ?_ hni (ld_glob I hg hx.nm ⟨rfl, ?_⟩ hd)
  · rw [he]
    show (false || (backTo cpos (starEach rest (envOfC qual scope s0.heap.objs.size f cd))).any (·.1)) = false
    rw [hpl]; rfl
  have h2 := ha cpos pins s σ H _ I h
  have he2 : starEach (e₀ :: rest) (cxOf (CXr P w) P w K mg base N qual scope f cd A outer s0 H0 E).env = starEach (e₀ :: rest) (envOfC qual scope s0.heap.objs.size f cd) := rfl
  rw [he2] at h2
  rw [he] at h2 ⊢
  refine Calls.evalArgs_plain (wpAny_mono h2 (fun us s₂ h₂ => ?_) fun _ _ y => y)
  obtain ⟨vs, H1, I1, r, hl, hE⟩ := h₂
  exact ⟨rfl, by rw [← r.length]; exact hl, I1.bk _ _ hC, hN'.keeps I1.bk, T.keeps I1.bk, fun h' e hm => made_leaves I1 hm hE⟩
end
end L2

end
section
set_option Elab.async false
set_option linter.all false
set_option maxRecDepth 100000
set_option maxHeartbeats 2000000
namespace L2
open PySem PySem.W PySem.Spec PySem.Calls PyProof.Rows
theorem ns_uniq {h : Heap} {a : Addr} {m m' : Str → Option Value} (x : h.Ns a m) (y : h.Ns a m') : m = m' := by
  obtain ⟨o, es, ep, e, d, _, q⟩ := x
  obtain ⟨o', es', ep', e', d', _, q'⟩ := y
  rw [e] at e'; cases e'
  rw [d] at d'; cases d'
  funext z
  rw [← q z, ← q' z]
/-- e is of a class under D -/
theorem exc_matches {M : Model} {A : Around} {E : Value → Shared → Prop} {K : Frag} {s : Shared} {e C D : Addr} {oe : Obj} {Q : Bool → Shared → Prop} (X : K.In s.heap) (hC : excIn K C VErr "ValueError.__new__" = true) (hD : excIn K D VErr "ValueError.__new__" = true)
    (hb : mroIn K D (.type "BaseException") = some true) (hm : mroIn K C (.ref D) = some true) (he : s.heap.get? e = some oe) (hcls : oe.cls = .ref C) (q : Q true s) : wpAny M A (excMatches (.ref e) (.ref D)) Q E s := by
  obtain ⟨h, g, d, t, os⟩ := s
  obtain ⟨bm, N, nm, qn, bs, hdct, sn, sub, ab, col, dd, k0, k1, k2, k3, k5, mN, oC, _, _, _, mC⟩ := exc_obj X hC
  obtain ⟨bm', N', nm', qn', bs', hdct', sn', sub', ab', col', dd', k0', k1', k2', k3', k5', mN', oD, _, _, _, mD⟩ := exc_obj X hD
  have c1 := mC _ hm
  have c2 := mD _ hb
  have f0 := tc_notTuple
  unfold excMatches
  repeat (first | (with_reducible refine wpAny_loadPart_at he ?_; rw [hcls]) | with_reducible refine wpAny_loadPart_at oD ?_ | (with_reducible refine wpAny_isSubtype_exc oD ?_; rw [c2]) | (with_reducible refine wpAny_isSubtype_exc oC ?_; rw [c1]) | wp_step)
  exact q

/-- what is wanted of an exception at a try: caught, then the suite -/
def EXtry (K : Frag) (Cr : Addr) (j : Nat) (th : TS) (D : Ends) (σ : St) : XK := fun C _ H' => ∃ Ca, C = .ref Ca ∧ excIn K Ca VErr "ValueError.__new__" = true ∧ mroIn K Ca (.ref Cr) = some true ∧
  ∀ a, H' a = none → th { nx := fun σ' H'' => D.nx (σ'.set j none) H'', rt := D.rt, bk := fun σ' H'' => D.bk (σ'.set j none) H'', ct := fun σ' H'' => D.ct (σ'.set j none) H'' } (σ.set j (some (.ref a))) (upd H' a (ExcO a Ca))

section
variable {X : Cx} {pins : List (Addr × Obj)} {σ : St} {H : Hp} {s s' : Shared} {D : Ends} {Cr : Addr} {j : Nat} {th : TS} {e : Value} {xr n : Str} {rp hpos : Pos} {b₀ : Stmt} {suite : List Stmt} {fx fy : Str}

theorem caught (I : Inv X pins σ H s) (hc : X.calm = true) (hst : X.stack = X.env :: X.outer) (hfr : X.env.frame = some X.env.locals) (hex : X.ex = [])
    (hN : X.N.Nodup) (hj : X.N[j]? = some n) (hn : X.env.scope.names.lookup n = some .local) (hR : ExcC X.K X.mg xr Cr) (hg : Gl X xr) (hs : ∀ a, PSs (X.inExc a) (b₀ :: suite) th)
    (hx : CXr X.prog X.w X.stack H s (EXtry X.K Cr j th D σ) e s') (hd : (xr == ("__debug__" : Str)) = false := by decide) :
    wpAny (model X.prog X.w) X.A (noteFrame e X.env) (fun _ s₂ => wpAny (model X.prog X.w) X.A (setFlight e none) (fun _ s₃ =>
      wpAny (model X.prog X.w) X.A (handleBy e X.env [.ExceptHandler (some (.Name xr rp)) (some n) (b₀ :: suite) hpos]) (SP X pins D) X.xe s₃) X.xe s₂) X.xe s' := by
  obtain ⟨a, C, t, H', B, rfl, fl, os, bare, un, ok, kB, kO, kT, hna, Ca, eC, ex, hm, hth⟩ := hx
  cases eC
  have frs' : X.A.frames = some (X.env :: X.outer) := by rw [← hst]; exact I.ok.frames
  have FF := fl.2.2.1
  rw [hst] at fl
  refine wpAny_looks_onW frs' hfr fl fun h₄ held₄ sm₄ => ?_
  refine wpAny_landsW held₄ fun h₅ fl₅ sm₅ => ?_
  -- the state at any such heap
  have at_ : ∀ h₅, Heap.FlyingW B (X.env :: X.outer) a (.ref C) (.ref t) h₅ → s'.heap.UpToSlots h₅ → Inv X pins σ H' { s' with heap := h₅ } := fun h₅ f5 sm => by
    have un5 : Un (frs X.stack) [] H H' s.heap h₅ := by
      refine ⟨fun b o q n' hb _ => f5.1 b o (kO b o q n' hb), fun b o q n' hb _ => ?_, un.free, fun b o q _ => ?_, un.tups, un.frzs, un.tbls⟩
      · obtain ⟨sl, q1⟩ := un.slot b o q n' hb (by simp)
        obtain ⟨o', ho', hd'⟩ := frame_data FF hb
        rw [q1] at ho'; cases ho'
        obtain ⟨sl', q2⟩ := sm b _ q1 hd'
        exact ⟨sl', q2⟩
      · by_cases hb : b ∈ frs X.stack
        · obtain ⟨o1, q1⟩ := un.there b o q (by simp)
          obtain ⟨o', ho', hd'⟩ := frame_data FF hb
          rw [q1] at ho'; cases ho'
          obtain ⟨sl', q2⟩ := sm b _ q1 hd'
          exact ⟨_, q2⟩
        · obtain ⟨o1, q1⟩ := kT b o q hb
          exact ⟨o1, f5.1 b o1 q1⟩
    exact I.call' (s' := { s' with heap := h₅ }) (ch := []) os un5 (hok_stay ok fun b o q u hu => f5.1 b u (kB b o q u hu)) bare (fun b z => absurd z (by simp))
  -- the exception is younger than the try
  have young : s.heap.get? a = none := by
    cases q : s.heap.get? a with
    | none => rfl
    | some o =>
      exfalso
      by_cases hb : a ∈ frs X.stack
      · obtain ⟨o', ho', hd'⟩ := frame_data FF hb
        obtain ⟨oe, ws, he, _, hdat, _⟩ := fl.first
        rw [he] at ho'; cases ho'
        exact hd' _ hdat
      · obtain ⟨o1, q1⟩ := kT a o q hb
        rw [fl.2.1] at q1; cases q1
  have young0 : X.s₀.heap.get? a = none := by
    cases q : X.s₀.heap.get? a with
    | none => rfl
    | some o =>
      obtain ⟨o', q'⟩ := I.base.there a o q (by rw [hex]; simp)
      rw [young] at q'; cases q'
  have I5 := at_ h₅ fl₅ (fun b o q hd' => by
    obtain ⟨sl, q1⟩ := sm₄ b o q hd'
    obtain ⟨sl', q2⟩ := sm₅ b _ q1 hd'
    exact ⟨sl', q2⟩)
  obtain ⟨oe5, ws5, he5, hc5, hd5, _⟩ := fl₅.first
  refine wpAny_handleBy_cons (codeAny_handlers_test (ld_glob (I5.inExc a) hg hR.nm ?_ hd)) (by intro q; cases q)
  refine exc_matches (s := { s' with heap := h₅ }) I5.kIn ex hR.ex hR.get.be hm he5 hc5 ?_
  refine codeAny_handlers_suite_as (lands_againW fl₅ fun h₆ fl₆ sm₆ => ?_)
  have I6 := at_ h₆ fl₆ (fun b o q hd' => by
    obtain ⟨sl, q1⟩ := sm₄ b o q hd'
    obtain ⟨sl', q2⟩ := sm₅ b _ q1 hd'
    obtain ⟨sl'', q3⟩ := sm₆ b _ q2 hd'
    exact ⟨sl'', q3⟩)
  obtain ⟨oe6, ws6, he6, hc6, hd6, _⟩ := fl₆.first
  have I7 : Inv X pins σ (upd H' a (ExcO a C)) { s' with heap := h₆ } := by
    refine I6.track hna young0 (fun z => ?_) (fun x c q z => ?_) (fun p q z => ?_) ⟨⟨oe6, he6, hc6⟩, ⟨oe6, he6⟩, fun h1 h2 ⟨o, e1, e2⟩ k => ⟨o, k o e1, e2⟩⟩
    · obtain ⟨m, ⟨o, _, _, q, _⟩, _⟩ := I.loc
      rw [← z, young] at q; cases q
    · obtain ⟨v, o, q1, _⟩ := I.cell x c q
      rw [z, young] at q1; cases q1
    · have q1 := (I.pin p q).1
      rw [z, young] at q1; cases q1
  refine store_ok (X := X.inExc a) (v := .ref a) (I7.inExc a) hN hj (.inl hn) rfl (fun s8 I8 => ?_) (.inr hn)
  refine wpAny_mono (hs a pins s8 _ _ _ I8 (hth a hna)) (fun f s9 q9 => ?_) fun _ _ z => False.elim z
  have fin : ∀ {σ9 : St} {H9 : Hp}, Inv (X.inExc a) pins σ9 H9 s9 → (∀ s10, Inv X pins (σ9.set j none) H9 s10 → SP X pins D f s10) →
      wpAny (model X.prog X.w) X.A (do bindName X.env n .none; unbindBehindTheSuite X.env n hpos) (fun _ s10 => SP X pins D f s10) X.xe s9 := fun {σ9 H9} I9 k => by
    have J := I9.outExc I.ok
    obtain ⟨m, hm', _⟩ := id J.loc
    refine wpAny_nameGoes_keeps hn hm' (by rw [I.ok.kind]; rfl) fun h' v hn' sb => k _ (J.nameGoes hN hj sb (v := v) (fun m2 hm2 => ?_) hn)
    rw [← ns_uniq hm' hm2]
    exact hn'
  cases f with
  | next => obtain ⟨σ9, H9, I9, q⟩ := q9; exact fin I9 fun s10 J => ⟨_, H9, J, q⟩
  | brk => obtain ⟨σ9, H9, I9, q⟩ := q9; exact fin I9 fun s10 J => ⟨_, H9, J, q⟩
  | cont => obtain ⟨σ9, H9, I9, q⟩ := q9; exact fin I9 fun s10 J => ⟨_, H9, J, q⟩
  | ret u => obtain ⟨v, σ9, H9, I9, r, q⟩ := q9; exact fin I9 fun s10 J => ⟨v, _, H9, J, r, q⟩

/-- a callee that may raise -/
def CalleeX (P : Program) (w : World) (K : Frag) (mg : Str → Option Value) (base : Heap) (x : Str) (k : Nat) (ps : List Str) (sp : Sp) : Prop :=
  ∃ f fd, FnOk P w K mg base (CXr P w) k f fd ps sp ∧ Binds K fd ps [] ∧ keepIn K (.ref f) = true ∧ mg x = some (.ref f)
/-- try: y = f(..) except C as n: suite -/
def tTry (K : Frag) (Cr : Addr) (i j : Nat) (sp : Sp) (ta : TA) (th : TS) : TS := fun D σ H => ta σ H fun vs H1 => sp vs H1 (fun v H2 => D.nx (σ.set i (some v)) H2) (EXtry K Cr j th D σ)
theorem ps_tryCall {i k k' : Nat} {y : Str} {ps : List Str} {sp : Sp} {e₀ : Expr} {es : List Expr} {ta : TA} {py fp cpos apos pos : Pos} (C : CalleeX X.prog X.w X.K X.mg X.base fx k ps sp) (hr : Room k' X.A) (hk : k ≤ k') (hc : X.calm = true) (hst : X.stack = X.env :: X.outer) (hfr : X.env.frame = some X.env.locals) (hex : X.ex = [])
    (hN : X.N.Nodup) (hi : X.N[i]? = some y) (hy : Loc X.env.scope y) (hyf : X.fn y = true ∨ X.env.scope.names.lookup y = some .local) (hgf : Gl X fx) (ha : PA X.nox (e₀ :: es) ta)
    (hj : X.N[j]? = some n) (hn : X.env.scope.names.lookup n = some .local) (hR : ExcC X.K X.mg xr Cr) (hg : Gl X xr) (hs : ∀ a, PSs (X.inExc a) (b₀ :: suite) th)
    (hd : (xr == ("__debug__" : Str)) = false := by decide) (hdf : (fx == ("__debug__" : Str)) = false := by decide) (hsw : swapsWith (.Call (.Name fx fp) (e₀ :: es) [] cpos) (some (.Name y py)) apos.line X.env = pure false := by rfl)
    (he : starEach (e₀ :: es) X.env = (false, eval e₀ X.env) :: starEach es X.env := by rfl) (hpl : (backTo cpos (starEach es X.env)).any (·.1) = false := by rfl) :
    PS X (.Try [.Assign [.Name y py] (.Call (.Name fx fp) (e₀ :: es) [] cpos) apos] [.ExceptHandler (some (.Name xr rp)) (some n) (b₀ :: suite) hpos] [] [] pos) (tTry X.K Cr i j sp ta th) := by
  obtain ⟨f, fd, F, b, kp, mf⟩ := C
  intro pins s σ H D I h
  refine wpAny_Try_except (wpAny_execs_cons (wpAny_Assign_Name (wpAny_Call_Name_kw (ld_glob I hgf mf ?_ hdf)) hsw))
  refine PySem.W.callWith_K (h₀ := X.base) I.ok.mod.kin kp (wpAny_mono (ha cpos pins s σ H _ (I.wish _) h) (fun us s1 q => ?_) fun _ _ z => False.elim z) he hpl
  obtain ⟨vs, H1, I1, r, q⟩ := q
  have I1 := I1.unwish
  refine ⟨I1.kIn, ?_⟩
  have hl : us.length = ps.length := by rw [← r.length]; exact F.len _ _ _ _ q
  have hb := b s1 us I1.kIn (by simpa using hl)
  rw [List.append_nil] at hb
  refine wpAny_call (codeAny_mono (F.run X.A X.stack s1 H1 ⟨us, []⟩ us vs _ _ (hr.mono hk) I1.env0 hb r q) fun res s2 hq => ?_)
  cases res with
  | error e => exact caught I1 hc hst hfr hex hN hj hn hR hg hs hq hd
  | ok fl =>
    cases fl with
    | next => exact False.elim hq
    | brk => exact False.elim hq
    | cont => exact False.elim hq
    | ret u =>
      obtain ⟨v, H2, I2, r2, q2⟩ := I1.after hq
      exact store_ok I2 hN hi hy r2 (fun s3 I3 => wpAny_execs_nil (wpAny_execs_nil ⟨_, H2, I3, q2⟩)) hyf
/-- a call of a def that may raise, the exception leaves this def too -/
theorem FnOk.lift {P : Program} {w : World} {K : Frag} {mg : Str → Option Value} {base : Heap} {k : Nat} {f : Addr} {fd : FuncData} {ps : List Str} {sp : Sp} {CX : CXT} (F : FnOk P w K mg base CX0 k f fd ps sp) : FnOk P w K mg base CX k f fd ps sp :=
  ⟨F.len, fun A outer s H args us vs Q E hr he hb hv hs => codeAny_mono (F.run A outer s H args us vs Q E hr he hb hv hs) fun r s' q => by
    cases r with
    | error e => exact False.elim q
    | ok fl => cases fl <;> exact q⟩
/-- a def that may raise -/
theorem Fun.okX {P : Program} {w : World} {K : Frag} {mg : Str → Option Value} {base : Heap} {x qual : Str} {st : Stmt} {f : Addr} {fd : FuncData} {N ps : List Str} {k : Nat} {sp : Sp} (F : Fun K x qual st f fd) (S : FnScope N ps (defScope st)) (len : ∀ vs H Q E, sp vs H Q E → vs.length = ps.length)
    (hbody : ∀ (cdv : Value) (A : Around) (outer : List Env) (s : Shared) (H : Hp) (vs : List V) (Q : VK) (E : XK), Room k (A.deeper (envOfC qual (defScope st) s.heap.objs.size f cdv)) → sp vs H Q E →
      ∃ t, PSs (cxOf (CXr P w) P w K mg base N qual (defScope st) f cdv A outer s H E) (defBody st) t ∧ t { nx := fun _ H' => Q .non H', rt := Q } (start N vs) H) : FnOk P w K mg base (CXr P w) (k + 1) f fd ps sp := by
  obtain ⟨oc, od, kV, doc, pm, an, cdv, ct, osl, rfl, lk, hcd⟩ := F.ex
  exact fn_of lk hcd S len fun A outer s H vs Q E hr hsp => hbody cdv A outer s H vs Q E hr hsp
end
end L2

end
section
set_option Elab.async false
set_option linter.all false
set_option maxRecDepth 100000
set_option maxHeartbeats 1000000
namespace L2
open PySem PySem.Spec PyProof.Rows
def NoSl (i : Expr) : Prop := ∀ ov iv, subscripted i false ov iv = operate [ov, iv] (getItem ov iv)
theorem subD_of {prog : Program} {w : World} {A : Around} {E : Value → Shared → Prop} {s : Shared} {env : Env} {value slice : Expr} {pos : Pos} {T id : String} {Q : Value → Shared → Prop}
    (hl : typeLookup (.type T) "__getitem__" = pure (some (.builtin id))) (hs : NoSl slice)
    (h : wpAny (model prog w) A (eval value env) (fun o s₁ => wpAny (model prog w) A (eval slice env) (fun i s₂ => s₂.TypeIs o T ∧ wpAny (model prog w) A (getItem o i) Q E s₂) E s₁) E s) :
    wpAny (model prog w) A (eval (.Subscript value slice pos) env) Q E s := by
  refine Subscript_ (wpAny_mono h (fun o s₁ h₁ => wpAny_mono h₁ (fun i s₂ h₂ => ?_) fun _ _ x => x) fun _ _ x => x)
  obtain ⟨hT, h₂⟩ := h₂
  unfold subscriptTail
  refine wpAny_bind ?_
  rw [getitemInPython_of_ne hT.not_modules]
  refine wpAny_bind (wpAny_specialOf hT hl ?_)
  have fin : wpAny (model prog w) A (subscripted slice false o i) (fun r s₃ => wpAny (model prog w) A (letTemporaryGo value o r >>= fun _ => pure r) Q E s₃) E s₂ := by
    rw [hs o i]
    exact wpAny_operating (wpAny_mono h₂ (fun r s₃ h₃ => wpAny_bind (wpAny_letTemporaryGo (wpAny_pure h₃))) fun _ _ x => x)
  first
    | exact wpAny_pure (wpAny_bind fin)
    | exact wpAny_bind (wpAny_pure (wpAny_bind fin))
    | exact wpAny_bind fin
end L2

end
section
set_option Elab.async false
set_option linter.all false
namespace L2
open PySem PySem.Spec PyProof.Rows
/-- a def that may raise, where it doesn't -/
theorem FnOk.calm {P : Program} {w : World} {K : PySem.W.Frag} {mg : Str → Option Value} {base : Heap} {k : Nat} {f : Addr} {fd : FuncData} {ps : List Str} {sp sp' : Sp} (F : FnOk P w K mg base (CXr P w) k f fd ps sp)
    (h : ∀ vs H Q E, sp' vs H Q E → sp vs H Q E0) : FnOk P w K mg base CX0 k f fd ps sp' :=
  ⟨fun vs H Q E q => F.len vs H Q E0 (h _ _ _ _ q), fun A outer s H args us vs Q E hr he hb hv hs => codeAny_mono (F.run A outer s H args us vs Q E0 hr he hb hv (h _ _ _ _ hs)) fun r s' q => by
    cases r with
    | error e =>
      obtain ⟨a, C, t, H', B, _, _, _, _, _, _, _, _, _, _, z⟩ := q
      exact z.elim
    | ok fl => cases fl <;> exact q⟩
end L2

end
section
set_option Elab.async false
set_option linter.all false
set_option maxRecDepth 100000
/-! my own: words, as a datum; how the heap bears one; the law's helpers as Lean functions -/
namespace RR
open PySem L2

inductive Wd where
  | on | off | relay (k : Int) | button (k : Int) | nt (a : Wd) | an (a b : Wd) | or (a b : Wd)
deriving DecidableEq

/-- the heap bears the word at v -/
def WAt (H : Hp) : Wd → V → Prop
  | .on, v => ∃ p, v = .ref p ∧ H p = some (.tup [.str "on"])
  | .off, v => ∃ p, v = .ref p ∧ H p = some (.tup [.str "off"])
  | .relay k, v => ∃ p, v = .ref p ∧ H p = some (.tup [.str "relay", .int k])
  | .button k, v => ∃ p, v = .ref p ∧ H p = some (.tup [.str "button", .int k])
  | .nt a, v => ∃ p x, v = .ref p ∧ H p = some (.tup [.str "not", x]) ∧ WAt H a x
  | .an a b, v => ∃ p x y, v = .ref p ∧ H p = some (.tup [.str "and", x, y]) ∧ WAt H a x ∧ WAt H b y
  | .or a b, v => ∃ p x y, v = .ref p ∧ H p = some (.tup [.str "or", x, y]) ∧ WAt H a x ∧ WAt H b y
theorem WAt.mono {H H' : Hp} (h : TupLe H H') : ∀ {w : Wd} {v : V}, WAt H w v → WAt H' w v
  | .on, _, ⟨p, e, q⟩ => ⟨p, e, h _ _ q⟩
  | .off, _, ⟨p, e, q⟩ => ⟨p, e, h _ _ q⟩
  | .relay _, _, ⟨p, e, q⟩ => ⟨p, e, h _ _ q⟩
  | .button _, _, ⟨p, e, q⟩ => ⟨p, e, h _ _ q⟩
  | .nt _, _, ⟨p, x, e, q, a⟩ => ⟨p, x, e, h _ _ q, a.mono h⟩
  | .an _ _, _, ⟨p, x, y, e, q, a, b⟩ => ⟨p, x, y, e, h _ _ q, a.mono h, b.mono h⟩
  | .or _ _, _, ⟨p, x, y, e, q, a, b⟩ => ⟨p, x, y, e, h _ _ q, a.mono h, b.mono h⟩
def Wd.depth : Wd → Nat
  | .nt a => a.depth + 1
  | .an a b => max a.depth b.depth + 1
  | .or a b => max a.depth b.depth + 1
  | _ => 1
/-- its contacts are there -/
def Wd.ok (R B : Int) : Wd → Prop
  | .relay k => 0 ≤ k ∧ k < R
  | .button k => 0 ≤ k ∧ k < B
  | .nt a => a.ok R B
  | .an a b => a.ok R B ∧ b.ok R B
  | .or a b => a.ok R B ∧ b.ok R B
  | _ => True
def Wd.worth (st pr : List Bool) : Wd → Bool
  | .on => true
  | .off => false
  | .relay k => st.getD k.toNat false
  | .button k => pr.getD k.toNat false
  | .nt a => !a.worth st pr
  | .an a b => a.worth st pr && b.worth st pr
  | .or a b => a.worth st pr || b.worth st pr
theorem bools_at {st : List Bool} {k : Int} (h0 : 0 ≤ k) (h1 : k < st.length) : atI (st.map V.bl) k = some (.bl (st.getD k.toNat false)) := by
  obtain ⟨j, rfl⟩ : ∃ j : Nat, k = (j : Int) := ⟨k.toNat, by omega⟩
  have hk : j < st.length := by omega
  refine atI_nat ?_
  rw [List.getElem?_map, List.getElem?_eq_getElem hk, Int.toNat_natCast]
  simp [hk]

/-! ### the law's own helpers -/
def cellAt (ns : List Int) (k : Int) : Int := if k < ns.length then ns.getD k.toNat 0 else 0
def pick (ns : List Int) (k : Int) : Int := if k < ns.length then ns.getD k.toNat 0 else (cellAt ns 0 + 7 * k + 3) * 48271 % 2147483647 / 13
def mix1 (cell k : Int) : Int := (cell * 69621 + 7001 * k + 3) % 2147483629
def mix2 (m k : Int) : Int := (m * m + 39373 * m + k) % 2147483647
def mix3 (m k : Int) : Int := (m * m + 16807 * m + 7 * k) % 2147483587
def mix (cell k : Int) : Int := mix3 (mix2 (mix1 cell k) k) k
def leaf (m R B : Int) : Wd :=
  if m % (R + B + 1) < R then .relay (m % (R + B + 1)) else if m % (R + B + 1) < R + B then .button (m % (R + B + 1) - R) else if m / 64 % 2 = 0 then .on else .off
def lword (cell R B : Int) : Nat → Int → Wd
  | 0, k => leaf (mix cell k / 7 / 10) R B
  | d + 1, k =>
    if d = 0 ∨ mix cell k / 7 % 10 < 3 then leaf (mix cell k / 7 / 10) R B
    else if mix cell k / 7 % 10 < 5 then .nt (lword cell R B d (2 * k + 1))
    else if mix cell k / 7 % 10 % 2 = 0 then .an (lword cell R B d (2 * k + 1)) (lword cell R B d (2 * k + 2))
    else .or (lword cell R B d (2 * k + 1)) (lword cell R B d (2 * k + 2))
def bitsOf (n : Int) (size : Nat) : List Bool := (List.range size).map fun k => decide (n / 2 ^ k % 2 = 1)
def wrapN : Nat → Wd → Wd
  | 0, w => w
  | n + 1, w => .nt (wrapN n w)
def wraps (m : Int) : Nat := (m % 4 * (if m / 4 % 4 = 1 then 1 else 0)).toNat
theorem leaf_ok {m R B : Int} (hR : 1 ≤ R) (hB : 0 ≤ B) : (leaf m R B).ok R B := by
  have h0 : 0 ≤ m % (R + B + 1) := Int.emod_nonneg _ (by omega)
  unfold leaf
  split
  · exact ⟨h0, by assumption⟩
  · split
    · exact ⟨by omega, by omega⟩
    · split <;> trivial
theorem lword_ok {cell R B : Int} (hR : 1 ≤ R) (hB : 0 ≤ B) : ∀ (d : Nat) (k : Int), (lword cell R B d k).ok R B
  | 0, k => leaf_ok hR hB
  | d + 1, k => by
    unfold lword
    split
    · exact leaf_ok hR hB
    · split
      · exact lword_ok hR hB d _
      · split <;> exact ⟨lword_ok hR hB d _, lword_ok hR hB d _⟩
theorem leaf_depth {m R B : Int} : (leaf m R B).depth = 1 := by
  unfold leaf
  split
  · rfl
  · split
    · rfl
    · split <;> rfl
theorem lword_depth {cell R B : Int} : ∀ (d : Nat) (k : Int), (lword cell R B d k).depth ≤ max d 1
  | 0, k => by unfold lword; rw [leaf_depth]; omega
  | d + 1, k => by
    have a := lword_depth (cell := cell) (R := R) (B := B) d (2 * k + 1)
    have b := lword_depth (cell := cell) (R := R) (B := B) d (2 * k + 2)
    unfold lword
    split
    · rw [leaf_depth]; omega
    · rename_i h
      have hd : d ≠ 0 := fun z => h (.inl z)
      split
      · show Wd.depth _ + 1 ≤ _
        omega
      · split
        · show max (Wd.depth _) (Wd.depth _) + 1 ≤ _
          omega
        · show max (Wd.depth _) (Wd.depth _) + 1 ≤ _
          omega
theorem wrapN_ok {R B : Int} {w : Wd} (h : w.ok R B) : ∀ n, (wrapN n w).ok R B
  | 0 => h
  | n + 1 => wrapN_ok h n
theorem wrapN_depth (w : Wd) : ∀ n, (wrapN n w).depth = w.depth + n
  | 0 => rfl
  | n + 1 => by
    show (wrapN n w).depth + 1 = _
    rw [wrapN_depth w n]
    omega
theorem wraps_le (m : Int) : wraps m ≤ 3 := by
  unfold wraps
  have h1 : 0 ≤ m % 4 := Int.emod_nonneg _ (by decide)
  have h2 : m % 4 < 4 := Int.emod_lt_of_pos _ (by decide)
  split <;> omega
theorem bits_length (n : Int) (size : Nat) : (bitsOf n size).length = size := by unfold bitsOf; simp
theorem cell_get {ns : List Int} {k : Int} (h0 : 0 ≤ k) (h1 : k < ns.length) : atI (ns.map V.int) k = some (.int (ns.getD k.toNat 0)) := by
  obtain ⟨j, rfl⟩ : ∃ j : Nat, k = (j : Int) := ⟨k.toNat, by omega⟩
  have hk : j < ns.length := by omega
  refine atI_nat ?_
  rw [List.getElem?_map, List.getElem?_eq_getElem hk, Int.toNat_natCast]
  simp [hk]
end RR

end
section
set_option Elab.async false
set_option linter.all false
set_option maxRecDepth 100000
namespace RR
open PySem L2
def spCell (K : PySem.W.Frag) : Sp := fun vs H Q _ => ∃ a ns k, vs = [.ref a, .int k] ∧ SqL K H a (ns.map V.int) ∧ 0 ≤ k ∧ Q (.int (cellAt ns k)) H
def spPick (K : PySem.W.Frag) : Sp := fun vs H Q _ => ∃ a ns k, vs = [.ref a, .int k] ∧ SqL K H a (ns.map V.int) ∧ 0 ≤ k ∧ Q (.int (pick ns k)) H
def spMix : Sp := fun vs H Q _ => ∃ c k, vs = [.int c, .int k] ∧ Q (.int (mix c k)) H
def spLeaf : Sp := fun vs H Q _ => ∃ m R B, vs = [.int m, .int R, .int B] ∧ 1 ≤ R ∧ 0 ≤ B ∧ ∀ v H', Same H H' → WAt H' (leaf m R B) v → Q v H'
theorem at0 (x : V) (xs : List V) : atI (x :: xs) 0 = some x := atI_nat (j := 0) rfl
theorem at1 (x y : V) (xs : List V) : atI (x :: y :: xs) 1 = some y := atI_nat (j := 1) rfl
theorem at2 (x y z : V) (xs : List V) : atI (x :: y :: z :: xs) 2 = some z := atI_nat (j := 2) rfl
theorem sz {n : Nat} (h : n ≤ 1000) : n ≤ sizeLine := Nat.le_of_lt (small1000 h)
theorem no_calls {P : Program} {w : World} {K : PySem.W.Frag} {mg : Str → Option Value} {base : Heap} {f : Addr} {fd : FuncData} {k : Nat} {ps : List Str} {sp : Sp} (no : ∀ vs H Q E, ¬ sp vs H Q E) : FnOk P w K mg base CX0 k f fd ps sp :=
  ⟨fun vs H Q E h => absurd h (no vs H Q E), fun A outer s H args us vs Q E _ _ _ _ h => absurd h (no vs H Q E)⟩
/-- one of two written things -/
theorem two_at {x y : V} {m : Int} : (m % 2 = 0 ∧ atI [x, y] (m % 2) = some x) ∨ (m % 2 ≠ 0 ∧ atI [x, y] (m % 2) = some y) := by
  have h1 := Int.emod_nonneg m (show (2 : Int) ≠ 0 by decide)
  have h2 := Int.emod_lt_of_pos m (show (0 : Int) < 2 by decide)
  rcases (by omega : m % 2 = 0 ∨ m % 2 = 1) with e | e
  · exact .inl ⟨e, by rw [e]; exact at0 _ _⟩
  · exact .inr ⟨by omega, by rw [e]; exact at1 _ _ _⟩
def spWord (n : Nat) : Sp := fun vs H Q _ => ∃ (cell k R B : Int) (d : Nat), vs = [.int cell, .int k, .int d, .int R, .int B] ∧ d < n ∧ 1 ≤ R ∧ 0 ≤ B ∧ ∀ v H', Same H H' → WAt H' (lword cell R B d k) v → Q v H'
def spBits : Sp := fun vs H Q _ => ∃ (m : Int) (n : Nat), vs = [.int m, .int n] ∧ n ≤ 63 ∧ ∀ a H', Same H H' → H' a = some (.tup ((bitsOf m n).map V.bl)) → Q (.ref a) H'
def spWrapped : Sp := fun vs H Q _ => ∃ (v : V) (wd : Wd) (m : Int), vs = [v, .int m] ∧ WAt H wd v ∧ ∀ v' H', Same H H' → WAt H' (wrapN (wraps m) wd) v' → Q v' H'
/-- a list of words in the heap -/
def WsAt (H : Hp) (ws : List Wd) (vs : List V) : Prop := vs.length = ws.length ∧ ∀ (i : Nat) (v : V), vs[i]? = some v → ∃ wd, ws[i]? = some wd ∧ WAt H wd v
theorem WsAt.mono {H H' : Hp} {ws : List Wd} {vs : List V} (h : WsAt H ws vs) (t : TupLe H H') : WsAt H' ws vs := ⟨h.1, fun i v e => let ⟨wd, a, b⟩ := h.2 i v e; ⟨wd, a, b.mono t⟩⟩
def lboard (ns : List Int) (start R B : Int) (d : Nat) : List Wd := (List.range R.toNat).map fun (k : Nat) => lword (pick ns (start + k)) R B d k
def spBoard (K : PySem.W.Frag) : Sp := fun vs H Q _ => ∃ (a : Addr) (ns : List Int) (start R B : Int) (d : Nat), vs = [.ref a, .int start, .int R, .int B, .int d] ∧ SqL K H a (ns.map V.int) ∧ 0 ≤ start ∧ d < 10 ∧ 1 ≤ R ∧ R ≤ 63 ∧ 0 ≤ B ∧
  ∀ D us H', Same H H' → H' D = some (.lst us) → WsAt H' (lboard ns start R B d) us → Q (.ref D) H'
/-- what stands in a list by its places is that list -/
theorem list_ext {us : List V} {xs : List V} (hl : us.length = xs.length) (h : ∀ (i : Nat) (y : V), us[i]? = some y → xs[i]? = some y) : us = xs := by
  refine List.ext_getElem? fun i => ?_
  cases e : us[i]? with
  | some y => exact (h i y e).symm
  | none =>
    have := List.getElem?_eq_none_iff.mp e
    exact (List.getElem?_eq_none_iff.mpr (by omega)).symm
/-- the tuple of bools at a -/
def BAt (H : Hp) (a : Addr) (bs : List Bool) : Prop := H a = some (.tup (bs.map V.bl))
def rRelays (c : Int) : Int := if c / 5 % 9 = 1 then 6 else 1 + c % 5
def rButtons (c : Int) : Int := c / 45 % 5
def rDeep (c : Int) : Nat := (2 + c / 225 % 4).toNat
def roomBoard (ns : List Int) : List Wd :=
  let c := cellAt ns 0
  (List.range (rRelays c).toNat).map fun (k : Nat) => wrapN (wraps (mix c (70 + k) / 7)) (lword (pick ns (4 + k)) (rRelays c) (rButtons c) (rDeep c) k)
def roomPressed (ns : List Int) : List Bool := bitsOf (cellAt ns 1) (rButtons (cellAt ns 0)).toNat
def roomStand (ns : List Int) : List Bool := bitsOf (cellAt ns 2) (rRelays (cellAt ns 0)).toNat
theorem rRelays_in (c : Int) : 1 ≤ rRelays c ∧ rRelays c ≤ 6 := by
  unfold rRelays
  have h1 := Int.emod_nonneg c (show (5 : Int) ≠ 0 by decide)
  have h2 := Int.emod_lt_of_pos c (show (0 : Int) < 5 by decide)
  split <;> omega
theorem rButtons_in (c : Int) : 0 ≤ rButtons c ∧ rButtons c ≤ 4 := by
  unfold rButtons
  have h1 := Int.emod_nonneg (c / 45) (show (5 : Int) ≠ 0 by decide)
  have h2 := Int.emod_lt_of_pos (c / 45) (show (0 : Int) < 5 by decide)
  omega
theorem rDeep_in (c : Int) : 2 ≤ rDeep c ∧ rDeep c ≤ 5 ∧ (rDeep c : Int) = 2 + c / 225 % 4 := by
  unfold rDeep
  have h1 := Int.emod_nonneg (c / 225) (show (4 : Int) ≠ 0 by decide)
  have h2 := Int.emod_lt_of_pos (c / 225) (show (0 : Int) < 4 by decide)
  omega
theorem room_word {ns : List Int} {i : Nat} {wd : Wd} (h : (roomBoard ns)[i]? = some wd) : wd.ok (roomStand ns).length (roomPressed ns).length ∧ wd.depth ≤ 8 := by
  have hR := rRelays_in (cellAt ns 0)
  have hB := rButtons_in (cellAt ns 0)
  have hd := rDeep_in (cellAt ns 0)
  have hi : i < (rRelays (cellAt ns 0)).toNat := by
    have := (List.getElem?_eq_some_iff.mp h).1
    simpa [roomBoard] using this
  have e : wd = wrapN (wraps (mix (cellAt ns 0) (70 + i) / 7)) (lword (pick ns (4 + i)) (rRelays (cellAt ns 0)) (rButtons (cellAt ns 0)) (rDeep (cellAt ns 0)) i) := by
    have q : (roomBoard ns)[i]? = some (wrapN (wraps (mix (cellAt ns 0) (70 + i) / 7)) (lword (pick ns (4 + i)) (rRelays (cellAt ns 0)) (rButtons (cellAt ns 0)) (rDeep (cellAt ns 0)) i)) := by simp [roomBoard, hi]
    rw [q] at h
    cases h
    rfl
  have l1 : (roomStand ns).length = (rRelays (cellAt ns 0)).toNat := bits_length _ _
  have l2 : (roomPressed ns).length = (rButtons (cellAt ns 0)).toNat := bits_length _ _
  have l3 : ((roomStand ns).length : Int) = rRelays (cellAt ns 0) := by rw [l1]; omega
  have l4 : ((roomPressed ns).length : Int) = rButtons (cellAt ns 0) := by rw [l2]; omega
  rw [l3, l4, e]
  refine ⟨wrapN_ok (lword_ok hR.1 hB.1 _ _) _, ?_⟩
  rw [wrapN_depth]
  have a := wraps_le (mix (cellAt ns 0) (70 + i) / 7)
  have b := lword_depth (cell := pick ns (4 + i)) (R := rRelays (cellAt ns 0)) (B := rButtons (cellAt ns 0)) (rDeep (cellAt ns 0)) i
  omega
/-- a room: board, pressed, stand -/
def RoomAt (H : Hp) (ns : List Int) (p : Addr) : Prop := ∃ D us b c, H p = some (.tup [.ref D, .ref b, .ref c]) ∧ H D = some (.lst us) ∧ WsAt H (roomBoard ns) us ∧ BAt H b (roomPressed ns) ∧ BAt H c (roomStand ns)
def spRoom (K : PySem.W.Frag) : Sp := fun vs H Q _ => ∃ (a : Addr) (ns : List Int), vs = [.ref a] ∧ SqL K H a (ns.map V.int) ∧ ∀ p H', Same H H' → RoomAt H' ns p → Q (.ref p) H'
def spWorth (n : Nat) : Sp := fun vs H Q _ => ∃ (v : V) (wd : Wd) (a b : Addr) (st pr : List Bool), vs = [v, .ref a, .ref b] ∧ WAt H wd v ∧ BAt H a st ∧ BAt H b pr ∧ wd.ok st.length pr.length ∧ wd.depth ≤ n ∧ Q (.bl (wd.worth st pr)) H
def spLWorth (n : Nat) : Sp := fun vs H Q _ => ∃ (v : V) (wd : Wd) (a b : Addr) (st pr : List Bool), vs = [v, .ref a, .ref b] ∧ WAt H wd v ∧ BAt H a st ∧ BAt H b pr ∧ wd.ok st.length pr.length ∧ wd.depth ≤ n ∧ ∀ H', Same H H' → Q (.bl (wd.worth st pr)) H'
theorem depth_pos (wd : Wd) : 1 ≤ wd.depth := by
  cases wd <;> simp [Wd.depth]
/-- a word with parts -/
def Parts (H : Hp) (wd : Wd) (v : V) (kd : Str) (ws : List Wd) (xs : List V) (p : Addr) : Prop :=
  v = .ref p ∧ H p = some (.tup (.str kd :: xs)) ∧ WsAt H ws xs ∧ 1 ≤ ws.length ∧ ws.length ≤ 2 ∧
    ((kd = "not" ∧ ∃ x, ws = [x] ∧ wd = .nt x) ∨ (kd = "and" ∧ ∃ x y, ws = [x, y] ∧ wd = .an x y) ∨ (kd = "or" ∧ ∃ x y, ws = [x, y] ∧ wd = .or x y))
theorem ws_one {H : Hp} {x : Wd} {v : V} (h : WAt H x v) : WsAt H [x] [v] := ⟨rfl, fun i y e => by
  cases i with
  | zero => cases e; exact ⟨x, rfl, h⟩
  | succ i => simp at e⟩
theorem ws_two {H : Hp} {x y : Wd} {v u : V} (h : WAt H x v) (h' : WAt H y u) : WsAt H [x, y] [v, u] := ⟨rfl, fun i z e => by
  cases i with
  | zero => cases e; exact ⟨x, rfl, h⟩
  | succ i =>
    cases i with
    | zero => cases e; exact ⟨y, rfl, h'⟩
    | succ i => simp at e⟩
inductive Seen (H : Hp) (wd : Wd) (v : V) : Prop where
  | on (e : wd = .on) | off (e : wd = .off) | relay (k : Int) (e : wd = .relay k) | button (k : Int) (e : wd = .button k)
  | parts (kd : Str) (ws : List Wd) (xs : List V) (p : Addr) (h : Parts H wd v kd ws xs p)
theorem seen {H : Hp} {wd : Wd} {v : V} (h : WAt H wd v) : Seen H wd v := by
  cases wd with
  | on => exact .on rfl
  | off => exact .off rfl
  | relay k => exact .relay k rfl
  | button k => exact .button k rfl
  | nt x => obtain ⟨p, vx, e, hp, hx⟩ := h; exact .parts "not" [x] [vx] p ⟨e, hp, ws_one hx, by simp, by simp, .inl ⟨rfl, x, rfl, rfl⟩⟩
  | an x y => obtain ⟨p, vx, vy, e, hp, hx, hy⟩ := h; exact .parts "and" [x, y] [vx, vy] p ⟨e, hp, ws_two hx hy, by simp, by simp, .inr (.inl ⟨rfl, x, y, rfl, rfl⟩)⟩
  | or x y => obtain ⟨p, vx, vy, e, hp, hx, hy⟩ := h; exact .parts "or" [x, y] [vx, vy] p ⟨e, hp, ws_two hx hy, by simp, by simp, .inr (.inr ⟨rfl, x, y, rfl, rfl⟩)⟩
theorem parts_in {H : Hp} {wd : Wd} {v : V} {kd : Str} {ws : List Wd} {xs : List V} {p : Addr} (h : Parts H wd v kd ws xs p) {R B : Int} {n : Nat} (hok : wd.ok R B) (hd : wd.depth ≤ n + 1) : ∀ x ∈ ws, x.ok R B ∧ x.depth ≤ n := by
  obtain ⟨_, _, _, _, _, ⟨_, x, rfl, rfl⟩ | ⟨_, x, y, rfl, rfl⟩ | ⟨_, x, y, rfl, rfl⟩⟩ := h
  · intro z hz
    obtain rfl : z = x := by simpa using hz
    exact ⟨hok, by simp [Wd.depth] at hd; omega⟩
  · intro z hz
    have hd : max x.depth y.depth + 1 ≤ n + 1 := hd
    rcases List.mem_cons.mp hz with rfl | hz
    · exact ⟨hok.1, by omega⟩
    · obtain rfl : z = y := by simpa using hz
      exact ⟨hok.2, by omega⟩
  · intro z hz
    have hd : max x.depth y.depth + 1 ≤ n + 1 := hd
    rcases List.mem_cons.mp hz with rfl | hz
    · exact ⟨hok.1, by omega⟩
    · obtain rfl : z = y := by simpa using hz
      exact ⟨hok.2, by omega⟩
theorem parts_kd {H : Hp} {wd : Wd} {v : V} {kd : Str} {ws : List Wd} {xs : List V} {p : Addr} (h : Parts H wd v kd ws xs p) : V.str kd ≠ V.str "on" ∧ V.str kd ≠ V.str "off" ∧ V.str kd ≠ V.str "relay" ∧ V.str kd ≠ V.str "button" := by
  obtain ⟨_, _, _, _, _, ⟨rfl, _⟩ | ⟨rfl, _⟩ | ⟨rfl, _⟩⟩ := h <;> decide +kernel
end RR

end
section
set_option Elab.async false
set_option linter.all false
set_option maxRecDepth 100000
namespace RR
open PySem L2
/-! ### all rows of bools, by their numbers -/
def allRows : Nat → List (List Bool)
  | 0 => [[]]
  | n + 1 => (allRows n).map (· ++ [false]) ++ (allRows n).map (· ++ [true])
theorem allRows_len : ∀ n, (allRows n).length = 2 ^ n
  | 0 => rfl
  | n + 1 => by
    show ((allRows n).map (· ++ [false]) ++ (allRows n).map (· ++ [true])).length = _
    rw [List.length_append, List.length_map, List.length_map, allRows_len n, Nat.pow_succ]
    omega
theorem bits_succ (m : Int) (n : Nat) : bitsOf m (n + 1) = bitsOf m n ++ [decide (m / 2 ^ n % 2 = 1)] := by
  unfold bitsOf
  rw [List.range_succ, List.map_append]
  rfl
/-- the k-th bit hangs on the rest by any greater power alone -/
theorem bit_mod (m : Nat) {k n : Nat} (h : k < n) : ((m : Int) / 2 ^ k % 2) = (((m % 2 ^ n : Nat) : Int) / 2 ^ k % 2) := by
  have e : n = k + 1 + (n - k - 1) := by omega
  have h1 : m % 2 ^ n / 2 ^ k % 2 = m / 2 ^ k % 2 := by
    rw [e, Nat.pow_add, Nat.pow_succ, Nat.mul_assoc, Nat.mod_mul_right_div_self, Nat.mod_mul_right_mod]
  have h2 : (((m / 2 ^ k % 2 : Nat)) : Int) = (m : Int) / 2 ^ k % 2 := by push_cast; rfl
  have h3 : (((m % 2 ^ n / 2 ^ k % 2 : Nat)) : Int) = ((m % 2 ^ n : Nat) : Int) / 2 ^ k % 2 := by push_cast; rfl
  rw [← h2, ← h3, h1]
theorem bits_mod (m n : Nat) : bitsOf (m : Int) n = bitsOf ((m % 2 ^ n : Nat) : Int) n := by
  unfold bitsOf
  refine List.map_congr_left fun k hk => ?_
  rw [bit_mod m (List.mem_range.mp hk)]
theorem bits_add (i n : Nat) : bitsOf ((2 ^ n + i : Nat) : Int) n = bitsOf (i : Int) n := by
  rw [bits_mod (2 ^ n + i), bits_mod i, Nat.add_mod_left]
theorem allRows_get : ∀ (n i : Nat), i < 2 ^ n → (allRows n)[i]? = some (bitsOf (i : Int) n)
  | 0, i, h => by
    have : i = 0 := by simpa using h
    subst this
    rfl
  | n + 1, i, h => by
    show ((allRows n).map (· ++ [false]) ++ (allRows n).map (· ++ [true]))[i]? = _
    have hl : ((allRows n).map (· ++ [false])).length = 2 ^ n := by rw [List.length_map, allRows_len]
    have hp : 2 ^ (n + 1) = 2 ^ n + 2 ^ n := by rw [Nat.pow_succ]; omega
    rw [bits_succ]
    by_cases c : i < 2 ^ n
    · rw [List.getElem?_append_left (by omega), List.getElem?_map, allRows_get n i c]
      have e : ((i : Int) / 2 ^ n % 2) = 0 := by
        have : i / 2 ^ n = 0 := Nat.div_eq_of_lt c
        have h2 : ((i / 2 ^ n : Nat) : Int) = (i : Int) / 2 ^ n := by push_cast; rfl
        rw [← h2, this]; rfl
      rw [e]
      rfl
    · obtain ⟨j, rfl⟩ : ∃ j, i = 2 ^ n + j := ⟨i - 2 ^ n, by omega⟩
      rw [List.getElem?_append_right (by omega), hl, Nat.add_sub_cancel_left, List.getElem?_map, allRows_get n j (by omega), bits_add]
      have e : (((2 ^ n + j : Nat) : Int) / 2 ^ n % 2) = 1 := by
        have : (2 ^ n + j) / 2 ^ n = 1 := by
          rw [Nat.add_div_left _ (Nat.two_pow_pos n), Nat.div_eq_of_lt (by omega)]
        have h2 : (((2 ^ n + j) / 2 ^ n : Nat) : Int) = ((2 ^ n + j : Nat) : Int) / 2 ^ n := by push_cast; rfl
        rw [← h2, this]; rfl
      rw [e]
      rfl
theorem allRows_eq (n : Nat) : allRows n = (List.range (2 ^ n)).map fun (i : Nat) => bitsOf (i : Int) n := by
  refine List.ext_getElem? fun i => ?_
  by_cases h : i < 2 ^ n
  · rw [allRows_get n i h, List.getElem?_map, List.getElem?_range h]; rfl
  · rw [List.getElem?_eq_none (by rw [allRows_len]; omega), List.getElem?_eq_none (by simp; omega)]
/-- rows in the heap -/
def RowsAt (H : Hp) (bss : List (List Bool)) (us : List V) : Prop := us.length = bss.length ∧ ∀ (i : Nat) (v : V), us[i]? = some v → ∃ bs a, bss[i]? = some bs ∧ v = .ref a ∧ BAt H a bs
theorem RowsAt.mono {H H' : Hp} {bss : List (List Bool)} {us : List V} (h : RowsAt H bss us) (t : TupLe H H') : RowsAt H' bss us := ⟨h.1, fun i v e => let ⟨bs, a, e1, e2, e3⟩ := h.2 i v e; ⟨bs, a, e1, e2, t _ _ e3⟩⟩
theorem RowsAt.append {H : Hp} {b1 b2 : List (List Bool)} {u1 u2 : List V} (h1 : RowsAt H b1 u1) (h2 : RowsAt H b2 u2) : RowsAt H (b1 ++ b2) (u1 ++ u2) := by
  refine ⟨by rw [List.length_append, List.length_append, h1.1, h2.1], fun i v e => ?_⟩
  by_cases c : i < u1.length
  · rw [List.getElem?_append_left c] at e
    obtain ⟨bs, a, e1, e2, e3⟩ := h1.2 i v e
    exact ⟨bs, a, by rw [List.getElem?_append_left (by rw [← h1.1]; exact c)]; exact e1, e2, e3⟩
  · rw [List.getElem?_append_right (by omega)] at e
    obtain ⟨bs, a, e1, e2, e3⟩ := h2.2 _ v e
    exact ⟨bs, a, by rw [List.getElem?_append_right (by rw [← h1.1]; omega), ← h1.1]; exact e1, e2, e3⟩
def spAllRows : Sp := fun vs H Q _ => ∃ n : Nat, vs = [.int n] ∧ n ≤ 6 ∧ ∀ D us H', Same H H' → H' D = some (.lst us) → RowsAt H' (allRows n) us → Q (.ref D) H'
/-! ### the first place at which two words differ -/
theorem findSome_at {α β : Type} {f : α → Option β} : ∀ {l : List α} {i : Nat} {x : α} {y : β}, (∀ j, j < i → ∀ z, l[j]? = some z → f z = none) → l[i]? = some x → f x = some y → l.findSome? f = some y
  | [], _, _, _, _, h, _ => by simp at h
  | a :: l, 0, x, y, _, h, e => by simp at h; subst h; simp [e]
  | a :: l, i + 1, x, y, h0, h, e => by
    have ea : f a = none := h0 0 (by omega) a rfl
    rw [List.findSome?_cons, ea]
    exact findSome_at (i := i) (fun j hj z hz => h0 (j + 1) (by omega) z (by simpa using hz)) (by simpa using h) e
theorem findSome_no {α β : Type} {f : α → Option β} {l : List α} (h : ∀ (j : Nat) (z : α), l[j]? = some z → f z = none) : l.findSome? f = none := by
  rw [List.findSome?_eq_none_iff]
  intro x hx
  obtain ⟨i, hi, rfl⟩ := List.mem_iff_getElem.mp hx
  exact h i _ (by simp [hi])
def differ (w1 w2 : Wd) (st pr : List Bool) : Option (List Bool × List Bool) := if w1.worth st pr = w2.worth st pr then none else some (st, pr)
def diff1 (w1 w2 : Wd) (R : Nat) (pr : List Bool) : Option (List Bool × List Bool) := (allRows R).findSome? fun st => differ w1 w2 st pr
def diffs (w1 w2 : Wd) (R B : Nat) : Option (List Bool × List Bool) := (allRows B).findSome? fun pr => diff1 w1 w2 R pr
def numDiff (w1 w2 : Wd) (R B m : Nat) : Option (List Bool × List Bool) := differ w1 w2 (bitsOf (m : Int) R) (bitsOf ((m : Int) / 2 ^ R) B)
/-- by one number, as by two -/
theorem diffs_eq (w1 w2 : Wd) (R B : Nat) : (List.range (2 ^ (R + B))).findSome? (numDiff w1 w2 R B) = diffs w1 w2 R B := by
  have split : ∀ m : Nat, numDiff w1 w2 R B m = differ w1 w2 (bitsOf ((m % 2 ^ R : Nat) : Int) R) (bitsOf ((m / 2 ^ R : Nat) : Int) B) := fun m => by
    unfold numDiff
    rw [bits_mod m R]
    congr 1
  have pos := Nat.two_pow_pos R
  have key : ∀ i p, i < 2 ^ R → p < 2 ^ B → p * 2 ^ R + i < 2 ^ (R + B) := fun i p hi hp => by
    rw [Nat.pow_add]
    calc p * 2 ^ R + i < p * 2 ^ R + 2 ^ R := by omega
      _ = (p + 1) * 2 ^ R := by rw [Nat.succ_mul]
      _ ≤ 2 ^ B * 2 ^ R := Nat.mul_le_mul_right _ hp
      _ = 2 ^ R * 2 ^ B := Nat.mul_comm _ _
  cases e : diffs w1 w2 R B with
  | none =>
    refine findSome_no fun j z hz => ?_
    have hj : j < 2 ^ (R + B) := by have := (List.getElem?_eq_some_iff.mp hz).1; simpa using this
    rw [List.getElem?_range hj] at hz
    cases hz
    rw [split]
    have h1 : j % 2 ^ R < 2 ^ R := Nat.mod_lt _ pos
    have h2 : j / 2 ^ R < 2 ^ B := by rw [Nat.div_lt_iff_lt_mul pos, Nat.mul_comm, ← Nat.pow_add]; exact hj
    unfold diffs at e
    rw [List.findSome?_eq_none_iff] at e
    have e1 := e _ (List.mem_of_getElem? (allRows_get B _ h2))
    unfold diff1 at e1
    rw [List.findSome?_eq_none_iff] at e1
    exact e1 _ (List.mem_of_getElem? (allRows_get R _ h1))
  | some y =>
    unfold diffs at e
    rw [List.findSome?_eq_some_iff] at e
    obtain ⟨l1, pr, l2, e1, e2, e3⟩ := e
    have hB := congrArg List.length e1
    rw [allRows_len, List.length_append, List.length_cons] at hB
    have hpr : (allRows B)[l1.length]? = some pr := by rw [e1]; simp
    rw [allRows_get B _ (by omega)] at hpr
    cases hpr
    unfold diff1 at e2
    rw [List.findSome?_eq_some_iff] at e2
    obtain ⟨k1, st, k2, f1, f2, f3⟩ := e2
    have hR := congrArg List.length f1
    rw [allRows_len, List.length_append, List.length_cons] at hR
    have hst : (allRows R)[k1.length]? = some st := by rw [f1]; simp
    rw [allRows_get R _ (by omega)] at hst
    cases hst
    have hm := key k1.length l1.length (by omega) (by omega)
    have dv : ∀ a b, b < 2 ^ R → (a * 2 ^ R + b) / 2 ^ R = a ∧ (a * 2 ^ R + b) % 2 ^ R = b := fun a b hb => by
      constructor
      · rw [Nat.mul_comm, Nat.mul_add_div pos, Nat.div_eq_of_lt hb, Nat.add_zero]
      · rw [Nat.mul_comm, Nat.mul_add_mod, Nat.mod_eq_of_lt hb]
    refine findSome_at (i := l1.length * 2 ^ R + k1.length) (x := l1.length * 2 ^ R + k1.length) (fun j hj z hz => ?_) (List.getElem?_range hm) ?_
    · have hj2 : j < 2 ^ (R + B) := by omega
      rw [List.getElem?_range hj2] at hz
      cases hz
      rw [split]
      have h1 : j % 2 ^ R < 2 ^ R := Nat.mod_lt _ pos
      have hjd := Nat.div_add_mod j (2 ^ R)
      by_cases c : j / 2 ^ R < l1.length
      · have := e3 (bitsOf ((j / 2 ^ R : Nat) : Int) B) (by
          have q : (allRows B)[j / 2 ^ R]? = some (bitsOf ((j / 2 ^ R : Nat) : Int) B) := allRows_get B _ (by omega)
          rw [e1, List.getElem?_append_left c] at q
          exact List.mem_of_getElem? q)
        unfold diff1 at this
        rw [List.findSome?_eq_none_iff] at this
        exact this _ (List.mem_of_getElem? (allRows_get R _ h1))
      · have hq : j / 2 ^ R = l1.length := by
          have : j / 2 ^ R ≤ l1.length := by
            have h3 : j / 2 ^ R ≤ (l1.length * 2 ^ R + k1.length) / 2 ^ R := Nat.div_le_div_right (by omega)
            rw [(dv _ _ (by omega)).1] at h3
            exact h3
          omega
        have c2 : j % 2 ^ R < k1.length := by rw [hq, Nat.mul_comm] at hjd; omega
        have := f3 (bitsOf ((j % 2 ^ R : Nat) : Int) R) (by
          have q : (allRows R)[j % 2 ^ R]? = some (bitsOf ((j % 2 ^ R : Nat) : Int) R) := allRows_get R _ (by omega)
          rw [f1, List.getElem?_append_left c2] at q
          exact List.mem_of_getElem? q)
        rw [hq]
        exact this
    · rw [split, (dv _ _ (by omega)).1, (dv _ _ (by omega)).2]
      exact f2
/-- what unlike tells -/
def ToldAt (H : Hp) (o : Option (List Bool × List Bool)) (v : V) : Prop := match o with
  | none => v = .non
  | some (st, pr) => ∃ p a b, v = .ref p ∧ H p = some (.tup [.ref a, .ref b]) ∧ BAt H a st ∧ BAt H b pr
def spUnlike (n : Nat) : Sp := fun vs H Q _ => ∃ (v1 v2 : V) (w1 w2 : Wd) (R B : Nat), vs = [v1, v2, .int R, .int B] ∧ WAt H w1 v1 ∧ WAt H w2 v2 ∧ R ≤ 6 ∧ B ≤ 6 ∧ w1.ok R B ∧ w2.ok R B ∧ w1.depth ≤ n ∧ w2.depth ≤ n ∧
  ∀ v H', Same H H' → ToldAt H' (diffs w1 w2 R B) v → Q v H'
end RR
namespace RR
open PySem L2
def spIsStand : Sp := fun vs H Q _ => ∃ (a : Addr) (bs : List Bool) (n : Nat), vs = [.ref a, .int n] ∧ BAt H a bs ∧ bs.length = n ∧ n ≤ 63 ∧ ∀ H', Same H H' → Q (.bl true) H'
def turned (w : Wd) (c : Int) : Wd :=
  if c % 5 = 0 then .nt (.nt w) else if c % 5 = 1 then .or w (.an w .off) else match w with
    | .an a b => .nt (.or (.nt a) (.nt b))
    | .or a b => .or b a
    | w => .an .on w
def spTurned : Sp := fun vs H Q _ => ∃ (v : V) (wd : Wd) (c : Int), vs = [v, .int c] ∧ WAt H wd v ∧ ∀ v' H', Same H H' → WAt H' (turned wd c) v' → Q v' H'
theorem turned_ok {R B : Int} {w : Wd} (c : Int) (h : w.ok R B) : (turned w c).ok R B := by
  unfold turned
  split
  · exact h
  · split
    · exact ⟨h, h, trivial⟩
    · cases w with
      | an a b => exact h
      | or a b => exact ⟨h.2, h.1⟩
      | _ => exact ⟨trivial, h⟩
theorem turned_depth (w : Wd) (c : Int) : (turned w c).depth ≤ w.depth + 2 := by
  have hp : 1 ≤ w.depth := by cases w <;> simp [Wd.depth]
  unfold turned
  split
  · simp [Wd.depth]
  · split
    · simp only [Wd.depth]; omega
    · cases w with
      | an a b => simp only [Wd.depth]; omega
      | or a b => simp only [Wd.depth]; omega
      | _ => simp [Wd.depth]
end RR

end
section
set_option Elab.async false
set_option linter.all false
set_option maxRecDepth 100000
set_option maxHeartbeats 2000000
/-! my own: max of a list of ints, with a default or without -/
namespace L2
open PySem PySem.W PySem.Spec PySem.Calls PyProof.Rows
theorem best_is {val : Nat → Int} : ∀ k, argBest (fun i j => decide (val i > val j)) k ≤ k ∧ ∀ i, i ≤ k → val i ≤ val (argBest (fun i j => decide (val i > val j)) k)
  | 0 => ⟨Nat.le_refl _, fun i hi => by have : i = 0 := by omega
                                        subst this; exact Int.le_refl _⟩
  | k + 1 => by
    obtain ⟨h1, h2⟩ := best_is (val := val) k
    unfold argBest
    by_cases c : val (k + 1) > val (argBest (fun i j => decide (val i > val j)) k)
    · rw [if_pos (decide_eq_true c)]
      refine ⟨Nat.le_refl _, fun i hi => ?_⟩
      by_cases e : i = k + 1
      · subst e; exact Int.le_refl _
      · have := h2 i (by omega); omega
    · rw [if_neg (by simpa using c)]
      refine ⟨by omega, fun i hi => ?_⟩
      by_cases e : i = k + 1
      · subst e; omega
      · exact h2 i (by omega)
section
variable {prog : Program} {w : World} {A : Around} {R : Result → Shared → Prop} {I S : Addr} {fp wr : List Addr} {n : Nat} {P : Nat → Value → Prop} {St : Nat → Heap → Prop} {kw : List (Str × Value)} {bt : Nat → Nat → Bool}
theorem maxk_loop (W : Walks prog w A.in1 I fp wr n P St) (cmp : CmpOf prog w A.in1 .Gt P bt) (out : S ∉ fp) :
    ∀ (k j : Nat) (s : Shared) (best : Value) (c : Nat), n - (j + 1) = k → j + 1 ≤ n → St (j + 1) s.heap → P (argBest bt j) best →
    s.heap.get? S = some { cls := .type "list", dict := none, data := .seq #[best, best] c, slots := #[] } →
    (∀ v h' tk, P (argBest bt (n - 1)) v → (∀ b o, b ∉ wr → b ≠ S → s.heap.get? b = some o → h'.get? b = some o) → R (.ok (.ret v)) { s with heap := h', toks := tk }) →
    codeAny (model prog w) A (.builtin "max.loop" ⟨[.ref I, .none, .ref S], kw⟩) R s := by
  have sw : S ∉ wr := fun z => out (W.sub _ z)
  have nm : (toString "max" ++ toString ".loop" : String) = "max.loop" := (by decide)
  intro k
  induction k with
  | zero =>
    intro j s best c hk hj st pb hS fin
    have ejn : j + 1 = n := by omega
    refine (codeAny_builtin F.entry_max_loop ?_)
    rw [Around.under_plainId F.plain_max_loop (⟨[.ref I, .none, .ref S], kw⟩)]
    show wpAny (model prog w) A.in1 (seqItems? (.ref S) >>= _) _ _ s
    refine (wpAny_bind (wpAny_seqItems hS rfl ?_))
    show wpAny (model prog w) A.in1 (tryCatch (pyNext (.ref I)) _ >>= _) _ _ s
    refine wpAny_bind (wpAny_tryCatch (W.done s _ _ (ejn ▸ st) fun h1 tk kp => ?_))
    have hS1 := kp S _ sw hS
    show wpAny (model prog w) A.in1 (updateSeq S (fun _ => #[]) >>= _) _ _ _
    refine wpAny_bind (wpAny_updateSeq hS1 rfl (wpAny_bind (wpAny_letGo (wpAny_pure ?_))))
    exact fin best _ tk (by rw [← ejn]; exact pb) fun b o bw bS e => (Heap.get?_update_other _ _ (Ne.symm bS)).trans (kp b o bw e)
  | succ k ih =>
    intro j s best c hk hj st pb hS fin
    have lt : j + 1 < n := by omega
    refine (codeAny_builtin F.entry_max_loop ?_)
    rw [Around.under_plainId F.plain_max_loop (⟨[.ref I, .none, .ref S], kw⟩)]
    show wpAny (model prog w) A.in1 (seqItems? (.ref S) >>= _) _ _ s
    refine (wpAny_bind (wpAny_seqItems hS rfl ?_))
    show wpAny (model prog w) A.in1 (tryCatch (pyNext (.ref I)) _ >>= _) _ _ s
    refine wpAny_bind (wpAny_tryCatch (W.item (j + 1) s _ _ lt st fun v h1 tk pv st1 kp => ?_))
    have hS1 := kp S _ sw hS
    show wpAny (model prog w) A.in1 (tryCatch (holding [v, v] (richCompare .Gt v best >>= _)) _ >>= _) _ _ _
    refine wpAny_bind (wpAny_tryCatch (wpAny_holding (wpAny_bind (cmp (j + 1) (argBest bt j) v best _ _ _ pv pb ?_))))
    refine wpAny_bind (wpAny_holding (wpAny_truthy_bool (wpAny_bind (wpAny_letGo (wpAny_pure ?_)))))
    cases hb : bt (j + 1) (argBest bt j) with
    | true =>
      simp only [if_true]
      refine wpAny_bind (wpAny_updateSeq hS1 rfl (wpAny_bind (wpAny_letGo ?_)))
      rw [nm]
      refine wpAny_pure ⟨plainId_quiet F.plain_max_loop _, ih (j + 1) _ v _ (by omega) lt (W.frame _ _ _ st1 fun b bf o e => ?_) (by simp only [argBest, hb, if_true]; exact pv) (Heap.get?_update_self _ hS1 rfl) fun v' h2 tk2 pv' kp2 => ?_⟩
      · exact (Heap.get?_update_other _ _ (fun z : S = b => out (by rw [z]; exact bf))).trans e
      · exact fin v' h2 tk2 pv' fun b o bw bS e => kp2 b o bw bS ((Heap.get?_update_other _ _ (Ne.symm bS)).trans (kp b o bw e))
    | false =>
      simp only [Bool.false_eq_true, if_false]
      refine (wpAny_bind (wpAny_letGo ?_))
      rw [nm]
      exact wpAny_pure ⟨plainId_quiet F.plain_max_loop _, ih (j + 1) _ best c (by omega) lt st1 (by simp only [argBest, hb, Bool.false_eq_true, if_false]; exact pb) hS1 fun v' h2 tk2 pv' kp2 =>
        fin v' h2 tk2 pv' fun b o bw bS e => kp2 b o bw bS (kp b o bw e)⟩
theorem maxk_first (W : Walks prog w A.in1 I fp wr n P St) (cmp : CmpOf prog w A.in1 .Gt P bt) (out : S ∉ fp) (hn : 0 < n) {s : Shared} {c : Nat} (st : St 0 s.heap) (hS : s.heap.get? S = some { cls := .type "list", dict := none, data := .seq #[] c, slots := #[] })
    (fin : ∀ v h' tk, P (argBest bt (n - 1)) v → (∀ b o, b ∉ wr → b ≠ S → s.heap.get? b = some o → h'.get? b = some o) → R (.ok (.ret v)) { s with heap := h', toks := tk }) :
    codeAny (model prog w) A (.builtin "max.loop" ⟨[.ref I, .none, .ref S], kw⟩) R s := by
  have sw : S ∉ wr := fun z => out (W.sub _ z)
  have nm : (toString "max" ++ toString ".loop" : String) = "max.loop" := (by decide)
  refine (codeAny_builtin F.entry_max_loop ?_)
  rw [Around.under_plainId F.plain_max_loop (⟨[.ref I, .none, .ref S], kw⟩)]
  show wpAny (model prog w) A.in1 (seqItems? (.ref S) >>= _) _ _ s
  refine (wpAny_bind (wpAny_seqItems hS rfl ?_))
  show wpAny (model prog w) A.in1 (tryCatch (pyNext (.ref I)) _ >>= _) _ _ s
  refine wpAny_bind (wpAny_tryCatch (W.item 0 s _ _ hn st fun v h1 tk pv st1 kp => ?_))
  have hS1 := kp S _ sw hS
  show wpAny (model prog w) A.in1 (updateSeq S (fun _ => #[v, v]) >>= _) _ _ _
  refine wpAny_bind (wpAny_updateSeq hS1 rfl ?_)
  rw [nm]
  refine wpAny_pure ⟨plainId_quiet F.plain_max_loop _, maxk_loop W cmp out _ 0 _ v _ rfl hn (W.frame _ _ _ st1 fun b bf o e => ?_) pv (Heap.get?_update_self _ hS1 rfl) fun v' h2 tk2 pv' kp2 => ?_⟩
  · exact (Heap.get?_update_other _ _ (fun z : S = b => out (by rw [z]; exact bf))).trans e
  · exact fin v' h2 tk2 pv' fun b o bw bS e => kp2 b o bw bS ((Heap.get?_update_other _ _ (Ne.symm bS)).trans (kp b o bw e))
theorem maxk_none {d : Value} (W : Walks prog w A.in1 I fp wr 0 P St) (out : S ∉ fp) {s : Shared} {c : Nat} (st : St 0 s.heap) (hS : s.heap.get? S = some { cls := .type "list", dict := none, data := .seq #[] c, slots := #[] })
    (fin : ∀ h' tk, (∀ b o, b ∉ wr → s.heap.get? b = some o → h'.get? b = some o) → R (.ok (.ret d)) { s with heap := h', toks := tk }) :
    codeAny (model prog w) A (.builtin "max.loop" ⟨[.ref I, .none, .ref S], [("default", d)]⟩) R s := by
  refine (codeAny_builtin F.entry_max_loop ?_)
  rw [Around.under_plainId F.plain_max_loop (⟨[.ref I, .none, .ref S], [("default", d)]⟩)]
  show wpAny (model prog w) A.in1 (seqItems? (.ref S) >>= _) _ _ s
  refine (wpAny_bind (wpAny_seqItems hS rfl ?_))
  show wpAny (model prog w) A.in1 (tryCatch (pyNext (.ref I)) _ >>= _) _ _ s
  refine wpAny_bind (wpAny_tryCatch (W.done s _ _ st fun h1 tk kp => ?_))
  exact wpAny_bind (wpAny_rule (wpAny_pure (fin h1 tk kp)))
end
theorem args_maxd (a v : Value) : argsOk "max" ⟨[a], [(Str.ofString "default", v)]⟩ := by unfold argsOk; kernel_rfl
section
variable {X : Cx}
theorem ints_get {ns : List Int} {us : List Value} (r : Vals (ns.map V.int) us) {i : Nat} {v : Value} (h : us.toArray[i]? = some v) : ∃ t, v = .int (ns.getD i 0) t := by
  have hi : i < ns.length := by
    have := (Array.getElem?_eq_some_iff.mp h).1
    have e := r.length
    simp at this e
    omega
  obtain ⟨u, hu, ru⟩ := r.get (i := i) (x := .int ns[i]) (by simp [hi])
  have hv : us[i]? = some v := by simpa using h
  rw [hu] at hv
  cases hv
  obtain ⟨t, rfl⟩ := ru
  exact ⟨t, by simp [hi]⟩
/-- max(xs) of a list of ints that is not empty -/
theorem call_maxL {K : Frag} (hK : X.K = K) (hc : X.calm = true) : CallR X (.builtin "max") (fun xs H Q => ∃ (p : Addr) (ns : List Int), xs = [.ref p] ∧ SqL K H p (ns.map V.int) ∧ ns ≠ [] ∧ ∀ m, m ∈ ns → (∀ x ∈ ns, x ≤ m) → Q (.int m) H) := by
  subst hK
  intro pins s σ H xs us Q I r q
  obtain ⟨p, ns, rfl, hS, hne, q⟩ := q
  obtain ⟨u, rfl, r1⟩ := r.one
  cases r1
  obtain ⟨its, rv, pl, hz⟩ := I.list hS
  have hl := pl.isList
  have hlt : p < s.heap.objs.size := by obtain ⟨_, e, _⟩ := hl; exact Heap.lt_size e
  have len : its.toArray.size = ns.length := by have := rv.length; simp at this ⊢; omega
  have pos : 0 < ns.length := List.length_pos_iff.mpr hne
  refine call_max_walk (wpAny_pyIter_list hl ?_)
  refine ⟨s.heap.objs.size, [s.heap.objs.size, p], [s.heap.objs.size], its.toArray.size, _, _, _, rfl, Walks.list (A := X.A.in1) (I.ok.hd hc) _ p (Nat.ne_of_lt hlt) _,
    ⟨⟨_, Heap.get?_push_size _ rfl, rfl, rfl⟩, hl.push _⟩, fun b hb => ?_, by omega, CmpOf.ints_gt (fun i => ns.getD i 0) (fun i v h => ints_get rv h), fun v h' tk hP hk => ?_⟩
  · show b < (s.heap.push _).objs.size
    rw [Heap.size_push]
    rcases List.mem_cons.mp hb with z | hb
    · rw [z]; exact Nat.lt_succ_self _
    · rcases List.mem_cons.mp hb with z | hb
      · rw [z]; exact Nat.lt_succ_of_lt hlt
      · cases hb
  · obtain ⟨t, rfl⟩ := ints_get rv hP
    obtain ⟨b1, b2⟩ := best_is (val := fun i => ns.getD i 0) (its.toArray.size - 1)
    generalize argBest (fun i j => decide (ns.getD i 0 > ns.getD j 0)) (its.toArray.size - 1) = m at *
    have hm : m < ns.length := by omega
    refine ⟨.int (ns.getD m 0), H, I.kept (keptI hk), ⟨_, rfl⟩, q _ (by simp [hm]) fun x hx => ?_⟩
    obtain ⟨i, hi, rfl⟩ := List.mem_iff_getElem.mp hx
    have := b2 i (by omega)
    simpa [hi, hm] using this

/-- max(xs, default=d) -/
def tMaxD (K : Frag) (ta tk : TA) : TE := fun σ H Q => ta σ H fun vs H1 => tk σ H1 fun zs H2 => ∃ (p : Addr) (ns : List Int) (d : Int), vs = [.ref p] ∧ zs = [.int d] ∧ SqL K H2 p (ns.map V.int) ∧ (ns = [] → Q (.int d) H2) ∧ (ns ≠ [] → ∀ m, m ∈ ns → (∀ x ∈ ns, x ≤ m) → Q (.int m) H2)
theorem pe_maxD {K : Frag} {e : Expr} {kws : List Keyword} {ta tk : TA} {p pos : Pos} (hK : X.K = K) (hc : X.calm = true) (hg : Gl X "max") (hm : X.mg "max" = none) (ha : PA X [e] ta) (hk : PK X kws tk)
    (hks : (backToKw pos (keywordEach kws X.env)).filterMap (·.1) = [Str.ofString "default"] := by rfl) (hall : (backToKw pos (keywordEach kws X.env)).all (·.1.isSome) = true := by rfl) (hno : (backToKw pos (keywordEach kws X.env)).any (·.1.isNone) = false := by rfl)
    (he : backTo pos (starEach [e] X.env) = (false, eval e X.env) :: backTo pos (starEach [] X.env) := by rfl) (hpl : (backTo pos (starEach [e] X.env)).any (·.1) = false := by rfl) :
    PE X (.Call (.Name "max" p) [e] kws pos) (tMaxD K ta tk) := by
  subst hK
  intro pins s σ H Q I h
  refine wpAny_Call_Name_kw (ld_blt I hg hm PyProof.Rows.boot_max ?_ (by decide) (by decide))
  refine callWith_kw (thn (ha pos pins s σ H _ I h) fun us s1 ⟨vs, H1, I1, r1, q1⟩ => thn (hk pos pins s1 σ H1 _ I1 q1) fun ws s2 ⟨zs, H2, I2, r2, q2⟩ => ?_) he hpl hall hno
  rw [hks]
  obtain ⟨p', ns, d, rfl, rfl, hS, q0, q1⟩ := q2
  obtain ⟨u, rfl, ru⟩ := r1.one
  cases ru
  obtain ⟨dv, rfl, td, rfl⟩ := r2.one
  obtain ⟨its, rv, pl, hz⟩ := I2.list hS
  have hl := pl.isList
  have hlt : p' < s2.heap.objs.size := by obtain ⟨_, e, _⟩ := hl; exact Heap.lt_size e
  have len : its.toArray.size = ns.length := by have := rv.length; simp at this ⊢; omega
  show wpAny _ X.A (call (.builtin "max") [.ref p'] [(Str.ofString "default", .int d td)]) _ _ s2
  have nm : (toString "max" ++ toString ".loop" : String) = "max.loop" := (by decide)
  refine kmk_tree PySem.F.kind_max PySem.F.plain_max PySem.F.entry_max (args_maxd _ _) ?_
  show wpAny _ X.A.in1 (Builtin.Builtins.bindParams "max" ["key", "default"] 0 ⟨[], [(Str.ofString "default", .int d td)]⟩ >>= _) _ _ s2
  refine wpAny_bind (wpAny_of_eq (show Builtin.Builtins.bindParams "max" ["key", "default"] 0 ⟨[], [(Str.ofString "default", .int d td)]⟩ = pure [none, some (.int d td)] from rfl) ?_)
  refine wpAny_bind (wpAny_pure (wpAny_bind (wpAny_pyIter_list hl ?_)))
  refine wpAny_bind (wpAny_newObj_type ?_)
  rw [nm]
  have W := Walks.list (prog := X.prog) (w := X.w) (A := X.A.in1) (I2.ok.hd hc) s2.heap.objs.size p' (Nat.ne_of_lt hlt) its.toArray
  have kep : ∀ {h' : Heap} {o o' : Obj}, (∀ b x, b ∉ [s2.heap.objs.size] → b ≠ (s2.heap.push o).objs.size → ((s2.heap.push o).push o').get? b = some x → h'.get? b = some x) → ∀ b x, s2.heap.get? b = some x → h'.get? b = some x := fun {h' o o'} hk b x e => by
    have hb := Heap.lt_size e
    refine hk b x (fun z => Nat.lt_irrefl _ (Nat.lt_of_lt_of_eq hb (List.mem_singleton.mp z).symm)) (fun z => ?_) (Heap.get?_push_of_some _ (Heap.get?_push_of_some _ e))
    rw [Heap.size_push] at z
    exact Nat.lt_irrefl _ (Nat.lt_of_lt_of_le hb (by rw [z]; exact Nat.le_succ _))
  have out : ∀ {o : Obj}, (s2.heap.push o).objs.size ∉ [s2.heap.objs.size, p'] := fun {o} z => by
    rw [Heap.size_push] at z
    rcases List.mem_cons.mp z with z | z
    · exact absurd z (Nat.ne_of_gt (Nat.lt_succ_self _))
    · have hz := List.mem_singleton.mp z
      rw [← hz] at hlt
      exact Nat.lt_irrefl _ (Nat.lt_of_le_of_lt (Nat.le_succ _) hlt)
  have st0 : ∀ {o : Obj}, ((s2.heap.push { cls := .type "list_iterator", data := .fields #[.ref p', .int 0 0] }).push o).IsListIter s2.heap.objs.size p' 0 ∧ ((s2.heap.push { cls := .type "list_iterator", data := .fields #[.ref p', .int 0 0] }).push o).IsList p' its.toArray := fun {o} =>
    ⟨⟨_, Heap.get?_push_of_some _ (Heap.get?_push_size _ rfl), rfl, rfl⟩, (hl.push _).push _⟩
  by_cases hne : ns = []
  · subst hne
    have z0 : its.toArray.size = 0 := by simpa using len
    rw [z0] at W
    refine wpAny_pure ⟨plainId_quiet PySem.F.plain_max_loop _, maxk_none W out st0 (Heap.get?_push_size _ rfl) fun h' tk kp => ?_⟩
    exact ⟨.int d, H2, I2.kept (kep fun b x b1 _ e => kp b x b1 e), ⟨_, rfl⟩, q0 rfl⟩
  · have pos0 : 0 < its.toArray.size := by rw [len]; exact List.length_pos_iff.mpr hne
    refine wpAny_pure ⟨plainId_quiet PySem.F.plain_max_loop _, maxk_first W (CmpOf.ints_gt (fun i => ns.getD i 0) (fun i v h => ints_get rv h)) out pos0 st0 (Heap.get?_push_size _ rfl) fun v h' tk hP kp => ?_⟩
    obtain ⟨t, rfl⟩ := ints_get rv hP
    obtain ⟨b1, b2⟩ := best_is (val := fun i => ns.getD i 0) (its.toArray.size - 1)
    generalize argBest (fun i j => decide (ns.getD i 0 > ns.getD j 0)) (its.toArray.size - 1) = m at *
    have hm : m < ns.length := by omega
    refine ⟨.int (ns.getD m 0), H2, I2.kept (kep kp), ⟨_, rfl⟩, q1 hne _ (by simp [hm]) fun x hx => ?_⟩
    obtain ⟨i, hi, rfl⟩ := List.mem_iff_getElem.mp hx
    have := b2 i (by omega)
    simpa [hi, hm] using this
theorem sl_listK {K : Frag} (h : X.K = K) : SlR X (rSlL K) := h ▸ sl_list
end
end L2
namespace L2
open PySem PySem.W PySem.Spec PySem.Calls PyProof.Rows
theorem Paired.mono' {α β : Type} {F G : α → β → Prop} (h : ∀ a b, F a b → G a b) : ∀ {l : List α} {r : List β}, Paired F l r → Paired G l r
  | _, _, .nil => .nil
  | _, _, .cons a t => .cons (h _ _ a) (Paired.mono' h t)
/-- with an if: keep says of a place whether it stays -/
theorem body_itemsF {J : It} {xs : List V} {tc : TT} {te : TE} {σf : St} {Q : VK} {H1 : Hp} (keep : Nat → Bool) (G : Nat → V → Hp → Prop) (hlen : xs.length ≤ sizeLine)
    (hJ : ∀ i H, Same H1 H → (i < xs.length → J.go i H ∧ ∀ x H', J.yld i H x H' → H' = H ∧ xs[i]? = some x) ∧ (i = xs.length → J.stop i H))
    (stable : ∀ i y H H', TupLe H H' → G i y H → G i y H')
    (test : ∀ i x H (R : Bool → Hp → Prop), xs[i]? = some x → Same H1 H → (∀ H', Same H H' → R (keep i) H') → tc (some x :: σf) H R)
    (step : ∀ i x H (R : VK), xs[i]? = some x → keep i = true → Same H1 H → (∀ y H', Same H H' → G i y H' → R y H') → te (some x :: σf) H R)
    (fin : ∀ D ys H', H1 D = none → Same H1 H' → H' D = some (.lst ys) → Paired (fun i y => G i y H') ((List.range xs.length).filter keep) ys → Q (.ref D) H') :
    bodyC J tc te σf Q H1 := by
  intro D hD
  refine ⟨fun i m ys H => m = xs.length - i ∧ i ≤ xs.length ∧ ys.length ≤ i ∧ Same H1 H ∧ H D = some (.lst ys) ∧ Paired (fun j y => G j y H) ((List.range i).filter keep) ys,
    ⟨xs.length, by simp, Nat.zero_le _, Nat.le_refl _, Same.new hD _, upd_same, .nil⟩, ?_⟩
  rintro i m ys H ⟨rfl, hi, hl, hS, hH, hG⟩
  obtain ⟨j1, j2⟩ := hJ i H hS
  by_cases hlt : i < xs.length
  · obtain ⟨go, yl⟩ := j1 hlt
    refine .inr ⟨go, by omega, fun ys' H' => ys'.length ≤ i + 1 ∧ Same H1 H' ∧ H' D = some (.lst ys') ∧ Paired (fun j y => G j y H') ((List.range (i + 1)).filter keep) ys', fun ys' H' ⟨a, b, c, d⟩ => ⟨xs.length - (i + 1), by omega, rfl, hlt, a, b, c, d⟩, fun x H' y => ?_⟩
    obtain ⟨rfl, hx⟩ := yl x H' y
    refine test i x _ _ hx hS fun H2 hS2 => ?_
    cases hk : keep i with
    | false =>
      refine iteF ⟨by omega, hS.trans hS2, hS2 _ _ hH, ?_⟩
      rw [List.range_succ, List.filter_append]
      simp only [List.filter_cons, hk, Bool.false_eq_true, if_false, List.filter_nil, List.append_nil]
      exact Paired.mono' (fun a b h => stable a b _ _ hS2.tup h) hG
    | true =>
      refine iteT (step i x H2 _ hx hk (hS.trans hS2) fun y H3 hS3 hg => ?_)
      have hD3 := hS3 _ _ (hS2 _ _ hH)
      have tl : TupLe H3 (upd H3 D (.lst (ys ++ [y]))) := tup_upd fun zs q => by rw [hD3] at q; cases q
      refine ⟨hD3, by simp; omega, ((hS.trans hS2).trans hS3).updNew hD, upd_same, ?_⟩
      rw [List.range_succ, List.filter_append]
      simp only [List.filter_cons, hk, if_true, List.filter_nil]
      exact Paired.snoc (Paired.mono' (fun a b h => stable a b _ _ ((hS2.trans hS3).tup.trans tl) h) hG) (stable i y _ _ tl hg)
  · have e : i = xs.length := by omega
    subst e
    exact .inl ⟨j2 rfl, fin D ys H hD hS hH hG⟩
theorem body_tupF {K : Frag} {a : Addr} {xs : List V} {tc : TT} {te : TE} {σf : St} {Q : VK} {H1 : Hp} (hS : SqT K H1 a xs) (hlen : xs.length ≤ sizeLine) (keep : Nat → Bool) (G : Nat → V → Hp → Prop)
    (stable : ∀ i y H H', TupLe H H' → G i y H → G i y H')
    (test : ∀ i x H (R : Bool → Hp → Prop), xs[i]? = some x → Same H1 H → (∀ H', Same H H' → R (keep i) H') → tc (some x :: σf) H R)
    (step : ∀ i x H (R : VK), xs[i]? = some x → keep i = true → Same H1 H → (∀ y H', Same H H' → G i y H' → R y H') → te (some x :: σf) H R)
    (fin : ∀ D ys H', H1 D = none → Same H1 H' → H' D = some (.lst ys) → Paired (fun i y => G i y H') ((List.range xs.length).filter keep) ys → Q (.ref D) H') :
    bodyC (Itt K a) tc te σf Q H1 :=
  body_itemsF keep G hlen (fun i H s => ⟨fun hi => ⟨⟨xs, xs[i], s.seqT hS, by simp [hi]⟩, fun x H' ⟨e, y⟩ => ⟨e, y xs (s.seqT hS)⟩⟩, fun e => ⟨xs, s.seqT hS, by omega⟩⟩) stable test step fin
theorem body_listF {K : Frag} {a : Addr} {xs : List V} {tc : TT} {te : TE} {σf : St} {Q : VK} {H1 : Hp} (hS : SqL K H1 a xs) (hlen : xs.length ≤ sizeLine) (keep : Nat → Bool) (G : Nat → V → Hp → Prop)
    (stable : ∀ i y H H', TupLe H H' → G i y H → G i y H')
    (test : ∀ i x H (R : Bool → Hp → Prop), xs[i]? = some x → Same H1 H → (∀ H', Same H H' → R (keep i) H') → tc (some x :: σf) H R)
    (step : ∀ i x H (R : VK), xs[i]? = some x → keep i = true → Same H1 H → (∀ y H', Same H H' → G i y H' → R y H') → te (some x :: σf) H R)
    (fin : ∀ D ys H', H1 D = none → Same H1 H' → H' D = some (.lst ys) → Paired (fun i y => G i y H') ((List.range xs.length).filter keep) ys → Q (.ref D) H') :
    bodyC (Itl K a) tc te σf Q H1 :=
  body_itemsF keep G hlen (fun i H s => ⟨fun hi => ⟨⟨xs, xs[i], s.seq hS, by simp [hi]⟩, fun x H' ⟨e, y⟩ => ⟨e, y xs (s.seq hS)⟩⟩, fun e => ⟨xs, s.seq hS, by omega⟩⟩) stable test step fin
end L2

end
section
set_option Elab.async false
set_option linter.all false
set_option maxRecDepth 100000
set_option maxHeartbeats 4000000
namespace RR
open PySem L2
def Wd.parts : Wd → List Wd
  | .nt a => [a]
  | .an a b => [a, b]
  | .or a b => [a, b]
  | _ => []
def Wd.okB (R B : Int) : Wd → Bool
  | .relay k => decide (0 ≤ k) && decide (k < R)
  | .button k => decide (0 ≤ k) && decide (k < B)
  | .nt a => a.okB R B
  | .an a b => a.okB R B && b.okB R B
  | .or a b => a.okB R B && b.okB R B
  | _ => true
def spParts : Sp := fun vs H Q _ => ∃ v wd, vs = [v] ∧ WAt H wd v ∧ ∀ p xs H', Same H H' → H' p = some (.tup xs) → WsAt H' wd.parts xs → Q (.ref p) H'
def spDeeper (n : Nat) : Sp := fun vs H Q _ => ∃ (v : V) (wd : Wd) (d : Nat), vs = [v, .int d] ∧ WAt H wd v ∧ d < n ∧ ∀ H', Same H H' → Q (.bl (decide (d < wd.depth))) H'
def spLacks (n : Nat) : Sp := fun vs H Q _ => ∃ (v : V) (wd : Wd) (R B : Int), vs = [v, .int R, .int B] ∧ WAt H wd v ∧ wd.depth ≤ n ∧ ∀ H', Same H H' → Q (.bl (!wd.okB R B)) H'
theorem ws_nil {H : Hp} : WsAt H [] [] := ⟨rfl, fun i v e => by simp at e⟩
theorem parts_len (wd : Wd) : wd.parts.length ≤ 2 := by cases wd <;> simp [Wd.parts]
theorem parts_depth {wd p : Wd} (h : p ∈ wd.parts) : p.depth + 1 ≤ wd.depth := by
  cases wd with
  | nt a => have : p = a := by simpa [Wd.parts] using h
            subst this; simp [Wd.depth]
  | an a b =>
    have : p = a ∨ p = b := by simpa [Wd.parts] using h
    show _ ≤ max a.depth b.depth + 1
    rcases this with rfl | rfl <;> omega
  | or a b =>
    have : p = a ∨ p = b := by simpa [Wd.parts] using h
    show _ ≤ max a.depth b.depth + 1
    rcases this with rfl | rfl <;> omega
  | _ => simp [Wd.parts] at h
theorem depth_parts (wd : Wd) (d : Nat) : (wd.parts.map fun p => decide (d < p.depth)).any id = decide (d + 1 < wd.depth) := by
  cases wd with
  | nt a => simp [Wd.parts, Wd.depth]
  | an a b =>
    simp only [Wd.parts, Wd.depth, List.map_cons, List.map_nil, List.any_cons, List.any_nil, Bool.or_false, id]
    rw [Bool.eq_iff_iff]
    simp
    omega
  | or a b =>
    simp only [Wd.parts, Wd.depth, List.map_cons, List.map_nil, List.any_cons, List.any_nil, Bool.or_false, id]
    rw [Bool.eq_iff_iff]
    simp
    omega
  | _ => simp [Wd.parts, Wd.depth]
theorem okB_parts {wd : Wd} {R B : Int} (h1 : ∀ k, wd ≠ .relay k) (h2 : ∀ k, wd ≠ .button k) : (wd.parts.map fun p => !p.okB R B).any id = !wd.okB R B := by
  cases wd with
  | relay k => exact absurd rfl (h1 k)
  | button k => exact absurd rfl (h2 k)
  | nt a => simp [Wd.parts, Wd.okB]
  | an a b => simp [Wd.parts, Wd.okB]
  | or a b => simp [Wd.parts, Wd.okB]
  | _ => simp [Wd.parts, Wd.okB]
theorem okB_parts2 {wd : Wd} {R B : Int} (h1 : ∀ k, wd ≠ .relay k) (h2 : ∀ k, wd ≠ .button k) : (wd.parts.map fun p => p.okB R B).all id = wd.okB R B := by
  cases wd with
  | relay k => exact absurd rfl (h1 k)
  | button k => exact absurd rfl (h2 k)
  | nt a => simp [Wd.parts, Wd.okB]
  | an a b => simp [Wd.parts, Wd.okB]
  | or a b => simp [Wd.parts, Wd.okB]
  | _ => simp [Wd.parts, Wd.okB]
/-- the refusal that is due: 0 TooMany, 1 Deep, 2 NoContact -/
def dueOf (ws : List Wd) (b : Int) : Option Nat :=
  if ws.length < 1 ∨ 6 < ws.length ∨ b < 0 ∨ 4 < b then some 0 else if ws.any (fun x => decide (8 < x.depth)) then some 1 else if ws.any (fun x => !x.okB ws.length b) then some 2 else none
def excAt (c0 c1 c2 : Addr) : Nat → Addr
  | 0 => c0
  | 1 => c1
  | _ => c2
def spLooked (c0 c1 c2 : Addr) : Sp := fun vs H Q E => ∃ (a : Addr) (us : List V) (ws : List Wd) (b : Int), vs = [.ref a, .int b] ∧ H a = some (.lst us) ∧ WsAt H ws us ∧ ws.length ≤ 100 ∧
  match dueOf ws b with
  | none => ∀ H', Same H H' → Q (.int ws.length) H'
  | some k => ∀ H', Same H H' → E (.ref (excAt c0 c1 c2 k)) none H'
/-- the slice behind the head -/
theorem cut_tail (x : V) (xs : List V) : cutV (x :: xs) (some 1) none = xs := by
  have e1 : HT.sIx (xs.length + 1) 0 (some 1) = 1 := (HT.sIx_nat _ _ 1).trans (by omega)
  have e2 : HT.sIx (xs.length + 1) (xs.length + 1) none = xs.length + 1 := rfl
  unfold cutV
  rw [List.length_cons, e1, e2]
  simp
theorem cut_part (x : V) (xs : List V) : ¬ (HT.sIx (x :: xs).length 0 (some 1) = 0 ∧ HT.sIx (x :: xs).length (x :: xs).length none = (x :: xs).length) := by
  have e1 : HT.sIx (xs.length + 1) 0 (some 1) = 1 := (HT.sIx_nat _ _ 1).trans (by omega)
  rw [List.length_cons, e1]
  omega
/-- a word by its head: kind, and what stands behind -/
theorem word_head {H : Hp} {wd : Wd} {v : V} (h : WAt H wd v) : ∃ (p : Addr) (kd : Str) (xs : List V), v = .ref p ∧ H p = some (.tup (.str kd :: xs)) ∧ xs.length ≤ 2 ∧
    ((∃ k, wd = .relay k ∧ kd = "relay" ∧ xs = [.int k]) ∨ (∃ k, wd = .button k ∧ kd = "button" ∧ xs = [.int k]) ∨ (V.str kd ≠ V.str "relay" ∧ V.str kd ≠ V.str "button" ∧ WsAt H wd.parts xs ∧
      (∀ k, wd ≠ .relay k) ∧ (∀ k, wd ≠ .button k) ∧ (inV (.str kd) [.str "not", .str "and", .str "or"] = false → wd.parts = []))) := by
  cases wd with
  | on => obtain ⟨p, e, q⟩ := h; exact ⟨p, "on", [], e, q, by simp, .inr (.inr ⟨by decide +kernel, by decide +kernel, ws_nil, fun k => by simp, fun k => by simp, fun _ => rfl⟩)⟩
  | off => obtain ⟨p, e, q⟩ := h; exact ⟨p, "off", [], e, q, by simp, .inr (.inr ⟨by decide +kernel, by decide +kernel, ws_nil, fun k => by simp, fun k => by simp, fun _ => rfl⟩)⟩
  | relay k => obtain ⟨p, e, q⟩ := h; exact ⟨p, "relay", [.int k], e, q, by simp, .inl ⟨k, rfl, rfl, rfl⟩⟩
  | button k => obtain ⟨p, e, q⟩ := h; exact ⟨p, "button", [.int k], e, q, by simp, .inr (.inl ⟨k, rfl, rfl, rfl⟩)⟩
  | nt a => obtain ⟨p, x, e, q, hx⟩ := h; exact ⟨p, "not", [x], e, q, by simp, .inr (.inr ⟨by decide +kernel, by decide +kernel, ws_one hx, fun k => by simp, fun k => by simp, fun z => absurd z (by decide +kernel)⟩)⟩
  | an a b => obtain ⟨p, x, y, e, q, hx, hy⟩ := h; exact ⟨p, "and", [x, y], e, q, by simp, .inr (.inr ⟨by decide +kernel, by decide +kernel, ws_two hx hy, fun k => by simp, fun k => by simp, fun z => absurd z (by decide +kernel)⟩)⟩
  | or a b => obtain ⟨p, x, y, e, q, hx, hy⟩ := h; exact ⟨p, "or", [x, y], e, q, by simp, .inr (.inr ⟨by decide +kernel, by decide +kernel, ws_two hx hy, fun k => by simp, fun k => by simp, fun z => absurd z (by decide +kernel)⟩)⟩
end RR
namespace RR
open PySem L2
theorem boot_VE : bootBuiltins "ValueError" = some (.type "ValueError") := by decide +kernel
def spWhole : Sp := fun vs H Q _ => ∃ i : Int, vs = [.int i] ∧ Q (.bl true) H
def marksOf (k : Nat) : List Bool := ((List.range 6).map fun i => decide (i = k)) ++ [true]
def spRefused : Sp := fun vs H Q _ => ∃ (m : Addr) (k : Nat), vs = [.ref m, .int k] ∧ H m = some (.lst ((marksOf k).map V.bl)) ∧ ∀ H', Same H H' → Q (.bl true) H'
def spLDepth (n : Nat) : Sp := fun vs H Q _ => ∃ (v : V) (wd : Wd), vs = [v] ∧ WAt H wd v ∧ wd.depth ≤ n ∧ ∀ H', Same H H' → Q (.int wd.depth) H'
def spWired (n : Nat) : Sp := fun vs H Q _ => ∃ (v : V) (wd : Wd) (R B : Int), vs = [v, .int R, .int B] ∧ WAt H wd v ∧ wd.depth ≤ n ∧ ∀ H', Same H H' → Q (.bl (wd.okB R B)) H'
def dueN (ws : List Wd) (b : Int) : Int := match dueOf ws b with
  | none => -1
  | some k => k
def spDue (n : Nat) : Sp := fun vs H Q _ => ∃ (a : Addr) (us : List V) (ws : List Wd) (b : Int), vs = [.ref a, .int b] ∧ H a = some (.lst us) ∧ WsAt H ws us ∧ ws.length ≤ 100 ∧ (∀ x ∈ ws, x.depth ≤ n) ∧ ∀ H', Same H H' → Q (.int (dueN ws b)) H'
/-- what told tells: found, marks -/
def spTold : Sp := fun vs H Q _ => ∃ (a : Addr) (us : List V) (ws : List Wd) (b : Int), vs = [.ref a, .int b] ∧ H a = some (.lst us) ∧ WsAt H ws us ∧ ws.length ≤ 100 ∧
  ∀ p vf m bs H', Same H H' → H' p = some (.tup [vf, .ref m]) → H' m = some (.lst (bs.map V.bl)) → (match dueOf ws b with | none => vf = .int ws.length ∧ bs = [] | some k => bs = marksOf k) → Q (.ref p) H'
def spSpoilt (n l : Nat) : Sp := fun vs H Q _ => ∃ (a : Addr) (us : List V) (ws : List Wd) (b c : Int), vs = [.ref a, .int b, .int c] ∧ H a = some (.lst us) ∧ WsAt H ws us ∧ ws.length ≤ l ∧ (∀ x ∈ ws, x.depth ≤ n) ∧
  ∀ p a' us' ws' b' H', Same H H' → H' p = some (.tup [.ref a', .int b']) → H' a' = some (.lst us') → WsAt H' ws' us' → ws'.length ≤ l + 6 → (∀ x ∈ ws', x.depth ≤ n + 5) → Q (.ref p) H'
theorem depth_leaf {wd : Wd} (h : wd.parts = []) : wd.depth = 1 := by
  cases wd <;> simp [Wd.parts] at h <;> rfl
theorem depth_max {wd : Wd} {m : Int} (hne : wd.parts ≠ []) (h1 : m ∈ wd.parts.map fun x => (x.depth : Int)) (h2 : ∀ x ∈ wd.parts.map (fun x => (x.depth : Int)), x ≤ m) : 1 + m = (wd.depth : Int) := by
  cases wd with
  | nt a => simp [Wd.parts, Wd.depth] at *; omega
  | an a b =>
    simp only [Wd.parts, List.map_cons, List.map_nil, List.mem_cons, List.not_mem_nil, or_false] at h1 h2
    have e1 := h2 _ (.inl rfl)
    have e2 := h2 _ (.inr rfl)
    show 1 + m = ((max a.depth b.depth + 1 : Nat) : Int)
    rcases h1 with h1 | h1 <;> omega
  | or a b =>
    simp only [Wd.parts, List.map_cons, List.map_nil, List.mem_cons, List.not_mem_nil, or_false] at h1 h2
    have e1 := h2 _ (.inl rfl)
    have e2 := h2 _ (.inr rfl)
    show 1 + m = ((max a.depth b.depth + 1 : Nat) : Int)
    rcases h1 with h1 | h1 <;> omega
  | _ => exact absurd rfl hne
theorem lay_bools : ∀ bs : List Bool, PyData.canLayAll0 (bs.map PyData.bool) = true
  | [] => by simp [PyData.canLayAll0]
  | b :: bs => by simp [PyData.canLayAll0, PyData.canLay0, lay_bools bs]
theorem depth_bools : ∀ bs : List Bool, PyData.depthAll (bs.map PyData.bool) ≤ 1
  | [] => by simp [PyData.depthAll]
  | b :: bs => by
    have := depth_bools bs
    simp [PyData.depthAll, PyData.depth]
    omega
/-! words as data -/
def Wd.data : Wd → PyData
  | .on => .tuple [.str "on"]
  | .off => .tuple [.str "off"]
  | .relay k => .tuple [.str "relay", .int k]
  | .button k => .tuple [.str "button", .int k]
  | .nt a => .tuple [.str "not", a.data]
  | .an a b => .tuple [.str "and", a.data, b.data]
  | .or a b => .tuple [.str "or", a.data, b.data]
theorem WAt.data {K : PySem.W.Frag} {H : Hp} : ∀ {wd : Wd} {v : V}, WAt H wd v → DAt K H wd.data v
  | .on, _, ⟨p, e, q⟩ => e ▸ .tuple (SqT.of q) (.cons (.str _) .nil)
  | .off, _, ⟨p, e, q⟩ => e ▸ .tuple (SqT.of q) (.cons (.str _) .nil)
  | .relay _, _, ⟨p, e, q⟩ => e ▸ .tuple (SqT.of q) (.cons (.str _) (.cons (.int _) .nil))
  | .button _, _, ⟨p, e, q⟩ => e ▸ .tuple (SqT.of q) (.cons (.str _) (.cons (.int _) .nil))
  | .nt _, _, ⟨p, x, e, q, a⟩ => e ▸ .tuple (SqT.of q) (.cons (.str _) (.cons a.data .nil))
  | .an _ _, _, ⟨p, x, y, e, q, a, b⟩ => e ▸ .tuple (SqT.of q) (.cons (.str _) (.cons a.data (.cons b.data .nil)))
  | .or _ _, _, ⟨p, x, y, e, q, a, b⟩ => e ▸ .tuple (SqT.of q) (.cons (.str _) (.cons a.data (.cons b.data .nil)))
theorem strs_ok : PyData.canLay0 (.str "on") = true ∧ PyData.canLay0 (.str "off") = true ∧ PyData.canLay0 (.str "relay") = true ∧ PyData.canLay0 (.str "button") = true ∧ PyData.canLay0 (.str "not") = true ∧ PyData.canLay0 (.str "and") = true ∧ PyData.canLay0 (.str "or") = true := by
  refine ⟨?_, ?_, ?_, ?_, ?_, ?_, ?_⟩ <;> (simp only [PyData.canLay0]; decide +kernel)
theorem lay_tup (xs : List PyData) : (PyData.tuple xs).canLay0 = PyData.canLayAll0 xs := by simp only [PyData.canLay0]
theorem lay_lst (xs : List PyData) : (PyData.list xs).canLay0 = PyData.canLayAll0 xs := by simp only [PyData.canLay0]
theorem lay_cons (x : PyData) (xs : List PyData) : PyData.canLayAll0 (x :: xs) = (x.canLay0 && PyData.canLayAll0 xs) := by simp only [PyData.canLayAll0]
theorem lay_nil : PyData.canLayAll0 [] = true := by simp only [PyData.canLayAll0]
theorem lay_int (i : Int) : (PyData.int i).canLay0 = true := by simp only [PyData.canLay0]
theorem data_lay : ∀ wd : Wd, wd.data.canLay0 = true
  | .on => by show (PyData.tuple _).canLay0 = true; rw [lay_tup, lay_cons, lay_nil, strs_ok.1]; rfl
  | .off => by show (PyData.tuple _).canLay0 = true; rw [lay_tup, lay_cons, lay_nil, strs_ok.2.1]; rfl
  | .relay k => by show (PyData.tuple _).canLay0 = true; rw [lay_tup, lay_cons, lay_cons, lay_nil, strs_ok.2.2.1, lay_int]; rfl
  | .button k => by show (PyData.tuple _).canLay0 = true; rw [lay_tup, lay_cons, lay_cons, lay_nil, strs_ok.2.2.2.1, lay_int]; rfl
  | .nt a => by show (PyData.tuple _).canLay0 = true; rw [lay_tup, lay_cons, lay_cons, lay_nil, strs_ok.2.2.2.2.1, data_lay a]; rfl
  | .an a b => by show (PyData.tuple _).canLay0 = true; rw [lay_tup, lay_cons, lay_cons, lay_cons, lay_nil, strs_ok.2.2.2.2.2.1, data_lay a, data_lay b]; rfl
  | .or a b => by show (PyData.tuple _).canLay0 = true; rw [lay_tup, lay_cons, lay_cons, lay_cons, lay_nil, strs_ok.2.2.2.2.2.2, data_lay a, data_lay b]; rfl
theorem datas_lay : ∀ ws : List Wd, PyData.canLayAll0 (ws.map Wd.data) = true
  | [] => lay_nil
  | x :: ws => by rw [List.map_cons, lay_cons, data_lay, datas_lay ws]; rfl
theorem data_depth : ∀ wd : Wd, wd.data.depth ≤ wd.depth
  | .on => by simp [Wd.data, PyData.depth, PyData.depthAll, Wd.depth]
  | .off => by simp [Wd.data, PyData.depth, PyData.depthAll, Wd.depth]
  | .relay k => by simp [Wd.data, PyData.depth, PyData.depthAll, Wd.depth]
  | .button k => by simp [Wd.data, PyData.depth, PyData.depthAll, Wd.depth]
  | .nt a => by have := data_depth a; simp [Wd.data, PyData.depth, PyData.depthAll, Wd.depth]; omega
  | .an a b => by have := data_depth a; have := data_depth b; simp [Wd.data, PyData.depth, PyData.depthAll, Wd.depth]; omega
  | .or a b => by have := data_depth a; have := data_depth b; simp [Wd.data, PyData.depth, PyData.depthAll, Wd.depth]; omega
theorem datas_depth {n : Nat} : ∀ {ws : List Wd}, (∀ x ∈ ws, x.depth ≤ n) → PyData.depthAll (ws.map Wd.data) ≤ n
  | [], _ => by simp [PyData.depthAll]
  | x :: ws, h => by
    have h1 := data_depth x
    have h2 := h x (by simp)
    have h3 := datas_depth (ws := ws) fun y hy => h y (by simp [hy])
    simp only [List.map_cons, PyData.depthAll]
    omega
theorem wsAt_datas {K : PySem.W.Frag} {H : Hp} : ∀ {ws : List Wd} {us : List V}, WsAt H ws us → DsAt K H (ws.map Wd.data) us
  | [], us, h => by
    have : us = [] := List.length_eq_zero_iff.mp h.1
    subst this
    exact .nil
  | x :: ws, us, h => by
    cases us with
    | nil => exact absurd h.1 (by simp)
    | cons u us =>
      obtain ⟨wd, e1, e2⟩ := h.2 0 u rfl
      have e1' : x = wd := by simpa using e1
      subst e1'
      exact .cons e2.data (wsAt_datas ⟨by have := h.1; simpa using this, fun i v e => by
        obtain ⟨wd, a, b⟩ := h.2 (i + 1) v (by simpa using e)
        exact ⟨wd, by simpa using a, b⟩⟩)
end RR


end
section
set_option Elab.async false
set_option linter.all false
set_option maxRecDepth 100000
set_option maxHeartbeats 4000000
namespace RR
open PySem L2
theorem ws_append {H : Hp} {ws ws2 : List Wd} {us us2 : List V} (h : WsAt H ws us) (h2 : WsAt H ws2 us2) : WsAt H (ws ++ ws2) (us ++ us2) := ⟨by simp [h.1, h2.1], fun i v e => by
  by_cases c : i < us.length
  · rw [List.getElem?_append_left c] at e
    obtain ⟨wd, a, b⟩ := h.2 i v e
    exact ⟨wd, by rw [List.getElem?_append_left (by rw [← h.1]; exact c)]; exact a, b⟩
  · rw [List.getElem?_append_right (by omega)] at e
    obtain ⟨wd, a, b⟩ := h2.2 _ v e
    exact ⟨wd, by rw [List.getElem?_append_right (by rw [← h.1]; omega), ← h.1]; exact a, b⟩⟩
theorem ws_take {H : Hp} {ws : List Wd} {us : List V} (h : WsAt H ws us) (k : Nat) : WsAt H (ws.take k) (us.take k) := ⟨by simp [h.1], fun i v e => by
  rw [List.getElem?_take] at e ⊢
  split at e
  · rename_i c
    rw [if_pos c]
    exact h.2 i v e
  · cases e⟩
theorem ws_drop {H : Hp} {ws : List Wd} {us : List V} (h : WsAt H ws us) (k : Nat) : WsAt H (ws.drop k) (us.drop k) := ⟨by simp [h.1], fun i v e => by
  rw [List.getElem?_drop] at e ⊢
  exact h.2 _ v e⟩
theorem ws_all {H : Hp} {wd : Wd} {us : List V} (h : ∀ (i : Nat) y, us[i]? = some y → WAt H wd y) : WsAt H (List.replicate us.length wd) us := ⟨by simp, fun i v e => by
  have hi := (List.getElem?_eq_some_iff.mp e).1
  exact ⟨wd, by simp [hi], h i v e⟩⟩
theorem cut_take (us : List V) (k : Nat) (h : k ≤ us.length) : cutV us none (some (k : Int)) = us.take k := by
  unfold cutV
  have e1 : HT.sIx us.length 0 none = 0 := rfl
  rw [HT.sIx_nat, e1, Nat.min_eq_left h]
  simp
theorem cut_drop (us : List V) (k : Nat) (h : k ≤ us.length) : cutV us (some (k : Int)) none = us.drop k := by
  unfold cutV
  have e1 : HT.sIx us.length us.length none = us.length := rfl
  rw [HT.sIx_nat, e1, Nat.min_eq_left h, ← List.length_drop, List.take_length]
theorem four_int {x y z u m : Int} : ∃ i : Int, atI [V.int x, .int y, .int z, .int u] (m % 4) = some (.int i) := by
  have h1 := Int.emod_nonneg m (show (4 : Int) ≠ 0 by decide)
  have h2 := Int.emod_lt_of_pos m (show (0 : Int) < 4 by decide)
  rcases (by omega : m % 4 = 0 ∨ m % 4 = 1 ∨ m % 4 = 2 ∨ m % 4 = 3) with e | e | e | e <;> rw [e]
  · exact ⟨x, atI_nat (j := 0) rfl⟩
  · exact ⟨y, atI_nat (j := 1) rfl⟩
  · exact ⟨z, atI_nat (j := 2) rfl⟩
  · exact ⟨u, atI_nat (j := 3) rfl⟩
theorem two_int {x y m : Int} : ∃ i : Int, atI [V.int x, .int y] (m % 2) = some (.int i) := by
  rcases two_at (x := .int x) (y := .int y) (m := m) with ⟨_, e⟩ | ⟨_, e⟩
  · exact ⟨x, e⟩
  · exact ⟨y, e⟩
/-- a word of two parts by its sign -/
theorem sign_at {m : Int} (h0 : 0 ≤ m) (h1 : m < 2) : ∃ s : Str, atI [V.str "and", .str "or"] m = some (.str s) ∧ ∀ H p x y wx wy, H p = some (HO.tup [.str s, x, y]) → WAt H wx x → WAt H wy y → ∃ wd, WAt H wd (.ref p) ∧ wd.depth = max wx.depth wy.depth + 1 := by
  rcases (by omega : m = 0 ∨ m = 1) with rfl | rfl
  · exact ⟨"and", at0 _ _, fun H p x y wx wy a b c => ⟨.an wx wy, ⟨p, x, y, rfl, a, b, c⟩, rfl⟩⟩
  · exact ⟨"or", at1 _ _ _, fun H p x y wx wy a b c => ⟨.or wx wy, ⟨p, x, y, rfl, a, b, c⟩, rfl⟩⟩
theorem eqv_nils {ws : List Wd} (h : ws = []) : PyData.eqv (.list (ws.map Wd.data)) (.list []) = true := by
  subst h
  simp [PyData.eqv, PyData.eqvAll]
theorem eqv_nils2 {ws : List Wd} (h : ¬ PyData.eqv (.list (ws.map Wd.data)) (.list []) = true) : 1 ≤ ws.length := by
  cases ws with
  | nil => exact absurd (eqv_nils rfl) h
  | cons x xs => simp
end RR

end
section
set_option Elab.async false
set_option linter.all false
set_option maxRecDepth 100000
set_option maxHeartbeats 4000000
namespace L2
open PySem
theorem body_rngF {lo : Int} {n : Nat} {tc : TT} {te : TE} {σf : St} {Q : VK} {H1 : Hp} (hlen : n ≤ sizeLine) (keep : Nat → Bool) (G : Nat → V → Hp → Prop)
    (stable : ∀ i y H H', TupLe H H' → G i y H → G i y H')
    (test : ∀ i H (R : Bool → Hp → Prop), i < n → Same H1 H → (∀ H', Same H H' → R (keep i) H') → tc (some (.int (lo + i)) :: σf) H R)
    (step : ∀ i H (R : VK), i < n → keep i = true → Same H1 H → (∀ y H', Same H H' → G i y H' → R y H') → te (some (.int (lo + i)) :: σf) H R)
    (fin : ∀ D ys H', H1 D = none → Same H1 H' → H' D = some (.lst ys) → Paired (fun i y => G i y H') ((List.range n).filter keep) ys → Q (.ref D) H') :
    bodyC (Itr lo n) tc te σf Q H1 :=
  body_itemsF (xs := (List.range n).map fun (i : Nat) => V.int (lo + i)) keep G (by simpa using hlen)
    (fun i H s => ⟨fun hi => ⟨by simpa [Itr] using hi, fun x H' ⟨e, y⟩ => ⟨e, by
      have hi' : i < n := by simpa using hi
      rw [List.getElem?_map, List.getElem?_range hi', y]; rfl⟩⟩, fun e => by
        have : i = n := by simpa using e
        exact Nat.le_of_eq this.symm⟩) stable
    (fun i x H R hx => by
      have hi : i < n := by have := (List.getElem?_eq_some_iff.mp hx).1; simpa using this
      rw [List.getElem?_map, List.getElem?_range hi] at hx
      cases hx
      exact test i H R hi)
    (fun i x H R hx => by
      have hi : i < n := by have := (List.getElem?_eq_some_iff.mp hx).1; simpa using this
      rw [List.getElem?_map, List.getElem?_range hi] at hx
      cases hx
      exact step i H R hi) (fun D ys H' a b c d => fin D ys H' a b c (by simpa using d))
theorem paired_map {α : Type} {f : α → V} : ∀ {l : List α} {ys : List V}, Paired (fun i y => y = f i) l ys → ys = l.map f
  | _, _, .nil => rfl
  | _, _, .cons e t => by rw [e, paired_map t]; rfl
theorem call_list_ofK {X : Cx} {K : PySem.W.Frag} (h : X.K = K) : CallR X (.type "list") (fun xs H Q => ∃ p ys, xs = [.ref p] ∧ (SqL K H p ys ∨ SqT K H p ys) ∧ ∀ l, H l = none → Q (.ref l) (upd H l (.lst ys))) := h ▸ call_list_of
theorem call_tuple_ofK {X : Cx} {K : PySem.W.Frag} (h : X.K = K) : CallR X (.type "tuple") (fun xs H Q => ∃ p ys, xs = [.ref p] ∧ ((SqL K H p ys ∧ ∀ l, H l = none → Q (.ref l) (upd H l (.tup ys))) ∨ (SqT K H p ys ∧ Q (.ref p) H))) := h ▸ call_tuple_of
theorem pt_truthK {X : Cx} {K : PySem.W.Frag} {a : Expr} {ta : TE} (h : X.K = K) (ha : PE X a ta) (he : ∀ whole, isTrue a X.env whole = (do let v ← whole; standAt a.pos; holding [v] (truthy v))) :
    PT X a (fun σ H Q => ta σ H fun x H' => ∃ k, TruV K x H' k ∧ Q k H') := h ▸ pt_truth ha he
/-- all but the thing at a is as it was -/
def SameX (a : Addr) (H H' : Hp) : Prop := ∀ b o, b ≠ a → H b = some o → H' b = some o
theorem SameX.refl (a : Addr) (H : Hp) : SameX a H H := fun _ _ _ h => h
theorem SameX.trans {a : Addr} {H H1 H2 : Hp} (x : SameX a H H1) (y : SameX a H1 H2) : SameX a H H2 := fun b o n h => y b o n (x b o n h)
theorem Same.x {a : Addr} {H H' : Hp} (h : Same H H') : SameX a H H' := fun b o _ e => h b o e
theorem SameX.upd {a : Addr} {H : Hp} {o : HO} : SameX a H (upd H a o) := fun b u n e => by rw [upd_ne n]; exact e
theorem Same.ofX {a : Addr} {H0 H H' : Hp} (h : Same H0 H) (n : H0 a = none) (x : SameX a H H') : Same H0 H' := fun b o e => x b o (ne_of_none e n) (h b o e)
end L2
namespace RR
open PySem L2
/-! ### a board with its pressed -/
structure Bd (K : PySem.W.Frag) (H : Hp) (D b : Addr) (ws : List Wd) (pr : List Bool) : Prop where
  l : ∃ us, SqL K H D us ∧ WsAt H ws us
  p : BAt H b pr
  ok : ∀ wd ∈ ws, wd.ok ws.length pr.length ∧ wd.depth ≤ 8
  n : ws.length ≤ 6
theorem Bd.mono {K : PySem.W.Frag} {H H' : Hp} {D b : Addr} {ws : List Wd} {pr : List Bool} (h : Bd K H D b ws pr) (s : Same H H') : Bd K H' D b ws pr :=
  ⟨let ⟨us, a, c⟩ := h.l; ⟨us, s.seq a, c.mono s.tup⟩, s _ _ h.p, h.ok, h.n⟩
def canM (ws : List Wd) (pr st : List Bool) (k : Nat) : Bool := (ws.getD k .off).worth st pr != st.getD k false
def movs (ws : List Wd) (pr st : List Bool) : List Nat := (List.range ws.length).filter (canM ws pr st)
def flip (st : List Bool) (k : Nat) : List Bool := st.set k (!st.getD k false)
def nats (ks : List Nat) : List V := ks.map fun k => V.int (k : Nat)
theorem nats_len (ks : List Nat) : (nats ks).length = ks.length := List.length_map _
theorem flip_len (st : List Bool) (k : Nat) : (flip st k).length = st.length := List.length_set
theorem mem_movs {ws : List Wd} {pr st : List Bool} {k : Nat} : k ∈ movs ws pr st ↔ k < ws.length ∧ canM ws pr st k = true := by
  unfold movs; rw [List.mem_filter, List.mem_range]
theorem movs_len (ws : List Wd) (pr st : List Bool) : (movs ws pr st).length ≤ ws.length := by
  unfold movs
  have := List.length_filter_le (canM ws pr st) (List.range ws.length)
  simpa using this
theorem Bd.at {K : PySem.W.Frag} {H : Hp} {D b : Addr} {ws : List Wd} {pr : List Bool} (h : Bd K H D b ws pr) {k : Nat} (hk : k < ws.length) :
    ∃ us v, SqL K H D us ∧ us.length = ws.length ∧ atI us (k : Int) = some v ∧ WAt H (ws.getD k .off) v ∧ (ws.getD k .off).ok ws.length pr.length ∧ (ws.getD k .off).depth ≤ 8 := by
  obtain ⟨us, hl, hw⟩ := h.l
  have hk' : k < us.length := by rw [hw.1]; exact hk
  obtain ⟨wd, e, a⟩ := hw.2 k us[k] (by simp [hk'])
  have e2 : ws.getD k .off = wd := by simp [e]
  rw [e2]
  exact ⟨us, us[k], hl, hw.1, atI_nat (by simp [hk']), a, h.ok wd (List.mem_of_getElem? e)⟩
/-! ### what the moves promise -/
def spCan (K : PySem.W.Frag) : Sp := fun vs H Q _ => ∃ (D b a : Addr) (ws : List Wd) (pr st : List Bool) (k : Nat), vs = [.ref D, .ref b, .ref a, .int k] ∧ Bd K H D b ws pr ∧ BAt H a st ∧ st.length = ws.length ∧ k < ws.length ∧ Q (.bl (canM ws pr st k)) H
def spMovable (K : PySem.W.Frag) : Sp := fun vs H Q _ => ∃ (D b a : Addr) (ws : List Wd) (pr st : List Bool), vs = [.ref D, .ref b, .ref a] ∧ Bd K H D b ws pr ∧ BAt H a st ∧ st.length = ws.length ∧
  ∀ l H', H l = none → Same H H' → H' l = some (.lst (nats (movs ws pr st))) → Q (.ref l) H'
def spMoved : Sp := fun vs H Q _ => ∃ (a : Addr) (st : List Bool) (k : Nat), vs = [.ref a, .int k] ∧ BAt H a st ∧ k < st.length ∧ st.length ≤ 63 ∧ ∀ p H', Same H H' → BAt H' p (flip st k) → Q (.ref p) H'
/-- stands in a list -/
def RowsAt' (H : Hp) (rs : List (List Bool)) (vs : List V) : Prop := Paired (fun r v => ∃ a, v = V.ref a ∧ BAt H a r) rs vs
theorem RowsAt'.mono {H H' : Hp} {rs : List (List Bool)} {vs : List V} (h : RowsAt' H rs vs) (t : TupLe H H') : RowsAt' H' rs vs := Paired.mono' (fun r v ⟨a, e, q⟩ => ⟨a, e, t _ _ q⟩) h
def isRest (ws : List Wd) (pr st : List Bool) : Bool := (movs ws pr st).isEmpty
def restsOf (ws : List Wd) (pr : List Bool) : List (List Bool) := (allRows ws.length).filter (isRest ws pr)
def spRests (K : PySem.W.Frag) : Sp := fun vs H Q _ => ∃ (D b : Addr) (ws : List Wd) (pr : List Bool), vs = [.ref D, .ref b] ∧ Bd K H D b ws pr ∧
  ∀ l us H', H l = none → Same H H' → H' l = some (.lst us) → RowsAt' H' (restsOf ws pr) us → Q (.ref l) H'
theorem paired_of_map {α β γ : Type} {R : β → γ → Prop} {f : α → β} : ∀ {l : List α} {ys : List γ}, Paired (fun i y => R (f i) y) l ys → Paired R (l.map f) ys
  | _, _, .nil => .nil
  | _, _, .cons r t => .cons r (paired_of_map t)
theorem flip_getD {st : List Bool} {k i : Nat} (hk : k < st.length) : (flip st k).getD i false = (st.getD i false != decide (i = k)) := by
  unfold flip
  by_cases c : i = k
  · subst c; simp [hk]
  · simp [List.getElem?_set, c, Ne.symm c]
end RR

end
section
set_option Elab.async false
set_option linter.all false
set_option maxRecDepth 100000
set_option maxHeartbeats 4000000
namespace RR
open PySem L2
def natsD (ks : List Nat) : PyData := .list (ks.map fun (k : Nat) => .int (k : Int))
def intsD (ks : List Int) : PyData := .list (ks.map .int)
def standD (st : List Bool) : PyData := .tuple (st.map .bool)
def rowsD (rs : List (List Bool)) : PyData := .list (rs.map standD)
def GoodD (d : PyData) : Prop := d.canLay0 = true ∧ d.depth ≤ 64
theorem eqD_of {K : PySem.W.Frag} {H : Hp} {x y : V} {neg : Bool} {Q : VK} {d e : PyData} {c : Bool} (hd : DAt K H d x) (he : DAt K H e y) (gd : GoodD d) (ge : GoodD e) (hc : PyData.eqv d e = c) (q : Q (.bl (if neg then !c else c)) H) : rEqD K neg x y H Q :=
  ⟨d, e, hd, he, gd.1, ge.1, .inl gd.2, by rw [hc]; exact q⟩
theorem eqD_refl {d : PyData} (g : GoodD d) : PyData.eqv d d = true := SeqAt.eqv_refl _ g.1
theorem lay_ints : ∀ ks : List Int, PyData.canLayAll0 (ks.map PyData.int) = true
  | [] => by simp [PyData.canLayAll0]
  | b :: bs => by simp [PyData.canLayAll0, PyData.canLay0, lay_ints bs]
theorem depth_ints : ∀ bs : List Int, PyData.depthAll (bs.map PyData.int) ≤ 1
  | [] => by simp [PyData.depthAll]
  | b :: bs => by
    have := depth_ints bs
    simp [PyData.depthAll, PyData.depth]
    try omega
theorem nats_ints (ks : List Nat) : (ks.map fun (k : Nat) => PyData.int (k : Int)) = (ks.map fun (k : Nat) => (k : Int)).map PyData.int := by simp
theorem natsD_eq (ks : List Nat) : natsD ks = intsD (ks.map fun (k : Nat) => (k : Int)) := by unfold natsD intsD; rw [nats_ints]
theorem goodInts (ks : List Int) : GoodD (intsD ks) := ⟨by unfold intsD; rw [lay_lst]; exact lay_ints ks, by
  have := depth_ints ks
  simp only [intsD, PyData.depth]; omega⟩
theorem goodNats (ks : List Nat) : GoodD (natsD ks) := natsD_eq ks ▸ goodInts _
theorem goodStand (st : List Bool) : GoodD (standD st) := ⟨by unfold standD; rw [lay_tup]; exact lay_bools st, by
  have := depth_bools st
  simp only [standD, PyData.depth]; omega⟩
theorem depth_stand (st : List Bool) : (standD st).depth ≤ 2 := by
  have := depth_bools st
  simp only [standD, PyData.depth]; omega
theorem lay_rows : ∀ rs : List (List Bool), PyData.canLayAll0 (rs.map standD) = true
  | [] => by simp [PyData.canLayAll0]
  | r :: rs => by simp [PyData.canLayAll0, (goodStand r).1, lay_rows rs]
theorem depth_rows : ∀ rs : List (List Bool), PyData.depthAll (rs.map standD) ≤ 2
  | [] => by simp [PyData.depthAll]
  | r :: rs => by
    have := depth_rows rs
    have := depth_stand r
    simp only [List.map_cons, PyData.depthAll]; omega
theorem goodRows (rs : List (List Bool)) : GoodD (rowsD rs) := ⟨by unfold rowsD; rw [lay_lst]; exact lay_rows rs, by
  have := depth_rows rs
  simp only [rowsD, PyData.depth]; omega⟩
def wordsD (ws : List Wd) : PyData := .list (ws.map Wd.data)
theorem goodWords {ws : List Wd} (h : ∀ x ∈ ws, x.depth ≤ 30) : GoodD (wordsD ws) := ⟨by unfold wordsD; rw [lay_lst]; exact datas_lay ws, by
  have := datas_depth h
  simp only [wordsD, PyData.depth]; omega⟩
theorem natsD_at {K : PySem.W.Frag} {H : Hp} {l : Addr} {ks : List Nat} (h : SqL K H l (nats ks)) : DAt K H (natsD ks) (.ref l) := .list h (DsAt.map (fun k => .int _) ks)
theorem intsD_at {K : PySem.W.Frag} {H : Hp} {l : Addr} {ks : List Int} (h : SqL K H l (ks.map V.int)) : DAt K H (intsD ks) (.ref l) := .list h (DsAt.map (fun k => .int _) ks)
theorem standD_at {K : PySem.W.Frag} {H : Hp} {a : Addr} {st : List Bool} (h : BAt H a st) : DAt K H (standD st) (.ref a) := .tuple (SqT.of h) (DsAt.map (fun k => .bool _) st)
theorem rowsD_ats {K : PySem.W.Frag} {H : Hp} : ∀ {rs : List (List Bool)} {vs : List V}, RowsAt' H rs vs → DsAt K H (rs.map standD) vs
  | _, _, .nil => .nil
  | _, _, .cons ⟨a, e, q⟩ t => .cons (e ▸ standD_at q) (rowsD_ats t)
theorem rowsD_at {K : PySem.W.Frag} {H : Hp} {l : Addr} {rs : List (List Bool)} {vs : List V} (h : SqL K H l vs) (r : RowsAt' H rs vs) : DAt K H (rowsD rs) (.ref l) := .list h (rowsD_ats r)
theorem wordsD_at {K : PySem.W.Frag} {H : Hp} {l : Addr} {ws : List Wd} {vs : List V} (h : SqL K H l vs) (r : WsAt H ws vs) : DAt K H (wordsD ws) (.ref l) := .list h (wsAt_datas r)
theorem emptyD_at {K : PySem.W.Frag} {H : Hp} {l : Addr} (h : H l = some (.lst [])) : DAt K H (natsD []) (.ref l) := .list (SqL.of h) .nil
theorem eqv_bools' : ∀ a b : List Bool, PyData.eqvAll (a.map PyData.bool) (b.map PyData.bool) = decide (a = b)
  | [], [] => by simp [PyData.eqvAll]
  | [], _ :: _ => by simp [PyData.eqvAll]
  | _ :: _, [] => by simp [PyData.eqvAll]
  | x :: a, y :: b => by
    have := eqv_bools' a b
    simp only [List.map_cons, PyData.eqvAll, this]
    cases x <;> cases y <;> simp [PyData.eqv]
theorem eqv_ints' : ∀ a b : List Int, PyData.eqvAll (a.map PyData.int) (b.map PyData.int) = decide (a = b)
  | [], [] => by simp [PyData.eqvAll]
  | [], _ :: _ => by simp [PyData.eqvAll]
  | _ :: _, [] => by simp [PyData.eqvAll]
  | x :: a, y :: b => by
    have := eqv_ints' a b
    simp only [List.map_cons, PyData.eqvAll, this]
    by_cases c : x = y
    · subst c; simp [PyData.eqv]
    · simp [PyData.eqv, c]
theorem eqv_stand (a b : List Bool) : PyData.eqv (standD a) (standD b) = decide (a = b) := by
  simp only [standD, PyData.eqv]; exact eqv_bools' a b
theorem eqv_ints (a b : List Int) : PyData.eqv (intsD a) (intsD b) = decide (a = b) := by
  simp only [intsD, PyData.eqv]; exact eqv_ints' a b
theorem eqv_nats (a b : List Nat) : PyData.eqv (natsD a) (natsD b) = decide (a = b) := by
  rw [natsD_eq, natsD_eq, eqv_ints]
  refine decide_eq_decide.mpr ⟨fun h => ?_, fun h => by rw [h]⟩
  have h2 := congrArg (List.map Int.toNat) h
  simpa [Function.comp_def] using h2
theorem eqv_empty (a : List Nat) : PyData.eqv (natsD a) (natsD []) = a.isEmpty := by
  rw [eqv_nats]; cases a <;> simp
theorem eqv_rows' : ∀ a b : List (List Bool), PyData.eqvAll (a.map standD) (b.map standD) = decide (a = b)
  | [], [] => by simp [PyData.eqvAll]
  | [], _ :: _ => by simp [PyData.eqvAll]
  | _ :: _, [] => by simp [PyData.eqvAll]
  | x :: a, y :: b => by
    have := eqv_rows' a b
    simp only [List.map_cons, PyData.eqvAll, this, eqv_stand]
    by_cases c : x = y <;> simp [c]
theorem eqv_rows (a b : List (List Bool)) : PyData.eqv (rowsD a) (rowsD b) = decide (a = b) := by
  simp only [rowsD, PyData.eqv]; exact eqv_rows' a b
theorem paired_get {α β : Type} {R : α → β → Prop} : ∀ {l : List α} {r : List β}, Paired R l r → ∀ {i : Nat} {y : β}, r[i]? = some y → ∃ x, l[i]? = some x ∧ R x y
  | _, _, .nil, i, y, e => by simp at e
  | _, _, .cons h t, 0, y, e => by simp at e; subst e; exact ⟨_, rfl, h⟩
  | _, _, .cons h t, i + 1, y, e => by
    obtain ⟨x, a, b⟩ := paired_get t (i := i) (y := y) (by simpa using e)
    exact ⟨x, by simpa using a, b⟩
theorem paired_get' {α β : Type} {R : α → β → Prop} : ∀ {l : List α} {r : List β}, Paired R l r → ∀ {i : Nat} {x : α}, l[i]? = some x → ∃ y, r[i]? = some y ∧ R x y
  | _, _, .nil, i, y, e => by simp at e
  | _, _, .cons h t, 0, y, e => by simp at e; subst e; exact ⟨_, rfl, h⟩
  | _, _, .cons h t, i + 1, y, e => by
    obtain ⟨x, a, b⟩ := paired_get' t (i := i) (x := y) (by simpa using e)
    exact ⟨x, by simpa using a, b⟩
/-- the room's own board -/
theorem room_bd {K : PySem.W.Frag} {H : Hp} {ns : List Int} {D b : Addr} {us : List V} (h1 : SqL K H D us) (h2 : WsAt H (roomBoard ns) us) (h3 : BAt H b (roomPressed ns)) : Bd K H D b (roomBoard ns) (roomPressed ns) :=
  ⟨⟨us, h1, h2⟩, h3, fun wd hm => by
    obtain ⟨i, hi, rfl⟩ := List.mem_iff_getElem.mp hm
    have := room_word (ns := ns) (i := i) (wd := (roomBoard ns)[i]) (by simp [hi])
    have e : (roomStand ns).length = (roomBoard ns).length := by simp [roomStand, bits_length, roomBoard]
    rw [e] at this
    exact this, by
    have := rRelays_in (cellAt ns 0)
    simp [roomBoard]; omega⟩
theorem room_stand (ns : List Int) : (roomStand ns).length = (roomBoard ns).length := by simp [roomStand, bits_length, roomBoard]
theorem room_pos (ns : List Int) : 1 ≤ (roomBoard ns).length := by
  have := rRelays_in (cellAt ns 0)
  simp [roomBoard]; omega
/-- a room in the heap, its parts -/
theorem RoomAt.mono {H H' : Hp} {ns : List Int} {p : Addr} (h : RoomAt H ns p) (s : Same H H') : RoomAt H' ns p := by
  obtain ⟨D, us, b, c, h1, h2, h3, h4, h5⟩ := h
  exact ⟨D, us, b, c, s _ _ h1, s _ _ h2, h3.mono s.tup, s _ _ h4, s _ _ h5⟩
end RR

end
section
set_option Elab.async false
set_option linter.all false
set_option maxRecDepth 100000
set_option maxHeartbeats 4000000
namespace RR
open PySem PySem.W L2
/-- moves walked: the stand behind them, or the refusal: 3 NoRelay, 4 Still -/
def walkI (ws : List Wd) (pr : List Bool) : List Bool → List Int → Sum Nat (List Bool)
  | st, [] => .inr st
  | st, m :: ms => if m < 0 ∨ (ws.length : Int) ≤ m then .inl 3 else if canM ws pr st m.toNat = true then walkI ws pr (flip st m.toNat) ms else .inl 4
theorem walkI_append (ws : List Wd) (pr : List Bool) : ∀ (a b : List Int) (st : List Bool), walkI ws pr st (a ++ b) = match walkI ws pr st a with
    | .inl k => .inl k
    | .inr st' => walkI ws pr st' b
  | [], b, st => rfl
  | m :: a, b, st => by
    simp only [List.cons_append, walkI]
    split
    · rfl
    · split
      · exact walkI_append ws pr a b _
      · rfl
theorem walkI_len {ws : List Wd} {pr : List Bool} : ∀ {ms : List Int} {st st' : List Bool}, walkI ws pr st ms = .inr st' → st'.length = st.length
  | [], st, st', h => by cases h; rfl
  | m :: ms, st, st', h => by
    simp only [walkI] at h
    split at h
    · cases h
    · split at h
      · rw [walkI_len h, flip_len]
      · cases h
theorem walkI_no {ws : List Wd} {pr : List Bool} : ∀ {ms : List Int} {st : List Bool} {k : Nat}, walkI ws pr st ms = .inl k → k = 3 ∨ k = 4
  | [], st, k, h => by cases h
  | m :: ms, st, k, h => by
    simp only [walkI] at h
    split at h
    · cases h; exact .inl rfl
    · split at h
      · exact walkI_no h
      · cases h; exact .inr rfl
def excM (c3 c4 : Addr) (k : Nat) : Addr := if k = 3 then c3 else c4
def spWalked (K : Frag) (c3 c4 : Addr) : Sp := fun vs H Q E => ∃ (D b a l : Addr) (ws : List Wd) (pr st : List Bool) (ms : List Int), vs = [.ref D, .ref b, .ref a, .ref l] ∧ Bd K H D b ws pr ∧ BAt H a st ∧ st.length = ws.length ∧ SqL K H l (ms.map V.int) ∧
  match walkI ws pr st ms with
  | .inr st' => ∀ p H', Same H H' → BAt H' p st' → Q (.ref p) H'
  | .inl k => ∀ H', Same H H' → E (.ref (excM c3 c4 k)) none H'
def spLList (K : Frag) : Sp := fun vs H Q _ => ∃ (l d : Addr) (ks : List Nat), vs = [.ref l, .ref d] ∧ H l = some (.lst (nats ks)) ∧ SqL K H d (nats ks) ∧ ks.length ≤ 1000 ∧ Q (.bl true) H
/-- what is seen of a raised class -/
structure MarkE (K : PySem.W.Frag) (c c0 c1 c2 c3 c4 c5 cr : Addr) (k : Nat) : Prop where
  ex : PySem.W.excIn K c VErr "ValueError.__new__" = true
  get : ExcGet K c
  m : PySem.W.mroIn K c (.ref cr) = some true
  j0 : PySem.W.kitOne K (.ref c) (.ref c0) = some (decide (0 = k))
  j1 : PySem.W.kitOne K (.ref c) (.ref c1) = some (decide (1 = k))
  j2 : PySem.W.kitOne K (.ref c) (.ref c2) = some (decide (2 = k))
  j3 : PySem.W.kitOne K (.ref c) (.ref c3) = some (decide (3 = k))
  j4 : PySem.W.kitOne K (.ref c) (.ref c4) = some (decide (4 = k))
  j5 : PySem.W.kitOne K (.ref c) (.ref c5) = some (decide (5 = k))
  jv : PySem.W.kitOne K (.ref c) (.type "ValueError") = some true
def spToldW (K : Frag) : Sp := fun vs H Q _ => ∃ (D b a l : Addr) (ws : List Wd) (pr st : List Bool) (ms : List Int), vs = [.ref D, .ref b, .ref a, .ref l] ∧ Bd K H D b ws pr ∧ BAt H a st ∧ st.length = ws.length ∧ SqL K H l (ms.map V.int) ∧
  ∀ p v m bs H', Same H H' → H' p = some (.tup [v, .ref m]) → H' m = some (.lst (bs.map V.bl)) → (match walkI ws pr st ms with
    | .inr st' => bs = [] ∧ ∃ x, v = .ref x ∧ BAt H' x st'
    | .inl k => bs = marksOf k) → Q (.ref p) H'
theorem inV_nats (r : Int) (ks : List Nat) : inV (.int r) (nats ks) = ks.any fun k => (k : Int) == r := by
  unfold inV nats
  rw [List.any_map]
  rfl
theorem flat_nats (ks : List Nat) : (nats ks).all flatV = true := by
  unfold nats
  rw [List.all_map]
  simp [flatV, Function.comp_def]
theorem nats_at {ks : List Nat} {i : Nat} (h : i < ks.length) : atI (nats ks) (i : Int) = some (.int (ks[i] : Nat)) := atI_nat (by simp [nats, h])
theorem four_ints {x y z u m : Int} : ∃ i : Int, atI [V.int x, .int y, .int z, .int u] (m % 4) = some (.int i) := by
  have h1 := Int.emod_nonneg m (show (4 : Int) ≠ 0 by decide)
  have h2 := Int.emod_lt_of_pos m (show (0 : Int) < 4 by decide)
  rcases (by omega : m % 4 = 0 ∨ m % 4 = 1 ∨ m % 4 = 2 ∨ m % 4 = 3) with e | e | e | e <;> rw [e]
  · exact ⟨_, atI_nat (j := 0) rfl⟩
  · exact ⟨_, atI_nat (j := 1) rfl⟩
  · exact ⟨_, atI_nat (j := 2) rfl⟩
  · exact ⟨_, atI_nat (j := 3) rfl⟩
end RR

end
section
set_option Elab.async false
set_option linter.all false
set_option maxRecDepth 100000
set_option maxHeartbeats 4000000
namespace L2
open PySem PySem.Spec PyProof.Rows
/-! ### a text walked, sign by sign -/
def Its (x : Str) : It := ⟨fun i _ => i < x.cps.size, fun i H v H' => H' = H ∧ ∃ c, x.cps[i]? = some c ∧ v = .str ⟨#[c]⟩, fun i _ => x.cps.size ≤ i⟩
theorem turn_str {P : Program} {w : World} {K : PySem.W.Frag} {tg : Expr} (x : Str) (t : Tok) (it : Addr) : Turn P w K tg (Its x) [it] it (fun i h => h.IsStrIter it "str_ascii_iterator" x t i) where
  mem := by simp
  obj := fun i h st b hb => by
    have e : b = it := by simpa using hb
    subst e
    obtain ⟨o, e, c, d⟩ := st
    exact ⟨o, e, fun v z => by rw [d] at z; cases z⟩
  keep := fun i h h' st k => let ⟨o, ho, r⟩ := st; ⟨o, k it (by simp) o ho, r⟩
  item := by
    intro X hP hw hK hc i pins s σ H E I hf st hg
    subst hP hw hK
    have hg' : i < x.cps.size := hg
    obtain ⟨f0, f1, f2, f3, f4, f5⟩ := hf it (by simp)
    refine wpAny_pyNext_ascii_item st (c := x.cps[i]) (by simp [hg']) fun h' st' sb => ?_
    have I1 : Inv X pins σ H { s with heap := h', toks := s.toks + 1 } := I.turned (t' := s.toks + 1) (fun b o hb e => (sb.2 b hb).trans e) f0 f1 f3 f4 f5
    obtain ⟨o, e, c, d⟩ := id st'
    exact ⟨_, rfl, go_of (s := { s with heap := h', toks := s.toks + 1 }) e c d (by decide) ⟨.str ⟨#[x.cps[i]]⟩, H, I1, ⟨_, rfl⟩, ⟨rfl, x.cps[i], by simp [hg'], rfl⟩, st', fun b hb => (hf b hb).1⟩⟩
  done := by
    intro X hP hw hK hc i pins s σ H E I hf st hg
    subst hP hw hK
    have hg' : x.cps.size ≤ i := hg
    obtain ⟨f0, f1, f2, f3, f4, f5⟩ := hf it (by simp)
    exact wpAny_pyNext_ascii_end (I.ok.hd hc) st (by simp [hg']) fun h' eb => ⟨rfl, I.turned (t' := s.toks) (fun b o hb e => eb b o hb e) f0 f1 f3 f4 f5⟩
  self := fun _ _ _ _ _ st h => wpAny_pyIter_striter_ascii st h
def iStr (tl : TE) : TI := fun σ H R => tl σ H fun v H1 => ∃ x, v = .str x ∧ x.cps.all (· < 128) = true ∧ R (Its x) H1
section
variable {X : Cx} {tg : Expr}
theorem pi_str {l : Expr} {tl : TE} (hl : PE X l tl) : PI X tg l (iStr tl) := by
  intro pins s σ H R I h
  refine thn (hl pins s σ H _ I h) fun v s1 ⟨x, H1, I1, r1, q1⟩ => ?_
  obtain ⟨z, e, ha, q⟩ := q1
  subst e
  obtain ⟨t, rfl⟩ := r1
  refine wpAny_pyIter_ascii ha ?_
  refine ⟨s1.heap.objs.size, [s1.heap.objs.size], _, _, H1, rfl, I1.kept (t' := s1.toks) fun b o e => Heap.get?_push_of_some _ e, turn_str z t _, ⟨_, Heap.get?_push_size _ rfl, rfl, rfl⟩, fun b hb => ?_, q⟩
  have e : b = s1.heap.objs.size := by simpa using hb
  subst e
  exact I1.fpOk (Nat.le_refl _) (I1.hok.fresh (Nat.le_refl _))
end
theorem for_str {x : Str} {g : TG} {tb : TS} {D : Ends} {σ : St} {H : Hp} (Pv : Nat → St → Hp → Prop) (h0 : Pv 0 σ H)
    (hs : ∀ i c σ H, x.cps[i]? = some c → Pv i σ H → g (.str ⟨#[c]⟩) σ H fun σ2 H2 => tb { D with nx := Pv (i + 1), ct := Pv (i + 1), bk := D.nx } σ2 H2) (hd : ∀ σ H, Pv x.cps.size σ H → D.nx σ H) :
    ∃ W : Nat → Nat → St → Hp → Prop, (∃ m, W 0 m σ H) ∧ ∀ i m σ H, W i m σ H →
      ((Its x).stop i H ∧ D.nx σ H) ∨ ((Its x).go i H ∧ ∃ N : St → Hp → Prop, (∀ σ' H', N σ' H' → ∃ m', m' < m ∧ W (i + 1) m' σ' H') ∧ ∀ y H', (Its x).yld i H y H' → g y σ H' fun σ2 H2 => tb { D with nx := N, ct := N, bk := D.nx } σ2 H2) := by
  refine ⟨fun i m σ H => m = x.cps.size - i ∧ i ≤ x.cps.size ∧ Pv i σ H, ⟨x.cps.size, by simp, Nat.zero_le _, h0⟩, ?_⟩
  rintro i m σ H ⟨rfl, hi, hP⟩
  by_cases hlt : i < x.cps.size
  · refine .inr ⟨hlt, Pv (i + 1), fun σ' H' h => ⟨x.cps.size - (i + 1), by omega, rfl, hlt, h⟩, ?_⟩
    rintro y H' ⟨e1, c, e2, rfl⟩
    subst e1
    exact hs i c σ _ e2 hP
  · have e : i = x.cps.size := by omega
    subst e
    exact .inl ⟨Nat.le_refl _, hd σ H hP⟩
/-! ### methods of texts -/
theorem vals_strs : ∀ {ss : List Str} {us : List Value}, Vals (ss.map V.str) us → ∃ l : List (Str × Tok), us = strValues l ∧ l.map (·.1) = ss
  | [], _, .nil => ⟨[], rfl, rfl⟩
  | x :: ss, _, .cons r rt => by
    obtain ⟨l, h1, h2⟩ := vals_strs rt
    obtain ⟨t, rfl⟩ := r
    exact ⟨(x, t) :: l, by rw [h1]; rfl, by rw [List.map_cons, h2]⟩
theorem strs_vals : ∀ (n : Nat) (ss : List Str), Vals (ss.map V.str) (strsFrom n ss)
  | _, [] => .nil
  | n, x :: ss => .cons ⟨_, rfl⟩ (strs_vals (n + 1) ss)
section
variable {X : Cx}
def rJoin (K : PySem.W.Frag) : V → List V → Hp → VK → Prop := fun x vs H Q => ∃ sep a ss, x = .str sep ∧ vs = [.ref a] ∧ SqL K H a (ss.map V.str) ∧ (Builtin.Str.glued sep ss).length ≤ sizeLine ∧ Builtin.Str.tooLong (ss.toArray.foldl (· + ·.length + sep.length) 0) = false ∧ Q (.str (Builtin.Str.glued sep ss)) H
theorem mt_join {K : PySem.W.Frag} (hK : X.K = K) : MtR X "str.join" (rJoin K) := by
  subst hK
  intro pins s σ H x xs v us Q I rx r h
  obtain ⟨sep, a, ss, rfl, rfl, hl, hgl, hz, q⟩ := h
  obtain ⟨t, rfl⟩ := rx
  obtain ⟨u, rfl, ru⟩ := vals1 r
  cases ru
  obtain ⟨its, rv, p, hz2⟩ := I.list hl
  obtain ⟨l, rfl, hm⟩ := vals_strs rv
  subst hm
  refine call_meets PySem.F.slot_str_join (typeIs_str s sep t) PySem.F.entry_str_join (PySem.F.args_str_join_2 _ _) (meets_str_join_list sep t a l hz) ⟨p.isList, ?_⟩
  cases l with
  | nil => exact ⟨hgl, .str _, H, I.tok _, ⟨_, rfl⟩, q⟩
  | cons p1 l =>
    cases l with
    | nil => exact ⟨.str p1.1, H, I, ⟨_, rfl⟩, q⟩
    | cons p2 l => exact ⟨hgl, .str _, H, I.tok _, ⟨_, rfl⟩, q⟩
def rIndex : V → List V → Hp → VK → Prop := fun x vs H Q => ∃ z y i rest, x = .str z ∧ vs = [.str y] ∧ Builtin.Str.occurrences z y 0 z.length 1 = i :: rest ∧ Q (.int (i : Nat)) H
theorem mt_index : MtR X "str.index" rIndex := by
  intro pins s σ H x xs v us Q I rx r h
  obtain ⟨z, y, i, rest, rfl, rfl, hz, q⟩ := h
  obtain ⟨t, rfl⟩ := rx
  obtain ⟨u, rfl, t', rfl⟩ := vals1 r
  exact call_gives PySem.F.slot_str_index (typeIs_str s z t) PySem.F.entry_str_index (PySem.F.args_str_index_2 _ _) (gives_str_index z y t t' i rest hz) ⟨.int i, H, I.tok _, ⟨_, rfl⟩, q⟩
end
end L2
namespace L2
open PySem PySem.Spec PyProof.Rows
section
variable {X : Cx}
def rSplit : V → List V → Hp → VK → Prop := fun x vs H Q => ∃ z y, x = .str z ∧ vs = [.str y] ∧ (y.length == 0) = false ∧ z.length ≤ 1000 ∧ ∀ l, H l = none → Q (.ref l) (upd H l (.lst ((Txt.split z y).map V.str)))
theorem mt_split : MtR X "str.split" rSplit := by
  intro pins s σ H x xs v us Q I rx r h
  obtain ⟨z, y, rfl, rfl, hy, hz, q⟩ := h
  obtain ⟨t, rfl⟩ := rx
  obtain ⟨u, rfl, t', rfl⟩ := vals1 r
  have hn := I.hok.fresh (Nat.le_refl s.heap.objs.size)
  have hle := split_le z y
  have one : ∀ tk : Nat, Txt.split z y = [z] → EP X pins σ Q (.ref s.heap.objs.size) { s with heap := s.heap.push { cls := .type "list", data := .seq #[.str z t] } } := fun tk e =>
    ⟨.ref s.heap.objs.size, _, I.laid (a := s.heap.objs.size) (o := .lst ((Txt.split z y).map V.str)) (t' := s.toks) (fun _ _ q => Heap.get?_push_of_some _ q) (Nat.le_refl _) ⟨by rw [e]; show 1 ≤ sizeLine; decide, [.str z t], 0, by rw [e]; exact .cons ⟨_, rfl⟩ .nil, Heap.get?_push_size _ rfl⟩, rfl, q _ hn⟩
  cases h1 : (decide (z.length < y.length) || decide (Builtin.Str.strKind z < Builtin.Str.strKind y)) with
  | true => exact call_meets PySem.F.slot_str_split (typeIs_str s z t) PySem.F.entry_str_split (PySem.F.args_str_split_2 _ _) (meets_str_split_cannot_occur z y t t' h1) (one 0 (by unfold Txt.split; rw [if_pos h1]))
  | false =>
    cases hf : (Builtin.Str.occurrences z y 0 z.length (z.length + 1)).isEmpty with
    | true => exact call_meets PySem.F.slot_str_split (typeIs_str s z t) PySem.F.entry_str_split (PySem.F.args_str_split_2 _ _) (meets_str_split_not_found z y t t' h1 hy hf) (one 0 (by unfold Txt.split; rw [if_neg (by rw [h1]; decide), if_pos hf]))
    | false =>
      have e : Txt.split z y = Builtin.Str.partsBetween z (Builtin.Str.occurrences z y 0 z.length (z.length + 1)) y.length := by unfold Txt.split; rw [if_neg (by rw [h1]; decide), if_neg (by rw [hf]; decide)]
      rw [e] at q hle
      have hsz : (Builtin.Str.partsBetween z (Builtin.Str.occurrences z y 0 z.length (z.length + 1)) y.length).length ≤ sizeLine := by rw [sizeLine_eq]; omega
      refine call_meets PySem.F.slot_str_split (typeIs_str s z t) PySem.F.entry_str_split (PySem.F.args_str_split_2 _ _) (meets_str_split_sep z y t t' h1 hy hf (by rw [sizeLine_eq]; omega) hsz) ?_
      exact ⟨.ref s.heap.objs.size, _, I.laid (a := s.heap.objs.size) (o := .lst (_)) (t' := _) (fun _ _ q => Heap.get?_push_of_some _ q) (Nat.le_refl _) ⟨by rw [List.length_map]; exact hsz, _, 0, strs_vals _ _, Heap.get?_push_size _ rfl⟩, rfl, q _ hn⟩
end
end L2

end
section
set_option Elab.async false
set_option linter.all false
set_option maxRecDepth 100000
set_option maxHeartbeats 4000000
namespace L2
open PySem PySem.Spec PyProof.Rows
/-! ### a dict of two texts that the module holds -/
def gObj (w : World) (k1 v1 k2 v2 : Str) (t1 t2 t3 t4 : Tok) (ep : Nat) : Obj :=
  { cls := .type "dict", data := .dict #[⟨PyData.keyHash w.params k1, .str k1 t1, .str v1 t2⟩, ⟨PyData.keyHash w.params k2, .str k2 t3, .str v2 t4⟩] ep }
structure GD (K : PySem.W.Frag) (w : World) (a : Addr) (k1 v1 k2 v2 : Str) : Prop where
  obj : ∃ t1 t2 t3 t4 ep, K.lookup a = some (gObj w k1 v1 k2 v2 t1 t2 t3 t4 ep)
  sys : (a == sysModules) = false
  ne : k1 ≠ k2
def gval (k1 v1 k2 v2 k : Str) : Option Str := if k1 = k then some v1 else if k2 = k then some v2 else none
theorem GD.dict {K : PySem.W.Frag} {P : Program} {w : World} {a : Addr} {k1 v1 k2 v2 : Str} (g : GD K w a k1 v1 k2 v2) {h : Heap} (I : K.In h) : ∃ t2 t4, h.DictOf (mixKind P w) a [(.inr k1, .str v1 t2), (.inr k2, .str v2 t4)] := by
  obtain ⟨t1, t2, t3, t4, ep, e⟩ := g.obj
  refine ⟨t2, t4, _, _, _, I _ _ e, ⟨rfl, rfl, rfl⟩, rfl, ?_, ?_, ?_⟩
  · intro x hx
    have hx' : x = ⟨PyData.keyHash w.params k1, .str k1 t1, .str v1 t2⟩ ∨ x = ⟨PyData.keyHash w.params k2, .str k2 t3, .str v2 t4⟩ := by simpa using hx
    rcases hx' with rfl | rfl
    · exact ⟨.inr k1, mixKind_str P w _ _, rfl⟩
    · exact ⟨.inr k2, mixKind_str P w _ _, rfl⟩
  · exact .cons (mixKind_str P w _ _) rfl (.cons (mixKind_str P w _ _) rfl .nil)
  · have := g.ne
    simp only [List.map_cons, List.map_nil, List.nodup_cons, List.mem_cons, List.not_mem_nil, or_false, not_false_eq_true, List.nodup_nil, and_true]
    exact fun z => this (Sum.inr.inj z)
theorem gval_at {k1 v1 k2 v2 k : Str} {t2 t4 : Tok} : (valueAt [((Sum.inr k1 : Key), Value.str v1 t2), (.inr k2, .str v2 t4)] (.inr k)).isSome = (gval k1 v1 k2 v2 k).isSome ∧ ∀ v, gval k1 v1 k2 v2 k = some v → ∃ t, valueAt [((Sum.inr k1 : Key), Value.str v1 t2), (.inr k2, .str v2 t4)] (.inr k) = some (.str v t) := by
  unfold valueAt gval
  by_cases c1 : k1 = k
  · simp [c1]
  · by_cases c2 : k2 = k
    · simp [c1, c2]
    · simp [c1, c2]
section
variable {X : Cx} {pins : List (Addr × Obj)} {σ : St} {H : Hp} {s : Shared} {a : Addr} {k1 v1 k2 v2 : Str}
/-- y in d, d[y] -/
def tGIn (k1 v1 k2 v2 : Str) (ty : TE) : TE := fun σ H Q => ty σ H fun y H1 => ∃ k, y = .str k ∧ Q (.bl (gval k1 v1 k2 v2 k).isSome) H1
def tGGet (k1 v1 k2 v2 : Str) (ty : TE) : TE := fun σ H Q => ty σ H fun y H1 => ∃ k v, y = .str k ∧ gval k1 v1 k2 v2 k = some v ∧ Q (.str v) H1
theorem pc_gin {i : Expr} {x : Str} {ty : TE} {pos : Pos} (g : GD X.K X.w a k1 v1 k2 v2) (hg : Gl X x) (hm : X.mg x = some (.ref a)) (hi : PE X i ty) (hd : (x == ("__debug__" : Str)) = false := by decide) : PC X .In i (.Name x pos) (tGIn k1 v1 k2 v2 ty) := by
  intro pins s σ H Q I h
  refine thn (hi pins s σ H _ I h) fun iv s1 ⟨y, H1, I1, ry, k, ey, q1⟩ => thn ((pe_glob (v := .ref a) hg hm rfl hd) pins s1 σ H1 (fun v H2 => v = .ref a ∧ H2 = H1) I1 ⟨rfl, rfl⟩) fun u s2 ⟨x2, H2, I2, rx, e1, e2⟩ => ?_
  subst e1 e2 ey
  obtain rfl : u = Value.ref a := rx
  obtain ⟨t, rfl⟩ := ry
  obtain ⟨t2, t4, dd⟩ := g.dict (P := X.prog) I2.kIn
  refine wpAny_in_of (k := .inr k) (mixKind_str X.prog X.w k t) g.sys dd.mapOf ?_
  rw [gval_at.1]
  exact ⟨.bl _, H2, I2.tok _, rfl, q1⟩
theorem pe_gget {i : Expr} {x : Str} {ty : TE} {pos pos' : Pos} (g : GD X.K X.w a k1 v1 k2 v2) (hg : Gl X x) (hm : X.mg x = some (.ref a)) (hi : PE X i ty) (hs : NoSl i) (hd : (x == ("__debug__" : Str)) = false := by decide) : PE X (.Subscript (.Name x pos) i pos') (tGGet k1 v1 k2 v2 ty) := by
  intro pins s σ H Q I h
  refine subD_of PySem.F.slot_dict_getitem.lookup hs (thn ((pe_glob (v := .ref a) hg hm rfl hd) pins s σ H (fun v H2 => v = .ref a ∧ H2 = H) I ⟨rfl, rfl⟩) fun u s1 ⟨x1, H1, I1, rx, e1, e2⟩ => ?_)
  subst e1 e2
  obtain rfl : u = Value.ref a := rx
  refine thn (hi pins s1 σ H1 _ I1 h) fun iv s2 ⟨y, H2, I2, ry, k, v, ey, hv, q2⟩ => ?_
  subst ey
  obtain ⟨t, rfl⟩ := ry
  obtain ⟨t2, t4, dd⟩ := g.dict (P := X.prog) I2.kIn
  obtain ⟨t', hw⟩ := (gval_at (t2 := t2) (t4 := t4)).2 v hv
  exact ⟨dd.typeIs, wpAny_getItem_of (k := .inr k) (mixKind_str X.prog X.w k t) dd.mapOf hw ⟨.str v, H2, I2.tok _, ⟨_, rfl⟩, q2⟩⟩
end
end L2
namespace L2
open PySem PyProof.Rows
/-- x in a tuple of data -/
def rInTD (K : PySem.W.Frag) (neg : Bool) : R2 := fun x y H Q => ∃ d xs, DAt K H d x ∧ DAt K H (.tuple xs) y ∧ d.canLay0 = true ∧ PyData.canLayAll0 xs = true ∧ PyData.depthAll xs ≤ 60 ∧ Q (.bl (if neg then !(xs.any fun e => PyData.eqv e d) else xs.any fun e => PyData.eqv e d)) H
theorem op_inTD {X : Cx} {K : PySem.W.Frag} (h : X.K = K) (hu : X.A.units + 64 < cLine) : OpR X (compareOp .In) (rInTD K false) := by
  subst h
  intro pins s σ H x y v u Q I rx ry q
  obtain ⟨d, xs, hd, he, cd, ce, dd, q⟩ := q
  obtain ⟨as, ra⟩ := hd.reads I rx
  obtain ⟨bs, rb⟩ := he.reads I ry
  exact SeqAt.in_tuple_reads rb ra ce cd (by omega) ⟨.bl _, H, I, rfl, q⟩
theorem op_notInTD {X : Cx} {K : PySem.W.Frag} (h : X.K = K) (hu : X.A.units + 64 < cLine) : OpR X (compareOp .NotIn) (rInTD K true) := by
  subst h
  intro pins s σ H x y v u Q I rx ry q
  obtain ⟨d, xs, hd, he, cd, ce, dd, q⟩ := q
  obtain ⟨as, ra⟩ := hd.reads I rx
  obtain ⟨bs, rb⟩ := he.reads I ry
  exact SeqAt.notIn_tuple_reads rb ra ce cd (by omega) ⟨.bl _, H, I, rfl, q⟩
end L2

end
section
set_option Elab.async false
set_option linter.all false
set_option maxRecDepth 100000
set_option maxHeartbeats 4000000
namespace RR
open PySem PySem.W L2
/-! ### words as they are written -/
def sig : Wd → List Nat
  | .on => [49]
  | .off => [48]
  | .relay k => [114, 48 + k.toNat]
  | .button k => [98, 48 + k.toNat]
  | .nt a => 33 :: sig a
  | .an a b => 40 :: (sig a ++ 38 :: (sig b ++ [41]))
  | .or a b => 40 :: (sig a ++ 124 :: (sig b ++ [41]))
def txt (w : Wd) : Str := ⟨(sig w).toArray⟩
theorem sig_len : ∀ w : Wd, (sig w).length + 3 ≤ 5 * 2 ^ w.depth
  | .on => by decide
  | .off => by decide
  | .relay k => by show 2 + 3 ≤ 5 * 2 ^ 1; decide
  | .button k => by show 2 + 3 ≤ 5 * 2 ^ 1; decide
  | .nt a => by
    have := sig_len a
    show (sig a).length + 1 + 3 ≤ 5 * 2 ^ (a.depth + 1)
    rw [Nat.pow_succ]
    omega
  | .an a b => by
    have h1 := sig_len a
    have h2 := sig_len b
    have e1 : 2 ^ a.depth ≤ 2 ^ max a.depth b.depth := Nat.pow_le_pow_right (by decide) (by omega)
    have e2 : 2 ^ b.depth ≤ 2 ^ max a.depth b.depth := Nat.pow_le_pow_right (by decide) (by omega)
    have : (sig (.an a b)).length = (sig a).length + (sig b).length + 3 := by simp [sig]; omega
    rw [this]
    show _ ≤ 5 * 2 ^ (max a.depth b.depth + 1)
    rw [Nat.pow_succ]
    omega
  | .or a b => by
    have h1 := sig_len a
    have h2 := sig_len b
    have e1 : 2 ^ a.depth ≤ 2 ^ max a.depth b.depth := Nat.pow_le_pow_right (by decide) (by omega)
    have e2 : 2 ^ b.depth ≤ 2 ^ max a.depth b.depth := Nat.pow_le_pow_right (by decide) (by omega)
    have : (sig (.or a b)).length = (sig a).length + (sig b).length + 3 := by simp [sig]; omega
    rw [this]
    show _ ≤ 5 * 2 ^ (max a.depth b.depth + 1)
    rw [Nat.pow_succ]
    omega
/-! ### the pile, its top first -/
inductive PItem where
  | sg (c : Nat) | wd (w : Wd)
def put : List PItem → Wd → List PItem
  | .sg c :: r, w => if c = 33 then put r (.nt w) else .wd w :: .sg c :: r
  | p, w => .wd w :: p
def isRB : List PItem → Bool
  | .sg c :: _ => c == 114 || c == 98
  | _ => false
def closeP : List PItem → Option (List PItem)
  | .wd b :: .sg j :: .wd a :: .sg o :: r => if o = 40 ∧ (j = 38 ∨ j = 124) then some (put r (if j = 38 then .an a b else .or a b)) else none
  | _ => none
def stepP (p : List PItem) (c : Nat) : Option (List PItem) :=
  if 48 ≤ c ∧ c ≤ 57 ∧ isRB p = true then
    match p with
    | .sg d :: r => some (put r (if d = 114 then .relay ((c - 48 : Nat) : Int) else .button ((c - 48 : Nat) : Int)))
    | _ => none
  else if c = 49 then some (put p .on)
  else if c = 48 then some (put p .off)
  else if c = 41 then closeP p
  else some (.sg c :: p)
theorem run_sig : ∀ w : Wd, w.ok 10 10 → ∀ (p : List PItem) (rest : List Nat), isRB p = false → (sig w ++ rest).foldlM stepP p = rest.foldlM stepP (put p w)
  | .on, _, p, rest, h => by simp [sig, stepP, h]
  | .off, _, p, rest, h => by simp [sig, stepP, h]
  | .relay k, hk, p, rest, h => by
    have h0 : 0 ≤ k ∧ k < 10 := hk
    have e : ((48 + k.toNat - 48 : Nat) : Int) = k := by omega
    have c1 : 48 ≤ 48 + k.toNat ∧ 48 + k.toNat ≤ 57 ∧ isRB (.sg 114 :: p) = true := ⟨by omega, by omega, rfl⟩
    simp only [sig, List.cons_append, List.nil_append, List.foldlM_cons]
    have s1 : stepP p 114 = some (.sg 114 :: p) := by simp [stepP]
    have s2 : stepP (.sg 114 :: p) (48 + k.toNat) = some (put p (.relay k)) := by
      unfold stepP
      rw [if_pos c1]
      simp only [if_true, e]
    rw [s1]
    simp only [Option.bind_eq_bind, Option.bind_some]
    rw [s2]
    rfl
  | .button k, hk, p, rest, h => by
    have h0 : 0 ≤ k ∧ k < 10 := hk
    have e : ((48 + k.toNat - 48 : Nat) : Int) = k := by omega
    have c1 : 48 ≤ 48 + k.toNat ∧ 48 + k.toNat ≤ 57 ∧ isRB (.sg 98 :: p) = true := ⟨by omega, by omega, rfl⟩
    simp only [sig, List.cons_append, List.nil_append, List.foldlM_cons]
    have s1 : stepP p 98 = some (.sg 98 :: p) := by simp [stepP]
    have s2 : stepP (.sg 98 :: p) (48 + k.toNat) = some (put p (.button k)) := by
      unfold stepP
      rw [if_pos c1]
      simp only [Nat.reduceEqDiff, if_false, e]
    rw [s1]
    simp only [Option.bind_eq_bind, Option.bind_some]
    rw [s2]
    rfl
  | .nt a, hk, p, rest, h => by
    simp only [sig, List.cons_append, List.foldlM_cons]
    have s1 : stepP p 33 = some (.sg 33 :: p) := by simp [stepP]
    rw [s1]
    simp only [Option.bind_eq_bind, Option.bind_some]
    rw [run_sig a hk (.sg 33 :: p) rest rfl]
    simp [put]
  | .an a b, hk, p, rest, h => by
    have s1 : stepP p 40 = some (.sg 40 :: p) := by simp [stepP]
    have s2 : stepP (.wd a :: .sg 40 :: p) 38 = some (.sg 38 :: .wd a :: .sg 40 :: p) := by simp [stepP]
    have s3 : stepP (.wd b :: .sg 38 :: .wd a :: .sg 40 :: p) 41 = some (put p (.an a b)) := by simp [stepP, closeP]
    have e : sig (.an a b) ++ rest = 40 :: (sig a ++ (38 :: (sig b ++ (41 :: rest)))) := by simp [sig]
    rw [e]
    simp only [List.foldlM_cons, s1, Option.bind_eq_bind, Option.bind_some]
    rw [run_sig a hk.1 (.sg 40 :: p) _ rfl]
    have p1 : put (.sg 40 :: p) a = .wd a :: .sg 40 :: p := by simp [put]
    rw [p1]
    simp only [List.foldlM_cons, s2, Option.bind_eq_bind, Option.bind_some]
    rw [run_sig b hk.2 (.sg 38 :: .wd a :: .sg 40 :: p) _ rfl]
    have p2 : put (.sg 38 :: .wd a :: .sg 40 :: p) b = .wd b :: .sg 38 :: .wd a :: .sg 40 :: p := by simp [put]
    rw [p2]
    simp only [List.foldlM_cons, s3, Option.bind_eq_bind, Option.bind_some]
  | .or a b, hk, p, rest, h => by
    have s1 : stepP p 40 = some (.sg 40 :: p) := by simp [stepP]
    have s2 : stepP (.wd a :: .sg 40 :: p) 124 = some (.sg 124 :: .wd a :: .sg 40 :: p) := by simp [stepP]
    have s3 : stepP (.wd b :: .sg 124 :: .wd a :: .sg 40 :: p) 41 = some (put p (.or a b)) := by simp [stepP, closeP]
    have e : sig (.or a b) ++ rest = 40 :: (sig a ++ (124 :: (sig b ++ (41 :: rest)))) := by simp [sig]
    rw [e]
    simp only [List.foldlM_cons, s1, Option.bind_eq_bind, Option.bind_some]
    rw [run_sig a hk.1 (.sg 40 :: p) _ rfl]
    have p1 : put (.sg 40 :: p) a = .wd a :: .sg 40 :: p := by simp [put]
    rw [p1]
    simp only [List.foldlM_cons, s2, Option.bind_eq_bind, Option.bind_some]
    rw [run_sig b hk.2 (.sg 124 :: .wd a :: .sg 40 :: p) _ rfl]
    have p2 : put (.sg 124 :: .wd a :: .sg 40 :: p) b = .wd b :: .sg 124 :: .wd a :: .sg 40 :: p := by simp [put]
    rw [p2]
    simp only [List.foldlM_cons, s3, Option.bind_eq_bind, Option.bind_some]
theorem parse_sig {w : Wd} (h : w.ok 10 10) : (sig w).foldlM stepP [] = some [.wd w] := by
  have := run_sig w h [] [] rfl
  rw [List.append_nil] at this
  rw [this]
  rfl
end RR

end
section
set_option Elab.async false
set_option linter.all false
set_option maxRecDepth 100000
set_option maxHeartbeats 4000000
namespace RR
open PySem PySem.W L2
def glueL (c : Nat) : List (List Nat) → List Nat
  | [] => []
  | [x] => x
  | x :: y :: r => x ++ c :: glueL c (y :: r)
theorem glue_inj_aux {c : Nat} : ∀ {a b x y : List Nat}, c ∉ a → c ∉ b → a ++ c :: x = b ++ c :: y → a = b ∧ x = y
  | [], [], x, y, _, _, h => by simpa using h
  | [], d :: b, x, y, _, hb, h => by
    have : c = d := by injection h
    exact absurd (by simp [this]) hb
  | d :: a, [], x, y, ha, _, h => by
    have : d = c := by injection h
    exact absurd (by simp [this]) ha
  | d :: a, e :: b, x, y, ha, hb, h => by
    have h1 : d = e ∧ a ++ c :: x = b ++ c :: y := by simpa using h
    obtain ⟨h2, h3⟩ := glue_inj_aux (a := a) (b := b) (fun z => ha (by simp [z])) (fun z => hb (by simp [z])) h1.2
    exact ⟨by rw [h1.1, h2], h3⟩
theorem glue_inj {c : Nat} : ∀ (ps qs : List (List Nat)), ps ≠ [] → qs ≠ [] → (∀ z ∈ ps, c ∉ z) → (∀ z ∈ qs, c ∉ z) → glueL c ps = glueL c qs → ps = qs
  | [], _, h, _, _, _, _ => absurd rfl h
  | _, [], _, h, _, _, _ => absurd rfl h
  | [a], [b], _, _, _, _, h => by simpa [glueL] using h
  | [a], b :: b2 :: r, _, _, ha, hb, h => by
    have : c ∈ a := by
      have h' : a = b ++ c :: glueL c (b2 :: r) := h
      rw [h']
      simp
    exact absurd this (ha a (by simp))
  | a :: a2 :: r, [b], _, _, ha, hb, h => by
    have : c ∈ b := by
      have h' : a ++ c :: glueL c (a2 :: r) = b := h
      rw [← h']
      simp
    exact absurd this (hb b (by simp))
  | a :: a2 :: r, b :: b2 :: t, _, _, ha, hb, h => by
    obtain ⟨h1, h2⟩ := glue_inj_aux (ha a (by simp)) (hb b (by simp)) (show a ++ c :: glueL c (a2 :: r) = b ++ c :: glueL c (b2 :: t) from h)
    have := glue_inj (a2 :: r) (b2 :: t) (by simp) (by simp) (fun z hz => ha z (by simp at hz ⊢; right; exact hz)) (fun z hz => hb z (by simp at hz ⊢; right; exact hz)) h2
    rw [h1, this]
theorem join_list (c : Nat) : ∀ ss : List Str, (Str.join ⟨#[c]⟩ ss).cps.toList = glueL c (ss.map fun z => z.cps.toList)
  | [] => rfl
  | [x] => rfl
  | x :: y :: r => by
    have ih := join_list c (y :: r)
    have e : (Str.join ⟨#[c]⟩ (x :: y :: r)).cps.toList = x.cps.toList ++ c :: (Str.join ⟨#[c]⟩ (y :: r)).cps.toList := by
      show (x.cps ++ #[c] ++ (Str.join ⟨#[c]⟩ (y :: r)).cps).toList = _
      simp
    rw [e, ih]
    rfl
theorem split_glued {c : Nat} {ss : List Str} (hne : ss ≠ []) (hf : ∀ z ∈ ss, c ∉ z.cps.toList) : Txt.split (Builtin.Str.glued ⟨#[c]⟩ ss) ⟨#[c]⟩ = ss := by
  have h1 := StrLaws.join_split (Builtin.Str.glued ⟨#[c]⟩ ss) ⟨#[c]⟩
  have h2 := StrLaws.split_free (Builtin.Str.glued ⟨#[c]⟩ ss) c
  have h3 := PyProof.Rows.split_pos (Builtin.Str.glued ⟨#[c]⟩ ss) ⟨#[c]⟩
  generalize hP : Txt.split (Builtin.Str.glued ⟨#[c]⟩ ss) ⟨#[c]⟩ = ps at *
  have h4 : (Str.join ⟨#[c]⟩ ps).cps.toList = (Str.join ⟨#[c]⟩ ss).cps.toList := by rw [h1, StrLaws.glued_eq_join]
  rw [join_list, join_list] at h4
  have hp : ps ≠ [] := fun z => by rw [z] at h3; simp at h3
  have := glue_inj (c := c) _ _ (by simpa using hp) (by simpa using hne) (fun z hz => by
    obtain ⟨q, hq, rfl⟩ := List.mem_map.mp hz
    exact h2 q hq) (fun z hz => by
    obtain ⟨q, hq, rfl⟩ := List.mem_map.mp hz
    exact hf q hq) h4
  have inj : ∀ {a b : List Str}, (a.map fun z => z.cps.toList) = (b.map fun z => z.cps.toList) → a = b := by
    intro a b hab
    refine (List.map_inj_right (f := fun z : Str => z.cps.toList) fun x y e => ?_).mp hab
    cases x
    cases y
    simpa using e
  exact inj this
theorem sig_free : ∀ w : Wd, w.ok 10 10 → ∀ c ∈ sig w, c ≠ 59 ∧ c < 128
  | .on, _, c, h => by simp [sig] at h; omega
  | .off, _, c, h => by simp [sig] at h; omega
  | .relay k, hk, c, h => by
    have h0 : 0 ≤ k ∧ k < 10 := hk
    simp [sig] at h
    omega
  | .button k, hk, c, h => by
    have h0 : 0 ≤ k ∧ k < 10 := hk
    simp [sig] at h
    omega
  | .nt a, hk, c, h => by
    simp [sig] at h
    rcases h with rfl | h
    · omega
    · exact sig_free a hk c h
  | .an a b, hk, c, h => by
    simp [sig] at h
    rcases h with rfl | h | rfl | h | rfl
    · omega
    · exact sig_free a hk.1 c h
    · omega
    · exact sig_free b hk.2 c h
    · omega
  | .or a b, hk, c, h => by
    simp [sig] at h
    rcases h with rfl | h | rfl | h | rfl
    · omega
    · exact sig_free a hk.1 c h
    · omega
    · exact sig_free b hk.2 c h
    · omega
end RR
namespace RR
open PySem PySem.W L2
def spTxt (n : Nat) : Sp := fun vs H Q _ => ∃ (v : V) (wd : Wd), vs = [v] ∧ WAt H wd v ∧ wd.ok 10 10 ∧ wd.depth ≤ n ∧ n ≤ 8 ∧ ∀ H', Same H H' → Q (.str (txt wd)) H'
theorem digit_str {k : Int} (h : 0 ≤ k ∧ k < 10) : (toString k : Str) = ⟨#[48 + k.toNat]⟩ := by
  obtain ⟨n, rfl⟩ : ∃ n : Nat, k = n := ⟨k.toNat, by omega⟩
  have hn : n < 10 := by omega
  clear h
  revert n
  decide +kernel
theorem txt_len {w : Wd} {n : Nat} (h : w.depth ≤ n) (hn : n ≤ 8) : (txt w).length ≤ 1280 := by
  have := sig_len w
  have : 2 ^ w.depth ≤ 2 ^ 8 := Nat.pow_le_pow_right (by decide) (by omega)
  show (sig w).toArray.size ≤ 1280
  rw [List.size_toArray]
  omega
theorem txt_nt (a : Wd) : (⟨#[33]⟩ : Str) ++ txt a = txt (.nt a) := by
  show (⟨#[33] ++ (sig a).toArray⟩ : Str) = ⟨(33 :: sig a).toArray⟩
  congr 1
  apply Array.toList_inj.mp
  simp
theorem txt_an (a b : Wd) : (⟨#[40]⟩ : Str) ++ txt a ++ ⟨#[38]⟩ ++ txt b ++ ⟨#[41]⟩ = txt (.an a b) := by
  show (⟨#[40] ++ (sig a).toArray ++ #[38] ++ (sig b).toArray ++ #[41]⟩ : Str) = ⟨(sig (.an a b)).toArray⟩
  congr 1
  apply Array.toList_inj.mp
  simp [sig]
theorem txt_or (a b : Wd) : (⟨#[40]⟩ : Str) ++ txt a ++ ⟨#[124]⟩ ++ txt b ++ ⟨#[41]⟩ = txt (.or a b) := by
  show (⟨#[40] ++ (sig a).toArray ++ #[124] ++ (sig b).toArray ++ #[41]⟩ : Str) = ⟨(sig (.or a b)).toArray⟩
  congr 1
  apply Array.toList_inj.mp
  simp [sig]
end RR
namespace RR
open PySem PySem.W L2
theorem str_len (a b : Str) : (a ++ b).length = a.length + b.length := by
  show (a.cps ++ b.cps).size = _
  rw [Array.size_append]
  rfl
end RR

end
section
set_option Elab.async false
set_option linter.all false
set_option maxRecDepth 100000
set_option maxHeartbeats 4000000
namespace RR
open PySem PySem.W L2
def ItAt (H : Hp) : PItem → V → Prop
  | .sg c, v => v = .str ⟨#[c]⟩ ∧ c < 128
  | .wd w, v => WAt H w v
theorem ItAt.mono {H H' : Hp} (t : TupLe H H') : ∀ {i : PItem} {v : V}, ItAt H i v → ItAt H' i v
  | .sg _, _, h => h
  | .wd _, _, h => WAt.mono t h
def PileAt (H : Hp) (l : Addr) (p : List PItem) : Prop := ∃ vs, H l = some (.lst vs.reverse) ∧ Paired (ItAt H) p vs
/-- all but the pile stands as it stood -/
def Keep (l : Addr) (H H' : Hp) : Prop := ∀ b o, b ≠ l → H b = some o → H' b = some o
theorem Keep.refl (l : Addr) (H : Hp) : Keep l H H := fun _ _ _ h => h
theorem Keep.trans {l : Addr} {H H1 H2 : Hp} (a : Keep l H H1) (b : Keep l H1 H2) : Keep l H H2 := fun c o h e => b c o h (a c o h e)
theorem Keep.same {l : Addr} {H H1 : Hp} (s : Same H H1) : Keep l H H1 := fun c o _ e => s c o e
theorem Keep.tup {l : Addr} {H H' : Hp} {xs : List V} (k : Keep l H H') (h : H l = some (.lst xs)) : TupLe H H' := fun b ys e => k b _ (fun z => by rw [z, h] at e; cases e) e
theorem Keep.upd {l : Addr} {H H1 : Hp} (k : Keep l H H1) (o : HO) : Keep l H (upd H1 l o) := fun b q h e => by rw [upd_ne h]; exact k b q h e
theorem Paired.items {H H' : Hp} (t : TupLe H H') {p : List PItem} {vs : List V} (h : Paired (ItAt H) p vs) : Paired (ItAt H') p vs := Paired.mono' (fun _ _ z => z.mono t) h
def spPut (K : PySem.W.Frag) : Sp := fun vs H Q _ => ∃ (l : Addr) (v : V) (p : List PItem) (wd : Wd), vs = [.ref l, v] ∧ PileAt H l p ∧ WAt H wd v ∧ p.length ≤ 999 ∧ ∀ H', Keep l H H' → PileAt H' l (put p wd) → Q .non H'
theorem lay_sign {c : Nat} (h : c < 128) : (PyData.str ⟨#[c]⟩).canLay0 = true := by
  simp only [PyData.canLay0]
  revert c
  decide +kernel
theorem eqv_sign (e c : Nat) : PyData.eqv (.str ⟨#[e]⟩) (.str ⟨#[c]⟩) = decide (e = c) := by
  by_cases h : e = c
  · subst h
    rw [decide_eq_true rfl]
    simp [PyData.eqv]
  · rw [decide_eq_false h]
    simp [PyData.eqv, h]
/-- is it the sign c -/
def PItem.is (c : Nat) : PItem → Bool
  | .sg e => decide (e = c)
  | .wd _ => false
theorem ItAt.data {K : PySem.W.Frag} {H : Hp} : ∀ {i : PItem} {v : V}, ItAt H i v → ∃ d, DAt K H d v ∧ d.canLay0 = true ∧ (∀ c : Nat, PyData.eqv d (.str ⟨#[c]⟩) = i.is c) ∧ ∀ c : Nat, PyData.eqv (.str ⟨#[c]⟩) d = i.is c
  | .sg e, _, h => by
    obtain ⟨rfl, hc⟩ := h
    refine ⟨_, .str _, lay_sign hc, fun c => eqv_sign e c, fun c => ?_⟩
    rw [eqv_sign]
    show decide (c = e) = decide (e = c)
    exact decide_eq_decide.mpr ⟨Eq.symm, Eq.symm⟩
  | .wd w, _, h => ⟨_, WAt.data h, data_lay w, fun c => by cases w <;> rfl, fun c => by cases w <;> rfl⟩
theorem at_last {xs : List V} {y : V} : atI (xs ++ [y]) (-1) = some y := by
  unfold atI ixN
  rw [if_neg (by decide)]
  have h1 : (1 : Int) ≤ ((xs ++ [y]).length : Nat) := by simp; omega
  have h2 : ((-1 : Int) + ((xs ++ [y]).length : Nat)).toNat = xs.length := by simp; omega
  first
    | (rw [if_pos (by omega), h2]; simp)
    | (simp only [h2]; simp)
end RR
namespace RR
open PySem PySem.W L2
def joined (j : Nat) (a b : Wd) : Wd := if j = 38 then .an a b else .or a b
def isCl : List PItem → Bool
  | .wd _ :: .sg j :: .wd _ :: .sg o :: _ => decide (o = 40) && (decide (j = 38) || decide (j = 124))
  | _ => false
theorem closeP_none {p : List PItem} (h : isCl p = false) : closeP p = none := by
  unfold closeP
  split
  · next b j a o r =>
    rw [if_neg]
    rintro ⟨rfl, hj⟩
    rcases hj with rfl | rfl <;> exact absurd h (by simp [isCl])
  · rfl
theorem isCl_some {p : List PItem} (h : isCl p = true) : ∃ a b j r, p = .wd b :: .sg j :: .wd a :: .sg 40 :: r ∧ (j = 38 ∨ j = 124) ∧ closeP p = some (put r (joined j a b)) := by
  unfold isCl at h
  split at h
  · next b j a o r =>
    simp only [Bool.and_eq_true, Bool.or_eq_true, decide_eq_true_eq] at h
    obtain ⟨rfl, hj⟩ := h
    refine ⟨a, b, j, r, rfl, hj, ?_⟩
    show (if 40 = 40 ∧ (j = 38 ∨ j = 124) then _ else _) = _
    rw [if_pos ⟨rfl, hj⟩]
    rfl
  · cases h
def spClosed (K : PySem.W.Frag) (c5 : Addr) : Sp := fun vs H Q E => ∃ (l : Addr) (p : List PItem), vs = [.ref l] ∧ PileAt H l p ∧ p.length ≤ 999 ∧
  (∀ (a b : Wd) (j : Nat) (r : List PItem), p = .wd b :: .sg j :: .wd a :: .sg 40 :: r → (j = 38 ∨ j = 124) → ∀ x H', Keep l H H' → PileAt H' l r → WAt H' (joined j a b) x → Q x H') ∧
  (isCl p = false → ∀ H', Keep l H H' → E (.ref c5) none H')
end RR
namespace L2
open PySem PySem.Spec PyProof.Rows
/-- a call of a def that may raise, inside a def that may raise -/
theorem pe_callX {X : Cx} {k k' : Nat} {ps : List Str} {sp : Sp} {x : Str} {p pos : Pos} {e : Expr} {es : List Expr} {t : TA} {E : XK} (D : CalleeX X.prog X.w X.K X.mg X.base x k ps sp) (hr : Room k' X.A) (hk : k ≤ k') (hg : Gl X x) (hx : Passes (CXr X.prog X.w) X E) (ha : PA X (e :: es) t)
    (hdb : (x == ("__debug__" : Str)) = false := by decide) (he : starEach (e :: es) X.env = (false, eval e X.env) :: starEach es X.env := by rfl) (hpl : (backTo pos (starEach es X.env)).any (·.1) = false := by rfl) :
    PE X (.Call (.Name x p) (e :: es) [] pos) (tCall sp [] E t) := by
  obtain ⟨f, fd, F, b, kp, m⟩ := D
  exact pe_call F (hr.mono hk) hg m kp b .nil hx ha hdb he hpl
end L2
namespace RR
open PySem PySem.W L2
theorem fig_in : ∀ c, c < 128 → (!(Builtin.Str.occurrences "0123456789" ⟨#[c]⟩ 0 ("0123456789" : Str).length 1).isEmpty) = decide (48 ≤ c ∧ c ≤ 57) := by decide +kernel
theorem fig_at : ∀ c, c < 58 → 48 ≤ c → Builtin.Str.occurrences "0123456789" ⟨#[c]⟩ 0 ("0123456789" : Str).length 1 = [c - 48] := by decide +kernel
theorem ground_at : ∀ c, c < 128 → gval "1" "on" "0" "off" ⟨#[c]⟩ = if c = 49 then some "on" else if c = 48 then some "off" else none := by decide +kernel
theorem contact_at : ∀ c, c < 128 → gval "r" "relay" "b" "button" ⟨#[c]⟩ = if c = 114 then some "relay" else if c = 98 then some "button" else none := by decide +kernel
def spTake (K : PySem.W.Frag) (c5 : Addr) : Sp := fun vs H Q E => ∃ (l : Addr) (c : Nat) (p : List PItem), vs = [.ref l, .str ⟨#[c]⟩] ∧ c < 128 ∧ PileAt H l p ∧ p.length ≤ 990 ∧
  (∀ p', stepP p c = some p' → ∀ H', Keep l H H' → PileAt H' l p' → Q .non H') ∧ (stepP p c = none → ∀ H', Keep l H H' → E (.ref c5) none H')
theorem put_len : ∀ (p : List PItem) (w : Wd), (put p w).length ≤ p.length + 1
  | [], w => by simp [put]
  | .wd _ :: r, w => by simp [put]
  | .sg c :: r, w => by
    unfold put
    split
    · have := put_len r (.nt w)
      simp
      omega
    · simp
theorem step_len {p p' : List PItem} {c : Nat} (h : stepP p c = some p') : p'.length ≤ p.length + 1 := by
  unfold stepP at h
  split at h
  · split at h
    · next d r =>
      cases h
      exact Nat.le_trans (put_len _ _) (by simp)
    · cases h
  · split at h
    · cases h; exact put_len _ _
    · split at h
      · cases h; exact put_len _ _
      · split at h
        · unfold closeP at h
          split at h
          · split at h
            · cases h
              exact Nat.le_trans (put_len _ _) (by simp)
            · cases h
          · cases h
        · cases h
          simp
end RR
namespace L2
theorem if_rest {tc : TT} {ta tb : TS} {D : Ends} {σ : St} {H : Hp} (C : Hp → Prop) (h2 : ∀ H1, C H1 → tb D σ H1) (h1 : (∀ H1, C H1 → tb D σ H1) → tIfS tc ta tb D σ H) : tIfS tc ta tb D σ H := h1 h2
end L2

end
section
set_option Elab.async false
set_option linter.all false
set_option maxRecDepth 100000
set_option maxHeartbeats 4000000
namespace RR
open PySem PySem.W L2
theorem keep_new {l : Addr} {H H' : Hp} {o : HO} (h : H l = none) (k : Keep l (upd H l o) H') : Same H H' := fun b u e => by
  have hb : b ≠ l := fun z => by rw [z, h] at e; cases e
  exact k b u hb (by rw [upd_ne hb]; exact e)
/-- what a text is read to -/
def oneW : List PItem → Option Wd
  | [.wd w] => some w
  | _ => none
def readW (z : Str) : Option Wd := (z.cps.toList.foldlM stepP []).bind oneW
def spReadW (K : PySem.W.Frag) (c5 : Addr) : Sp := fun vs H Q E => ∃ z : Str, vs = [.str z] ∧ z.cps.all (· < 128) = true ∧ z.length ≤ 900 ∧
  (∀ wd, readW z = some wd → ∀ v H', Same H H' → WAt H' wd v → Q v H') ∧ (readW z = none → ∀ H', Same H H' → E (.ref c5) none H')
theorem fold_some {l : List Nat} {i c : Nat} {p : List PItem} (hi : l[i]? = some c) (h : (l.take i).foldlM stepP [] = some p) : (l.take (i + 1)).foldlM stepP [] = stepP p c := by
  obtain ⟨hlt, rfl⟩ := List.getElem?_eq_some_iff.mp hi
  rw [List.take_succ_eq_append_getElem hlt, List.foldlM_append, h]
  simp
theorem fold_none {l : List Nat} {i : Nat} (h : (l.take i).foldlM stepP [] = none) : l.foldlM stepP [] = none := by
  conv => lhs; rw [← List.take_append_drop i l]
  rw [List.foldlM_append, h]
  rfl
theorem readW_txt {w : Wd} (h : w.ok 10 10) : readW (txt w) = some w := by
  unfold readW
  have : (txt w).cps.toList.foldlM stepP [] = some [.wd w] := by
    show ((sig w).toArray.toList).foldlM stepP [] = _
    rw [List.toList_toArray]
    exact parse_sig h
  rw [this]
  rfl
end RR
namespace RR
open PySem PySem.W L2
def spReadWC (K : PySem.W.Frag) : Sp := fun vs H Q _ => ∃ (z : Str) (wd : Wd), vs = [.str z] ∧ z.cps.all (· < 128) = true ∧ z.length ≤ 900 ∧ readW z = some wd ∧ ∀ v H', Same H H' → WAt H' wd v → Q v H'
theorem readw_calm {P : Program} {w : World} {K : PySem.W.Frag} {mg : Str → Option Value} {base : Heap} {f : Addr} {fd : FuncData} {c5 : Addr} (F : FnOk P w K mg base (CXr P w) 3 f fd ["note"] (spReadW K c5)) : FnOk P w K mg base CX0 3 f fd ["note"] (spReadWC K) :=
  F.calm fun vs H Q E h => by
    obtain ⟨z, wd, e, h1, h2, h3, q⟩ := h
    exact ⟨z, e, h1, h2, fun wd' h4 => by rw [h3] at h4; cases h4; exact q, fun h4 => by rw [h3] at h4; cases h4⟩
/-- what read answers where the text is written so -/
def spReadC (K : PySem.W.Frag) : Sp := fun vs H Q _ => ∃ (z : Str) (ws : List Wd), vs = [.str z] ∧ z.length ≤ 900 ∧ (∀ p ∈ Txt.split z ⟨#[59]⟩, p.cps.all (· < 128) = true ∧ p.length ≤ 900) ∧ (Txt.split z ⟨#[59]⟩).map readW = ws.map some ∧ (∀ wd ∈ ws, wd.depth ≤ 8) ∧
  ∀ D us H', H D = none → Same H H' → H' D = some (.lst us) → WsAt H' ws us → Q (.ref D) H'
end RR

end
section
set_option Elab.async false
set_option linter.all false
set_option maxRecDepth 100000
set_option maxHeartbeats 4000000
namespace RR
open PySem PySem.W L2
theorem glue_len {c M : Nat} : ∀ {l : List (List Nat)}, (∀ x ∈ l, x.length ≤ M) → (glueL c l).length ≤ l.length * (M + 1)
  | [], _ => by simp [glueL]
  | [x], h => by
    have := h x (by simp)
    simp [glueL]
    omega
  | x :: y :: r, h => by
    have h1 := h x (by simp)
    have h2 := glue_len (c := c) (l := y :: r) fun z hz => h z (by simp at hz ⊢; right; exact hz)
    have : (glueL c (x :: y :: r)).length = x.length + (1 + (glueL c (y :: r)).length) := by simp [glueL]; omega
    rw [this]
    have e : (x :: y :: r).length * (M + 1) = (y :: r).length * (M + 1) + (M + 1) := by
      rw [List.length_cons, Nat.succ_mul]
    omega
theorem glued_len {c M : Nat} {ss : List Str} (h : ∀ x ∈ ss, x.length ≤ M) : (Builtin.Str.glued ⟨#[c]⟩ ss).length ≤ ss.length * (M + 1) := by
  have e : (Builtin.Str.glued ⟨#[c]⟩ ss).length = (glueL c (ss.map fun z => z.cps.toList)).length := by
    rw [← join_list c ss, ← StrLaws.glued_eq_join]
    show _ = (Builtin.Str.glued ⟨#[c]⟩ ss).cps.toList.length
    rw [Array.length_toList]
    rfl
  rw [e]
  have := glue_len (c := c) (M := M) (l := ss.map fun z => z.cps.toList) fun x hx => by
    obtain ⟨z, hz, rfl⟩ := List.mem_map.mp hx
    have := h z hz
    rw [Array.length_toList]
    exact this
  rw [List.length_map] at this
  exact this
theorem fold_len {M k : Nat} : ∀ {ss : List Str} (a : Nat), (∀ x ∈ ss, x.length ≤ M) → ss.foldl (fun n x => n + x.length + k) a ≤ a + ss.length * (M + k)
  | [], a, _ => by simp
  | x :: r, a, h => by
    have h1 := h x (by simp)
    have h2 := fold_len (k := k) (a + x.length + k) fun z hz => h z (List.mem_cons_of_mem _ hz)
    rw [List.foldl_cons]
    have e : (x :: r).length * (M + k) = r.length * (M + k) + (M + k) := by rw [List.length_cons, Nat.succ_mul]
    omega
theorem not_long {M : Nat} {ss : List Str} (h : ∀ x ∈ ss, x.length ≤ M) (hl : ss.length * (M + 1) ≤ 100000) : Builtin.Str.tooLong (ss.toArray.foldl (fun n x => n + x.length + (⟨#[59]⟩ : Str).length) 0) = false := by
  have e : ss.toArray.foldl (fun n x => n + x.length + (⟨#[59]⟩ : Str).length) 0 = ss.foldl (fun n x => n + x.length + 1) 0 := by
    rw [List.foldl_toArray']
    · rfl
    · rfl
  have := fold_len (k := 1) 0 h
  rw [e]
  unfold Builtin.Str.tooLong
  have hs : sizeLine = 16777216 := sizeLine_eq
  exact decide_eq_false (by omega)
end RR
namespace RR
open PySem PySem.W L2
def spShown (K : PySem.W.Frag) : Sp := fun vs H Q _ => ∃ (D : Addr) (us : List V) (ws : List Wd), vs = [.ref D] ∧ SqL K H D us ∧ WsAt H ws us ∧ ws.length ≤ 6 ∧ (∀ wd ∈ ws, wd.ok 10 10 ∧ wd.depth ≤ 8) ∧
  ∀ H', Same H H' → Q (.str (Builtin.Str.glued ⟨#[59]⟩ (ws.map txt))) H'
theorem txts_len {ws : List Wd} (h : ∀ wd ∈ ws, wd.ok 10 10 ∧ wd.depth ≤ 8) : ∀ x ∈ ws.map txt, x.length ≤ 1280 := fun x hx => by
  obtain ⟨wd, h1, rfl⟩ := List.mem_map.mp hx
  exact txt_len (h wd h1).2 (Nat.le_refl _)
end RR
namespace RR
open PySem PySem.W L2
def spIsWord (n : Nat) : Sp := fun vs H Q _ => ∃ (v : V) (wd : Wd), vs = [v] ∧ WAt H wd v ∧ wd.depth ≤ n ∧ ∀ H', Same H H' → Q (.bl true) H'
end RR

end
section
set_option Elab.async false
set_option linter.all false
set_option maxRecDepth 100000
set_option maxHeartbeats 4000000
namespace L2
open PySem PySem.Spec PyProof.Rows
section
variable {X : Cx} {e : Expr} {te : TE} {lo hi : Option Expr} {tl th : TO} {pos p2 : Pos}
/-- z[lo:hi] of a text -/
def tSlS (te : TE) (tl th : TO) : TE := fun σ H Q => te σ H fun x H1 => tl σ H1 fun l H2 => th σ H2 fun u H3 => ∃ z, x = .str z ∧ z.length ≤ sizeLine ∧ Q (.str (Txt.slice z l u)) H3
theorem pe_sliceS (he : PE X e te) (hl : PO X lo tl) (hu : PO X hi th) : PE X (.Subscript e (.Slice lo hi none p2) pos) (tSlS te tl th) := by
  intro pins s σ H Q I h
  refine Subscript_ (thn (he pins s σ H _ I h) fun v s1 ⟨x, H1, I1, r1, q1⟩ => ?_)
  refine wpAny_Slice (thn (hl pins s1 σ H1 _ I1 q1) fun vl s2 ⟨l, H2, I2, pl, q2⟩ => thn (hu pins s2 σ H2 _ I2 q2) fun vu s3 ⟨u, H3, I3, pu, q3⟩ => ?_)
  rw [evalPart_none]
  refine wpAny_pure ?_
  obtain ⟨z, rfl, hz, q⟩ := q3
  obtain ⟨t, rfl⟩ := r1
  have kp : KeptByPush (fun s => Inv X pins σ H3 s) := fun s ob k I' => I'.kept (t' := k) fun b o q => Heap.get?_push_of_some _ q
  have fin : ∀ (s' : Shared) (t' : Tok), Inv X pins σ H3 s' → EP X pins σ Q (.str (Txt.slice z l u) t') s' := fun s' t' I' => ⟨.str _, H3, I', ⟨_, rfl⟩, q⟩
  obtain ⟨T, id, hT, ht, hg⟩ : ItemOn (model X.prog X.w) X.A X.xe (.str z t) (.ref s3.heap.objs.size) (EP X pins σ Q) { s3 with heap := s3.heap.push { cls := .type "slice", data := .fields #[vl, vu, .none] } } := by
    cases pl with
    | none =>
      cases pu with
      | none => exact SBG.sliceItem_nn kp I3 fin hz
      | int j tj => exact SBG.sliceItem_ns kp I3 fin hz
    | int i ti =>
      cases pu with
      | none => exact SBG.sliceItem_sn kp I3 fin hz
      | int j tj => exact SBG.sliceItem_ss kp I3 fin hz
  show wpAny (model X.prog X.w) X.A (subscriptTail e (.Slice lo hi none p2) (.str z t) (.ref s3.heap.objs.size)) (EP X pins σ Q) X.xe { s3 with heap := s3.heap.push { cls := .type "slice", data := .fields #[vl, vu, .none] } }
  exact tail_any (ops := [.ref s3.heap.objs.size, .str z t]) ht hT hg (by with_unfolding_all rfl)
end
end L2
namespace RR
open PySem PyProof.Rows
theorem slice_all {z : Str} {j : Int} (h : (z.length : Int) ≤ j) : Txt.slice z none (some j) = z := by
  have hl := (fact_slice_ns z j).2 h
  have hle := PySem.sliceIndices_le none (some j) z.length
  unfold Txt.slice at hl ⊢
  split
  · rfl
  · next c =>
    exfalso
    rw [if_neg c] at hl
    have h1 : ((⟨((Builtin.Str.strSliceIndices none (some j) 1 z.length).filterMap fun i => z.cps[i]?).toArray⟩ : Str).length) ≤ (Builtin.Str.strSliceIndices none (some j) 1 z.length).length := by
      show Array.size _ ≤ _
      rw [List.size_toArray]
      exact List.length_filterMap_le _ _
    apply c
    simp
    omega
end RR
namespace RR
open PySem PyProof.Rows PySem.W L2
theorem txt_all {wd : Wd} (h : wd.ok 10 10) : (txt wd).cps.all (· < 128) = true := by
  show (sig wd).toArray.all _ = true
  rw [Array.all_eq_true_iff_forall_mem]
  intro c hc
  exact decide_eq_true (sig_free wd h c (by simpa using hc)).2
theorem txt_len5 {wd : Wd} (h : wd.depth ≤ 5) : (txt wd).length ≤ 157 := by
  have := sig_len wd
  have : 2 ^ wd.depth ≤ 2 ^ 5 := Nat.pow_le_pow_right (by decide) h
  show (sig wd).toArray.size ≤ 157
  rw [List.size_toArray]
  omega
theorem split_txts {ws : List Wd} (hne : ws ≠ []) (h : ∀ wd ∈ ws, wd.ok 10 10) : Txt.split (Builtin.Str.glued ⟨#[59]⟩ (ws.map txt)) ⟨#[59]⟩ = ws.map txt :=
  split_glued (by simpa using hne) fun z hz hc => by
    obtain ⟨wd, hm, rfl⟩ := List.mem_map.mp hz
    exact (sig_free wd (h wd hm) 59 (by simpa [txt] using hc)).1 rfl
theorem map_readW {ws : List Wd} (h : ∀ wd ∈ ws, wd.ok 10 10) : (ws.map txt).map readW = ws.map some := by
  rw [List.map_map]
  exact List.map_congr_left fun wd hm => readW_txt (h wd hm)
end RR

end
section
set_option Elab.async false
set_option linter.all false
set_option maxRecDepth 100000
set_option maxHeartbeats 4000000
/-! my own: an exception that leaves a comprehension's block -/
namespace L2
open PySem PySem.Spec PyProof.Rows
section
variable {M : Model} {A : Around} {E : Value → Shared → Prop} {s : Shared} {base : Heap} {env : Env} {outer : List Env} {L e : Addr} {cls a0 fl : Value}
theorem set_flight {h : Heap} {T : Addr} {oT : Obj} {ts : Array Value} (hT : h.get? T = some oT) (hd : oT.data = .fields ts) (x : Value) :
    (h.update T (Obj.mapFields fun z => z.setIfInBounds 3 x)).get? T = some { oT with data := .fields (ts.setIfInBounds 3 x) } := by
  have e : Obj.mapFields (fun z => z.setIfInBounds 3 x) oT = { oT with data := .fields (ts.setIfInBounds 3 x) } := by
    obtain ⟨c, d, dt, sl⟩ := oT
    dsimp only at hd
    subst hd
    rfl
  rw [Heap.get?_update_self _ hT (by rw [e]; rfl), e]
/-- the head of the trace is written, nothing else -/
theorem traced_set {T : Addr} {oe oT : Obj} {vs ts : Array Value} {h : Heap} (st : base.StaysIn h) (he : h.get? e = some oe) (hd : oe.data = .fields vs) (hc : oe.cls = cls) (h0 : vs[0]? = some a0) (h1 : vs[1]? = some (.ref T)) (hb : base.get? T = none) (hne : T ≠ e) (hT : h.get? T = some oT) (hdT : oT.data = .fields ts) (h3 : 3 < ts.size) (x : Value) :
    base.StaysIn (h.update T (Obj.mapFields fun z => z.setIfInBounds 3 x)) ∧ (h.update T (Obj.mapFields fun z => z.setIfInBounds 3 x)).TracedAtW base e cls a0 x ∧
    (∀ b o, h.get? b = some o → (∀ vs, o.data ≠ .fields vs) → (h.update T (Obj.mapFields fun z => z.setIfInBounds 3 x)).get? b = some o) := by
  refine ⟨fun b o q => ?_, ⟨oe, vs, T, _, _, ?_, ⟨hc, h0⟩, hd, h1, hb, hne, set_flight hT hdT x, rfl, by simp [h3]⟩, fun b o q n => ?_⟩
  · have : b ≠ T := fun z => by rw [z, hb] at q; cases q
    rw [Heap.get?_update_ne _ _ _ _ this]
    exact st b o q
  · rw [Heap.get?_update_ne _ _ _ _ (Ne.symm hne)]
    exact he
  · have : b ≠ T := fun z => by
      rw [z, hT] at q
      cases q
      exact n _ hdT
    rw [Heap.get?_update_ne _ _ _ _ this]
    exact q
theorem note_any {Q : Unit → Shared → Prop} (hA : A.frames = some (env :: outer)) (ff : s.heap.FunFrames base (env :: outer)) (hF : env.frame = some L) (tr : s.heap.TracedAtW base e cls a0 fl) (st : base.StaysIn s.heap) (hn : base.get? e = none)
    (q : ∀ h', base.NotedW (env :: outer) e cls a0 (rawInt ↑L) s.heap h' → Q () { s with heap := h' }) : wpAny M A (noteFrame (.ref e) env) Q E s := by
  by_cases hfl : fl = rawInt ↑L
  · subst hfl
    exact wpAny_noteFrame_againW hF tr (q s.heap ⟨st, ff, tr, fun b o h n => ⟨o.slots, h⟩⟩)
  obtain ⟨oe, vs, T, oT, ts, he, ⟨hc, h0⟩, hd, h1, hT0, hTe, hT, hdT, h3⟩ := tr
  have h3' : 3 < ts.size := (Array.getElem?_eq_some_iff.mp h3).1
  have h1' : 1 < vs.size := (Array.getElem?_eq_some_iff.mp h1).1
  unfold noteFrame
  rw [hF]
  refine wpAny_bind (wpAny_field he hd h1 ?_)
  rw [if_pos (by rfl)]
  refine wpAny_bind (wpAny_field hT hdT h3 ?_)
  rw [if_neg (by simpa using hfl)]
  refine wpAny_bind (wpAny_setField hT hdT h3' ?_)
  obtain ⟨st2, tr2, k2⟩ := traced_set st he hd hc h0 h1 hT0 hTe hT hdT h3' .none
  have he2 : (s.heap.update T (Obj.mapFields fun z => z.setIfInBounds 3 .none)).get? e = some oe := by
    rw [Heap.get?_update_ne _ _ _ _ (Ne.symm hTe)]
    exact he
  refine wpAny_entryW hA (ff.of_keeps fun b o h n => ⟨o, k2 b o h n, rfl⟩) hF he2 st2 hn hd h1' h0 fun h' hN => q h' ?_
  rw [hc] at hN
  exact ⟨hN.1, hN.2.1, hN.2.2.1, fun b o h n => hN.2.2.2 b o (k2 b o h n) n⟩
theorem leave_any {Q : Unit → Shared → Prop} (hA : A.frames = some (env :: outer)) (ff : s.heap.FunFrames base (env :: outer)) (hF : env.frame = some L) (tr : s.heap.TracedAtW base e cls a0 fl) (st : base.StaysIn s.heap) (hn : base.get? e = none)
    (q : ∀ h', base.FlyingW outer e cls a0 h' → s.heap.UpToSlots h' → Q () { s with heap := h' }) : wpAny M A (leaving env (.ref e)) Q E s := by
  unfold leaving
  refine wpAny_bind (note_any hA ff hF tr st hn fun h1 hN => ?_)
  refine wpAny_setFlight_noneW (l := env :: outer) hN.1 hN.2.1 hN.2.2.1 fun h2 a b c d => q h2 ⟨a, hn, b.2.2, c⟩ fun x o hx n => ?_
  obtain ⟨sl, hs⟩ := hN.2.2.2 x o hx n
  exact ⟨sl, d x _ hs n⟩
theorem set_any {Q : Unit → Shared → Prop} (tr : s.heap.TracedAtW base e cls a0 fl) (st : base.StaysIn s.heap) (fr : Option Addr)
    (q : ∀ h' fl', base.StaysIn h' → h'.TracedAtW base e cls a0 fl' → (∀ b o, s.heap.get? b = some o → (∀ vs, o.data ≠ .fields vs) → h'.get? b = some o) → Q () { s with heap := h' }) : wpAny M A (setFlight (.ref e) fr) Q E s := by
  obtain ⟨oe, vs, T, oT, ts, he, ⟨hc, h0⟩, hd, h1, hT0, hTe, hT, hdT, h3⟩ := tr
  have h3' : 3 < ts.size := (Array.getElem?_eq_some_iff.mp h3).1
  unfold setFlight
  refine wpAny_bind (wpAny_field he hd h1 ?_)
  rw [if_pos (by rfl)]
  obtain ⟨st2, tr2, k2⟩ := traced_set st he hd hc h0 h1 hT0 hTe hT hdT h3' (fr.elim .none fun f => rawInt ↑f)
  exact wpAny_setField hT hdT h3' (q _ _ st2 tr2 k2)
end
open PySem.W (hideAll of_hideAll hideAll_get hideAll_none funFrames_hide)
theorem frames_move {h h2 base base' : Heap} (hb : ∀ b, base.get? b = none → base'.get? b = none) : ∀ {l : List Env}, (∀ b o, b ∈ frs l → h.get? b = some o → ∃ sl, h2.get? b = some { o with slots := sl }) → h.FunFrames base l → h2.FunFrames base' l
  | [], _, _ => trivial
  | env :: r, k, hl => by
    obtain ⟨hk, ⟨L, o, hf, hn, ho, hd⟩, hr⟩ := hl
    obtain ⟨sl, e⟩ := k L o (by unfold frs; rw [List.filterMap_cons, hf]; exact List.mem_cons_self) ho
    exact ⟨hk, ⟨L, _, hf, hb L hn, e, hd⟩, frames_move hb (fun b o m => k b o (by unfold frs; rw [List.filterMap_cons, hf]; exact List.mem_cons_of_mem _ m)) hr⟩
theorem Inv.withXe {X : Cx} {pins : List (Addr × Obj)} {σ : St} {H : Hp} {s : Shared} (I : Inv X pins σ H s) (xe : Value → Shared → Prop) : Inv { X with xe := xe } pins σ H s :=
  ⟨⟨I.ok.mod, I.ok.kind, I.ok.glob, I.ok.blt, I.ok.above, I.ok.inj, I.ok.has, I.ok.cab, I.ok.hd, I.ok.frames, I.ok.stk, I.ok.exf, I.ok.bs, I.ok.bsz, I.ok.noex, I.ok.exfs, I.ok.funs, I.ok.frf⟩, I.os, I.bare, I.base, I.loc, I.cell, I.free, I.freeC, I.pin, I.hok, I.len⟩
/-- what is wanted of an exception inside a comprehension's block -/
def xeC (X : Cx) (scope : Scope) (cl : List (Str × Addr)) (C : Addr) : Value → Shared → Prop := notedBy (model X.prog X.w) X.A (compEnvC scope cl C X.env) fun x s'' =>
  ∃ m, s''.heap.Ns C m ∧ ∀ h', Heap.SameBut C s''.heap h' → ∀ cenv : Env, cenv.locals = C → wpAny (model X.prog X.w) X.A (PySem.passOn "comprehension.variables-let-go" x cenv) (fun (_ : Value) _ => False) X.xe { s'' with heap := h' }
abbrev cxX (X : Cx) (scope : Scope) (cl : List (Str × Addr)) (N' : List Str) (s3 : Shared) (H3 : Hp) (fp : List Addr) : Cx := { cxC X scope cl N' s3 H3 fp with xe := xeC X scope cl s3.heap.objs.size }
section
variable {P : Program} {w : World} {K : PySem.W.Frag} {mg : Str → Option Value} {base : Heap} {N : List Str} {qual : Str} {scope : Scope} {f : Addr} {cd : Value} {A : Around} {outer : List Env} {s0 : Shared} {H0 : Hp} {E : XK}
theorem pass_comp {scC : Scope} {cl : List (Str × Addr)} {N' : List Str} {s3 : Shared} {H3 : Hp} {fp : List Addr} {pins : List (Addr × Obj)} {σ : St} (I3 : Inv (cxOf (CXr P w) P w K mg base N qual scope f cd A outer s0 H0 E) pins σ H3 s3) (hf : ∀ b ∈ fp, FpOk (cxOf (CXr P w) P w K mg base N qual scope f cd A outer s0 H0 E) pins H3 b) :
    Passes (CXr P w) (cxX (cxOf (CXr P w) P w K mg base N qual scope f cd A outer s0 H0 E) scC cl N' s3 H3 fp) E := by
  intro pins' σ' H s e s' J hx
  obtain ⟨a, C, t, H', B, rfl, fl, os, bare, un, ok, kB, kO, kT, hna, hE⟩ := hx
  have J0 : Inv (cxC (cxOf (CXr P w) P w K mg base N qual scope f cd A outer s0 H0 E) scC cl N' s3 H3 fp) pins' σ' H s := J.withXe _
  obtain ⟨I, fC⟩ := inv_behind I3 hf J0
  have fr : (cxOf (CXr P w) P w K mg base N qual scope f cd A outer s0 H0 E).stack = envOfC qual scope s0.heap.objs.size f cd :: outer := rfl
  have fl : B.FlyingW (envOfC qual scope s0.heap.objs.size f cd :: outer) a (.ref C) (.ref t) s'.heap := fl
  have un : Un (frs (envOfC qual scope s0.heap.objs.size f cd :: outer)) [] H H' s.heap s'.heap := un
  obtain ⟨m, ⟨oC, es, ep, hoC, hdC, hkC⟩, _⟩ := id J0.loc
  have hoC : s.heap.get? s3.heap.objs.size = some oC := hoC
  have hC0 : H s3.heap.objs.size = none := fC.1
  have inL : ∀ b, b ∈ frs (envOfC qual scope s0.heap.objs.size f cd :: outer) → b = s0.heap.objs.size ∨ b ∈ frs outer := fun b hb => by
    rcases List.mem_cons.mp (I.stkSub b hb) with z | z
    · exact .inl z
    · exact .inr z
  have hCfs : s3.heap.objs.size ∉ frs (envOfC qual scope s0.heap.objs.size f cd :: outer) := fun z => (inL _ z).elim (fun z => fC.2.1 z) (fun z => fC.2.2.1 z)
  have hBC : B.get? s3.heap.objs.size = some oC := kO _ oC hoC hC0 hCfs
  have hC' : H' s3.heap.objs.size = none := un.free _ oC hoC hC0 (by simp)
  have sz3 : s0.heap.objs.size ≤ s3.heap.objs.size := I3.sz
  have s0C : ∀ b o, s0.heap.get? b = some o → b ≠ s3.heap.objs.size := fun b o q z => absurd (Heap.lt_size (z ▸ q)) (Nat.not_lt.mpr sz3)
  show wpAny (model P w) (A.deeper (envOfC qual scope s0.heap.objs.size f cd)) (noteFrame (.ref a) (envOfC qual scope s0.heap.objs.size f cd)) _ _ s'
  refine note_any (outer := outer) I.ok.frames fl.2.2.1 rfl fl.2.2.2.at fl.1 fl.2.1 fun h1 hN => ?_
  refine ⟨m, ⟨oC, es, ep, hN.1 s3.heap.objs.size oC hBC, hdC, hkC⟩, fun h2 sb cenv hcenv => ?_⟩
  have toB : ∀ {b : Addr} {o : Obj}, B.get? b = some o → b ≠ s3.heap.objs.size → (hideAll B [s3.heap.objs.size]).get? b = some o := fun h n => hideAll_get [s3.heap.objs.size] h (by simpa using n)
  have ofB : ∀ {b : Addr} {o : Obj}, (hideAll B [s3.heap.objs.size]).get? b = some o → B.get? b = some o ∧ b ≠ s3.heap.objs.size := fun {b o} h => ⟨of_hideAll [s3.heap.objs.size] h, fun z => by
    rw [z, hideAll_none [s3.heap.objs.size] (by simp)] at h
    cases h⟩
  have noB : ∀ b, B.get? b = none → (hideAll B [s3.heap.objs.size]).get? b = none := fun b h => by
    cases q : (hideAll B [s3.heap.objs.size]).get? b with
    | none => rfl
    | some o => rw [(ofB q).1] at h; cases h
  have st2 : (hideAll B [s3.heap.objs.size]).StaysIn h2 := fun b o q => by
    obtain ⟨q1, q2⟩ := ofB q
    rw [sb.2 b q2]
    exact hN.1 b o q1
  have hnB : (hideAll B [s3.heap.objs.size]).get? a = none := noB a fl.2.1
  have aC : a ≠ s3.heap.objs.size := fun z => by
    have := fl.2.1
    rw [z, hBC] at this
    cases this
  have frC : ∀ b, b ∈ frs (envOfC qual scope s0.heap.objs.size f cd :: outer) → b ≠ s3.heap.objs.size := fun b hb z => hCfs (z ▸ hb)
  have tr2 : h2.TracedAtW (hideAll B [s3.heap.objs.size]) a (.ref C) (.ref t) (rawInt ↑s0.heap.objs.size) := by
    obtain ⟨oe, vs, T, oT, ts, he, hc, hd, hv, hT0, hTe, hT, hdT, h3⟩ := hN.2.2.1
    have TC : T ≠ s3.heap.objs.size := fun z => by rw [z, hBC] at hT0; cases hT0
    exact ⟨oe, vs, T, oT, ts, by rw [sb.2 a aC]; exact he, hc, hd, hv, noB T hT0, hTe, by rw [sb.2 T TC]; exact hT, hdT, h3⟩
  have ff2 : h2.FunFrames (hideAll B [s3.heap.objs.size]) (envOfC qual scope s0.heap.objs.size f cd :: outer) := frames_move noB (fun b o hb q => ⟨o.slots, by rw [sb.2 b (frC b hb)]; exact q⟩) hN.2.1
  obtain ⟨oe, vs, T, oT, ts, he, hc, hd, hv, hT0, hTe, hT, hdT, h3⟩ := id tr2
  unfold PySem.passOn
  refine wpAny_bind (wpAny_field he hd hv ?_)
  rw [if_neg (by exact fun z => by cases z)]
  refine wpAny_bind (set_any tr2 st2 cenv.frame fun h3 fl' st3 tr3 k3 => wpAny_throw ?_)
  have ff3 : h3.FunFrames (hideAll B [s3.heap.objs.size]) (envOfC qual scope s0.heap.objs.size f cd :: outer) := ff2.of_keeps fun b o q n => ⟨o, k3 b o q n, rfl⟩
  show wpAny (model P w) (A.deeper (envOfC qual scope s0.heap.objs.size f cd)) (leaving (envOfC qual scope s0.heap.objs.size f cd) (.ref a)) _ _ _
  refine leave_any (outer := outer) I.ok.frames ff3 rfl tr3 st3 hnB fun h'' x1 x2 => ?_
  have sub : ∀ b, b ∈ frs outer → b ∈ frs (envOfC qual scope s0.heap.objs.size f cd :: outer) := fun b hb => by
    unfold frs at hb ⊢
    rw [List.filterMap_cons]
    split
    · exact hb
    · exact List.mem_cons_of_mem _ hb
  have un1 : Un (frs outer) [] H0 H s0.heap s.heap := I.base
  have below : ∀ b o, s0.heap.get? b = some o → b ≠ s0.heap.objs.size := fun b o q => Nat.ne_of_lt (Heap.lt_size q)
  have oldN : ∀ b o, s0.heap.get? b = some o → b ∉ frs outer → b ∉ frs (envOfC qual scope s0.heap.objs.size f cd :: outer) := fun b o q hb hm => (inL b hm).elim (below b o q) hb
  have toEnd : ∀ b o, b ∈ frs (envOfC qual scope s0.heap.objs.size f cd :: outer) → s'.heap.get? b = some o → ∃ sl, h''.get? b = some { o with slots := sl } := fun b o hb q => by
    obtain ⟨o', ho', hd'⟩ := frame_data fl.2.2.1 hb
    rw [q] at ho'; cases ho'
    obtain ⟨sl1, q1⟩ := hN.2.2.2 b o q hd'
    have q2 : h2.get? b = some { o with slots := sl1 } := by rw [sb.2 b (frC b hb)]; exact q1
    have q3 := k3 b _ q2 hd'
    obtain ⟨sl4, q4⟩ := x2 b _ q3 hd'
    exact ⟨sl4, q4⟩
  have trkC : ∀ b o, H' b = some o → b ≠ s3.heap.objs.size := fun b o q z => by rw [z, hC'] at q; cases q
  refine ⟨a, C, t, H', hideAll B [s3.heap.objs.size], rfl, x1, os.trans I.os, bare, ?_, hok_stay ok (fun b o q u hu => x1.1 b u (toB (kB b o q u hu) (trkC b o q))), fun b o q u hu => ?_, fun b o q n hb => ?_, fun b o q hb => ?_, hna, hE⟩
  · refine ⟨fun b o q n hb _ => ?_, fun b o q n hb _ => ?_, fun b o q n _ => ?_, fun b o q _ => ?_, fun b xs q => un.tups b xs (un1.tups b xs q), fun b o xs q => un.frzs b o xs (un1.frzs b o xs q), fun b ps q => ?_⟩
    · exact x1.1 b o (toB (kO b o (un1.keep b o q n hb (by simp)) (un1.free b o q n (by simp)) (oldN b o q hb)) (s0C b o q))
    · obtain ⟨sl, q1⟩ := un1.slot b o q n hb (by simp)
      obtain ⟨sl', q2⟩ := un.slot b _ q1 (un1.free b o q n (by simp)) (sub b hb) (by simp)
      obtain ⟨sl'', q3⟩ := toEnd b _ (sub b hb) q2
      exact ⟨sl'', q3⟩
    · obtain ⟨o', q1⟩ := un1.there b o q (by simp)
      exact un.free b o' q1 (un1.free b o q n (by simp)) (by simp)
    · obtain ⟨o', q1⟩ := un1.there b o q (by simp)
      obtain ⟨o'', q2⟩ := un.there b o' q1 (by simp)
      by_cases hm : b ∈ frs (envOfC qual scope s0.heap.objs.size f cd :: outer)
      · obtain ⟨sl, q3⟩ := toEnd b _ hm q2
        exact ⟨_, q3⟩
      · obtain ⟨o3, q3⟩ := kT b o' q1 hm
        exact ⟨o3, x1.1 b o3 (toB q3 (s0C b o q))⟩
    · obtain ⟨m1, q1⟩ := un1.tbls b ps q
      obtain ⟨m2, q2⟩ := un.tbls b _ q1
      exact ⟨m1 ++ m2, by rw [q2, Array.append_assoc]⟩
  · obtain ⟨v, hv⟩ := hok_there ok q
    have z := toB (kB b o q v hv) (trkC b o q)
    have z2 := x1.1 b v z
    have hu' : h''.get? b = some u := hu
    rw [z2] at hu'; cases hu'
    exact z
  · exact toB (kO b o (un1.keep b o q n hb (by simp)) (un1.free b o q n (by simp)) (oldN b o q hb)) (s0C b o q)
  · obtain ⟨o', q1⟩ := un1.there b o q (by simp)
    obtain ⟨o3, q3⟩ := kT b o' q1 (oldN b o q hb)
    exact ⟨o3, toB q3 (s0C b o q)⟩
end
end L2

end
section
set_option Elab.async false
set_option linter.all false
set_option maxRecDepth 100000
set_option maxHeartbeats 4000000
/-! my own: a comprehension whose items may raise -/
namespace L2
open PySem PySem.Spec PyProof.Rows
section
variable {prog : Program} {w : World} {A : Around} {R : Result → Shared → Prop} {s : Shared}
theorem loop_ownX {elt target iter : Expr} {scope : Scope} {pos : Pos} {it acc : Value} {env : Env} (I : Nat → Shared → Prop)
    (turn : ∀ n s, I n s → wpAny (model prog w) A (pyNext it) (fun r s₁ => match r with
      | none => R (.ok .next) s₁
      | some v => wpAny (model prog w) A (letOwnedTupleGo target it v) (fun _ s₂ => wpAny (model prog w) A (assign target env v) (fun _ s₃ =>
          wpAny (model prog w) A (eval elt env) (fun y s₅ =>
              wpAny (model prog w) A (call (.builtin "list.append") [acc, y]) (fun _ s₆ => ∃ m, m < n ∧ I m s₆) (fun _ _ => False) s₅) (notedBy (model prog w) A env fun e s' => R (.error e) s') s₃) (fun _ _ => False) s₂) (fun _ _ => False) s₁) (fun _ _ => False) s)
    (n : Nat) (h : I n s) : codeAny (model prog w) A (.compLoop (.ListComp elt [⟨target, iter, [], 0⟩] scope pos) 0 it acc env) R s := by
  refine codeAny_loop rfl I (fun n s hI => ?_) n h
  show wpAny _ A ((compTurn (.ListComp elt [⟨target, iter, [], 0⟩] scope pos) 0 it acc env).onRaise (fun x => do noteFrame x env; theTreesLotGoes x)) _ _ s
  refine wpAny_noted ?_
  rw [compTurn_list]
  have no : ∀ {F : Value → Shared → Prop} (e : Value) (s' : Shared), False → F e s' := fun _ _ z => z.elim
  refine wpAny_bind (wpAny_standAt (wpAny_bind (wpAny_mono (turn n s hI) (fun r s₁ h₁ => ?_) no)))
  cases r with
  | none => exact wpAny_pure h₁
  | some v =>
    refine wpAny_bind (wpAny_mono h₁ (fun _ s₂ h₂ => wpAny_bind (wpAny_mono h₂ (fun _ s₃ h₃ => wpAny_bind (wpAny_tests_nil ?_)) no)) no)
    exact wpAny_bind (wpAny_bind (wpAny_mono h₃ (fun y s₅ h₅ => wpAny_bind (wpAny_mono h₅ (fun _ s₆ h₆ => wpAny_pure (wpAny_pure ⟨rfl, h₆⟩)) no)) fun _ _ z => z))
end
section
variable {P : Program} {w : World} {K : PySem.W.Frag} {mg : Str → Option Value} {base : Heap} {N : List Str} {qual : Str} {scopeF : Scope} {f : Addr} {cd : Value} {A : Around} {outer : List Env} {s0 : Shared} {H0 : Hp} {E : XK}
variable {scope : Scope} {x : Str} {ys : List Str} {ix : List Nat} {wi : TI} {te : TE} {elt iter : Expr} {px pos : Pos} {cl : List (Str × Addr)}
theorem comp_walkX {pins : List (Addr × Obj)} {σ : St} {H2 : Hp} {s2 : Shared} {J : It} {fp : List Addr} {it : Addr} {tn : Nat → Heap → Prop} {Q : VK} {RR : Value → Addr → Result → Shared → Prop}
    (S : CScope (cxOf (CXr P w) P w K mg base N qual scopeF f cd A outer s0 H0 E) scope x ys ix)
    (c1 : ∀ y c, cl.lookup y = some c → (cxOf (CXr P w) P w K mg base N qual scopeF f cd A outer s0 H0 E).env.cells.lookup y = some c) (c2 : ∀ z ∈ scope.names, z.2 = .free → ∃ c, cl.lookup z.1 = some c)
    (he : ∀ s3 H3 fp, Passes (CXr P w) (cxX (cxOf (CXr P w) P w K mg base N qual scopeF f cd A outer s0 H0 E) scope cl (x :: ys) s3 H3 fp) E → PE (cxX (cxOf (CXr P w) P w K mg base N qual scopeF f cd A outer s0 H0 E) scope cl (x :: ys) s3 H3 fp) elt te)
    (I : Inv (cxOf (CXr P w) P w K mg base N qual scopeF f cd A outer s0 H0 E) pins σ H2 s2) (T : Turn P w K (.Name x px) J fp it tn) (st : tn 0 s2.heap) (hf : ∀ b ∈ fp, FpOk (cxOf (CXr P w) P w K mg base N qual scopeF f cd A outer s0 H0 E) pins H2 b)
    (hq : bodyC J noIf te (slotsC ix σ) Q H2)
    (hRR : ∀ D C s' H', Inv (cxOf (CXr P w) P w K mg base N qual scopeF f cd A outer s0 H0 E) pins σ H' s' → (∃ m, s'.heap.Ns C m) → FpOk (cxOf (CXr P w) P w K mg base N qual scopeF f cd A outer s0 H0 E) pins H' C → Q (.ref D) H' → RR (.ref D) C (.ok .next) s')
    (hRE : ∀ acc C e s', xeC (cxOf (CXr P w) P w K mg base N qual scopeF f cd A outer s0 H0 E) scope cl C e s' → notedBy (model P w) (cxOf (CXr P w) P w K mg base N qual scopeF f cd A outer s0 H0 E).A (compEnvC scope cl C (cxOf (CXr P w) P w K mg base N qual scopeF f cd A outer s0 H0 E).env) (fun e s' => RR acc C (.error e) s') e s') :
    wpAny (model P w) (cxOf (CXr P w) P w K mg base N qual scopeF f cd A outer s0 H0 E).A (newList []) (fun acc s3 => wpAny (model P w) (cxOf (CXr P w) P w K mg base N qual scopeF f cd A outer s0 H0 E).A (newFunctionEnv scope (cxOf (CXr P w) P w K mg base N qual scopeF f cd A outer s0 H0 E).env.globals cl [] (cxOf (CXr P w) P w K mg base N qual scopeF f cd A outer s0 H0 E).env.qual none .none (some (cxOf (CXr P w) P w K mg base N qual scopeF f cd A outer s0 H0 E).env)) (fun cenv s4 =>
      codeAny (model P w) (cxOf (CXr P w) P w K mg base N qual scopeF f cd A outer s0 H0 E).A (.compStart (.ListComp elt [⟨.Name x px, iter, [], 0⟩] scope pos) 0 (.ref it) acc { cenv with scope := relabel scope (cxOf (CXr P w) P w K mg base N qual scopeF f cd A outer s0 H0 E).env }) (RR acc cenv.locals) s4) (cxOf (CXr P w) P w K mg base N qual scopeF f cd A outer s0 H0 E).xe s3) (cxOf (CXr P w) P w K mg base N qual scopeF f cd A outer s0 H0 E).xe s2 := by
  have hc : (cxOf (CXr P w) P w K mg base N qual scopeF f cd A outer s0 H0 E).calm = true := rfl
  refine wpAny_newObj_type ?_
  have hD : H2 s2.heap.objs.size = none := I.hok.fresh (Nat.le_refl _)
  have I3 : Inv (cxOf (CXr P w) P w K mg base N qual scopeF f cd A outer s0 H0 E) pins σ (upd H2 s2.heap.objs.size (.lst [])) { s2 with heap := s2.heap.push { cls := .type "list", dict := none, data := .seq ([] : List Value).toArray } } :=
    I.lnew (t' := s2.toks) (ys := []) (its := []) .nil (Nat.zero_le _)
  obtain ⟨W, ⟨m0, w0⟩, turn⟩ := hq _ hD
  generalize hD' : s2.heap.objs.size = D at *
  have hfD : ∀ b ∈ fp, b ≠ D := fun b hb e => by
    obtain ⟨o, ho, _⟩ := T.obj 0 _ st b hb
    have q := Heap.lt_size ho
    rw [hD', e] at q
    exact Nat.lt_irrefl _ q
  have hf3 : ∀ b ∈ fp, FpOk (cxOf (CXr P w) P w K mg base N qual scopeF f cd A outer s0 H0 E) pins (upd H2 D (.lst [])) b := fun b hb => ⟨by rw [upd_ne (hfD b hb)]; exact (hf b hb).1, (hf b hb).2⟩
  generalize hs3 : ({ s2 with heap := s2.heap.push { cls := .type "list", dict := none, data := .seq ([] : List Value).toArray } } : Shared) = s3 at *
  have st3 : tn 0 s3.heap := T.keep _ _ _ st fun b hb o e => by rw [← hs3]; exact Heap.get?_push_of_some _ e
  have hfs : ∀ b ∈ fp, b < s3.heap.objs.size := fun b hb => by
    obtain ⟨o, ho, _⟩ := T.obj 0 _ st3 b hb
    exact Heap.lt_size ho
  refine wpAny_newFunctionEnv S.nocell (by intro y hy; simp at hy) (fun h₁ hns₁ hsb₁ => ?_) S.kind
  have old : ∀ b o, s3.heap.get? b = some o → h₁.get? b = some o := fun b o e => hsb₁.extBut b o (Nat.ne_of_lt (Heap.lt_size e)) (Heap.get?_push_of_some _ e)
  have I4 := (inv_block (tk := s3.toks + ([] : List (Str × Value)).length) I3 S c1 c2 hf3 hfs hns₁ old).withXe (xeC (cxOf (CXr P w) P w K mg base N qual scopeF f cd A outer s0 H0 E) scope cl s3.heap.objs.size)
  have st4 : tn 0 h₁ := T.keep _ _ _ st3 fun b _ o e => old b o e
  have ps := pass_comp (scC := scope) (cl := cl) (N' := x :: ys) I3 hf3
  have hx' : (cxX (cxOf (CXr P w) P w K mg base N qual scopeF f cd A outer s0 H0 E) scope cl (x :: ys) s3 (upd H2 D (.lst [])) fp).env.scope.names.lookup x = some .local := lookup_relabel_local S.hx
  have stat : ∀ {H' : Hp}, (∀ b ∈ fp, H' b = none) → ∀ b ∈ fp, FpOk (cxX (cxOf (CXr P w) P w K mg base N qual scopeF f cd A outer s0 H0 E) scope cl (x :: ys) s3 (upd H2 D (.lst [])) fp) [] H' b := fun hn b hb =>
    ⟨hn b hb, Nat.ne_of_lt (hfs b hb), fun z => by
      rcases List.mem_cons.mp (I3.stkSub b z) with e | e
      · exact (hf b hb).2.1 e
      · exact (hf b hb).2.2.1 e, .inl hb, fun y c e => (hf b hb).2.2.2.2.1 y c (c1 y c e), fun p hp => absurd (show p ∈ ([] : List (Addr × Obj)) from hp) (by simp)⟩
  have loop : codeAny (model P w) (cxOf (CXr P w) P w K mg base N qual scopeF f cd A outer s0 H0 E).A (.compLoop (.ListComp elt [⟨.Name x px, iter, [], 0⟩] scope pos) 0 (.ref it) (.ref D) (compEnvC scope cl s3.heap.objs.size (cxOf (CXr P w) P w K mg base N qual scopeF f cd A outer s0 H0 E).env))
      (RR (.ref D) s3.heap.objs.size) { s3 with heap := h₁, toks := s3.toks + ([] : List (Str × Value)).length } := by
    refine loop_ownX (fun n s' => ∃ i ys' σ' H', Inv (cxX (cxOf (CXr P w) P w K mg base N qual scopeF f cd A outer s0 H0 E) scope cl (x :: ys) s3 (upd H2 D (.lst [])) fp) [] σ' H' s' ∧ tn i s'.heap ∧ (∀ b ∈ fp, H' b = none) ∧ W i n ys' H' ∧ ∃ o, σ' = o :: slotsC ix σ) ?_ m0
      ⟨0, [], _, _, I4, st4, fun b hb => (hf3 b hb).1, w0, _, rfl⟩
    rintro n s5 ⟨i, ys', σ5, H5, I5, st5, fr5, w5, o5, rfl⟩
    rcases turn i n ys' H5 w5 with ⟨stop, qn⟩ | ⟨go, hlen, N9, hN, step⟩
    · refine thn (T.done (cxX (cxOf (CXr P w) P w K mg base N qual scopeF f cd A outer s0 H0 E) scope cl (x :: ys) s3 (upd H2 D (.lst [])) fp) rfl rfl rfl hc i [] s5 _ H5 _ I5 (stat fr5) st5 stop) fun r s6 ⟨hr, I6⟩ => ?_
      subst hr
      have I6' : Inv (cxC (cxOf (CXr P w) P w K mg base N qual scopeF f cd A outer s0 H0 E) scope cl (x :: ys) s3 (upd H2 D (.lst [])) fp) [] _ H5 s6 := I6.withXe _
      obtain ⟨J1, J2⟩ := inv_behind I3 hf3 I6'
      obtain ⟨m6, hn6, _⟩ := I6'.loc
      exact hRR D _ s6 H5 J1 ⟨m6, hn6⟩ J2 qn
    · refine thn (T.item (cxX (cxOf (CXr P w) P w K mg base N qual scopeF f cd A outer s0 H0 E) scope cl (x :: ys) s3 (upd H2 D (.lst [])) fp) rfl rfl rfl hc i [] s5 _ H5 _ I5 (stat fr5) st5 go) fun r s6 ⟨u, hr, h6⟩ => ?_
      subst hr
      refine thn h6 fun _ s7 ⟨v, H7, I7, r7, y7, st7, fr7⟩ => ?_
      have I7' := I7.pinned (stat fr7) (T.obj _ _ st7)
      have q7 := step v H7 y7
      refine wpAny_assign_Name (store_ok (i := 0) I7' S.nd rfl (.inl hx') r7 (fun s8 I8 => ?_) (.inr hx'))
      have I8 : Inv (cxX (cxOf (CXr P w) P w K mg base N qual scopeF f cd A outer s0 H0 E) scope cl (x :: ys) s3 (upd H2 D (.lst [])) fp) ([] ++ pinsAt fp s7.heap) (some v :: slotsC ix σ) H7 s8 := I8
      have q8 : te (some v :: slotsC ix σ) H7 fun y H3 => H3 D = some (.lst ys') ∧ N9 (ys' ++ [y]) (upd H3 D (.lst (ys' ++ [y]))) := q7
      have again : ∀ {ys'' : List V} {H10 : Hp} {s10 : Shared}, Inv (cxX (cxOf (CXr P w) P w K mg base N qual scopeF f cd A outer s0 H0 E) scope cl (x :: ys) s3 (upd H2 D (.lst [])) fp) ([] ++ pinsAt fp s7.heap) (some v :: slotsC ix σ) H10 s10 → N9 ys'' H10 →
          ∃ m, m < n ∧ ∃ i ys' σ' H', Inv (cxX (cxOf (CXr P w) P w K mg base N qual scopeF f cd A outer s0 H0 E) scope cl (x :: ys) s3 (upd H2 D (.lst [])) fp) [] σ' H' s10 ∧ tn i s10.heap ∧ (∀ b ∈ fp, H' b = none) ∧ W i m ys' H' ∧ ∃ o, σ' = o :: slotsC ix σ := fun {ys'' H10 s10} I10 n10 => by
        obtain ⟨m', hm, w10⟩ := hN _ _ n10
        refine ⟨m', hm, i + 1, ys'', _, H10, I10.unpinned, T.keep _ _ _ st7 fun b hb o e => (I10.pin (b, o) (List.mem_append_right _ (List.mem_append_right _ (mem_pinsAt hb e)))).1, fun b hb => ?_, w10, _, rfl⟩
        obtain ⟨o, e, d⟩ := T.obj _ _ st7 b hb
        exact (I10.pin (b, o) (List.mem_append_right _ (List.mem_append_right _ (mem_pinsAt hb e)))).2.1
      refine wpAny_mono (he _ _ _ ps _ s8 _ H7 _ I8 q8) (fun y s10 ⟨vy, H10, I10, r10, d10, n10⟩ => ?_) fun e s' z => hRE _ _ e s' z
      refine thn (mt_append (X := cxC (cxOf (CXr P w) P w K mg base N qual scopeF f cd A outer s0 H0 E) scope cl (x :: ys) s3 (upd H2 D (.lst [])) fp) _ s10 _ H10 (.ref D) [vy] _ _ (fun z H11 => z = .non ∧ H11 = upd H10 D (.lst (ys' ++ [vy]))) (I10.withXe _) rfl (.cons r10 .nil) ⟨D, ys', vy, rfl, rfl, d10, hlen, rfl, rfl⟩) fun _ s11 ⟨_, H11, I11, _, _, e11⟩ => ?_
      subst e11
      exact again (I11.withXe _) n10
  exact codeAny_compStart_list loop (T.self _ 0 _ _ _ st4 loop)
theorem ps_setCX {i : Nat} {y : Str} {py spos : Pos} (S : CScope (cxOf (CXr P w) P w K mg base N qual scopeF f cd A outer s0 H0 E) scope x ys ix) (hN : (cxOf (CXr P w) P w K mg base N qual scopeF f cd A outer s0 H0 E).N.Nodup) (hi' : (cxOf (CXr P w) P w K mg base N qual scopeF f cd A outer s0 H0 E).N[i]? = some y) (hy : (cxOf (CXr P w) P w K mg base N qual scopeF f cd A outer s0 H0 E).env.scope.names.lookup y = some .local)
    (hi : PI (cxOf (CXr P w) P w K mg base N qual scopeF f cd A outer s0 H0 E) (.Name x px) iter wi)
    (he : ∀ cl s3 H3 fp, Passes (CXr P w) (cxX (cxOf (CXr P w) P w K mg base N qual scopeF f cd A outer s0 H0 E) scope cl (x :: ys) s3 H3 fp) E → PE (cxX (cxOf (CXr P w) P w K mg base N qual scopeF f cd A outer s0 H0 E) scope cl (x :: ys) s3 H3 fp) elt te)
    (hsw : swapsWith (.ListComp elt [⟨.Name x px, iter, [], 0⟩] scope pos) (some (.Name y py)) spos.line (cxOf (CXr P w) P w K mg base N qual scopeF f cd A outer s0 H0 E).env = pure true := by rfl) (hs : ∀ x, foldedSetIterable iter (cxOf (CXr P w) P w K mg base N qual scopeF f cd A outer s0 H0 E).env x = pure x := by intro _; rfl) :
    PS (cxOf (CXr P w) P w K mg base N qual scopeF f cd A outer s0 H0 E) (.Assign [.Name y py] (.ListComp elt [⟨.Name x px, iter, [], 0⟩] scope pos) spos) (tAsg (tComp wi ix noIf te) (gName i)) := by
  intro pins s σ H D I h
  obtain ⟨cl, e1, c1, c2⟩ := cells_of I S
  rw [exec_Assign_Name_used _ _ _ _ hsw]
  refine wpAny_bind (wpAny_standAt (wpAny_bind ?_))
  show wpAny _ (cxOf (CXr P w) P w K mg base N qual scopeF f cd A outer s0 H0 E).A (do let _ ← comprehension (.ListComp elt [⟨.Name x px, iter, [], 0⟩] scope pos) scope (cxOf (CXr P w) P w K mg base N qual scopeF f cd A outer s0 H0 E).env _ (newList []) false (eval iter (cxOf (CXr P w) P w K mg base N qual scopeF f cd A outer s0 H0 E).env) (some (assign (.Name y py) (cxOf (CXr P w) P w K mg base N qual scopeF f cd A outer s0 H0 E).env))) _ _ s
  refine wpAny_bind (thn (Q := fun _ s' => SP (cxOf (CXr P w) P w K mg base N qual scopeF f cd A outer s0 H0 E) pins D .next s') (wpAny_comprehension_free (use := some (assign (.Name y py) (cxOf (CXr P w) P w K mg base N qual scopeF f cd A outer s0 H0 E).env)) rfl hs e1 S.kind S.names
    (thn (hi pins s σ H _ I h) fun v s1 h1 => thn h1 fun itv s2 h2 => ?_)) fun _ s' hq => wpAny_pure (wpAny_pure hq))
  obtain ⟨it, fp, tn, J, H2, e, I2, T, st2, f2, q2⟩ := h2
  subst e
  refine comp_walkX S c1 c2 (he cl) I2 T st2 f2 q2 (fun D' C s' H' I' hm fc q' => ?_) fun acc C e s' z => z
  obtain ⟨m, hn⟩ := hm
  show wpAny _ (cxOf (CXr P w) P w K mg base N qual scopeF f cd A outer s0 H0 E).A (assign (.Name y py) (cxOf (CXr P w) P w K mg base N qual scopeF f cd A outer s0 H0 E).env (.ref D')) _ _ s'
  refine wpAny_assign_Name (store_ok2 (v := .ref D') I' hN hi' (.inl hy) rfl (fun s'' I'' ch => ?_) (.inr hy))
  obtain ⟨a, sb, ha⟩ := ch
  have hCa : C ≠ a := by
    rcases ha with z | z
    · rw [z]; exact fc.2.1
    · exact fun q => fc.2.2.2.2.1 y a z q.symm
  refine ⟨m, hn.sameBut sb hCa, fun h' sb' => ?_⟩
  exact ⟨_, H', I''.turned (t' := s''.toks) (fun b o hb e => sb'.extBut b o hb e) fc.1 fc.2.1 fc.2.2.2.1 fc.2.2.2.2.1 fc.2.2.2.2.2, q'⟩
end
end L2

end
section
set_option Elab.async false
set_option linter.all false
set_option maxRecDepth 100000
set_option maxHeartbeats 4000000
namespace RR
open PySem PySem.W L2
def spRead (K : PySem.W.Frag) (c1 c5 : Addr) : Sp := fun vs H Q E => ∃ z : Str, vs = [.str z] ∧ z.length ≤ 900 ∧ (∀ p ∈ Txt.split z ⟨#[59]⟩, p.cps.all (· < 128) = true ∧ p.length ≤ 900) ∧
  (∀ ws : List Wd, (Txt.split z ⟨#[59]⟩).map readW = ws.map some → (∀ wd ∈ ws, wd.depth ≤ 8) → ∀ D us H', H D = none → Same H H' → H' D = some (.lst us) → WsAt H' ws us → Q (.ref D) H') ∧
  (∀ ws : List Wd, (Txt.split z ⟨#[59]⟩).map readW = ws.map some → (∃ wd ∈ ws, 8 < wd.depth) → ∀ H', Same H H' → E (.ref c1) none H') ∧
  ((∃ p ∈ Txt.split z ⟨#[59]⟩, readW p = none) → ∀ H', Same H H' → E (.ref c5) none H')
theorem all_some {α β : Type} {f : α → Option β} : ∀ {l : List α}, (∀ (i : Nat) (a : α), l[i]? = some a → ∃ b, f a = some b) → ∃ bs : List β, l.map f = bs.map some
  | [], _ => ⟨[], rfl⟩
  | a :: l, h => by
    obtain ⟨b, hb⟩ := h 0 a rfl
    obtain ⟨bs, hbs⟩ := all_some (l := l) fun i a hi => h (i + 1) a hi
    exact ⟨b :: bs, by rw [List.map_cons, hb, hbs]; rfl⟩
end RR
/-! ### the law's own reading: from the left, a word and what is left -/
namespace RR
open PySem PySem.W L2
def opn (l : List Nat) : Nat := l.countP fun c => c == 33 || c == 40
def pB (p : List Nat → Option (Wd × List Nat)) (a : Wd) (j : Nat) (r2 : List Nat) : Option (Wd × List Nat) :=
  match p r2 with
  | some (b, 41 :: r4) => some (joined j a b, r4)
  | _ => none
def pJ (p : List Nat → Option (Wd × List Nat)) (r : List Nat) : Option (Wd × List Nat) :=
  match p r with
  | some (a, j :: r2) => if j = 38 ∨ j = 124 then pB p a j r2 else none
  | _ => none
def pN (p : List Nat → Option (Wd × List Nat)) (r : List Nat) : Option (Wd × List Nat) :=
  match p r with
  | some (a, r1) => some (.nt a, r1)
  | none => none
def pD (k : Int → Wd) : List Nat → Option (Wd × List Nat)
  | c :: r => if 48 ≤ c ∧ c ≤ 57 then some (k ((c - 48 : Nat) : Int), r) else none
  | [] => none
def pA : Nat → List Nat → Option (Wd × List Nat)
  | 0, _ => none
  | _ + 1, [] => none
  | n + 1, c :: r =>
    if c = 49 then some (.on, r) else if c = 48 then some (.off, r) else if c = 114 then pD .relay r else if c = 98 then pD .button r
    else if c = 33 then pN (pA n) r else if c = 40 then pJ (pA n) r else none
theorem pD_some {k : Int → Wd} {l r : List Nat} {w : Wd} (h : pD k l = some (w, r)) : ∃ c, l = c :: r ∧ 48 ≤ c ∧ c ≤ 57 ∧ w = k ((c - 48 : Nat) : Int) := by
  cases l with
  | nil => cases h
  | cons c l =>
    simp only [pD] at h
    split at h
    · next hc =>
      cases h
      exact ⟨c, rfl, hc.1, hc.2, rfl⟩
    · cases h
theorem pA_sig : ∀ (n : Nat) (l : List Nat) (w : Wd) (r : List Nat), pA n l = some (w, r) → l = sig w ++ r ∧ w.ok 10 10
  | 0, _, _, _, h => by cases h
  | n + 1, [], _, _, h => by cases h
  | n + 1, c :: l, w, r, h => by
    simp only [pA] at h
    split at h
    · next hc => cases h; exact ⟨by rw [hc]; rfl, trivial⟩
    split at h
    · next hc => cases h; exact ⟨by rw [hc]; rfl, trivial⟩
    split at h
    · next hc =>
      obtain ⟨d, rfl, h1, h2, rfl⟩ := pD_some h
      refine ⟨?_, ?_⟩
      · rw [hc]
        simp [sig]
        omega
      · show (0 : Int) ≤ ((d - 48 : Nat) : Int) ∧ ((d - 48 : Nat) : Int) < 10
        omega
    split at h
    · next hc =>
      obtain ⟨d, rfl, h1, h2, rfl⟩ := pD_some h
      refine ⟨?_, ?_⟩
      · rw [hc]
        simp [sig]
        omega
      · show (0 : Int) ≤ ((d - 48 : Nat) : Int) ∧ ((d - 48 : Nat) : Int) < 10
        omega
    split at h
    · next hc =>
      unfold pN at h
      split at h
      · next a r1 e =>
        cases h
        obtain ⟨h1, h2⟩ := pA_sig n _ _ _ e
        exact ⟨by rw [hc, h1]; rfl, h2⟩
      · cases h
    split at h
    · next hc =>
      unfold pJ at h
      split at h
      · next a j r2 e =>
        obtain ⟨h1, h2⟩ := pA_sig n _ _ _ e
        split at h
        · next hj =>
          unfold pB at h
          split at h
          · next b r4 e2 =>
            cases h
            obtain ⟨h3, h4⟩ := pA_sig n _ _ _ e2
            rw [hc, h1, h3]
            unfold joined
            rcases hj with rfl | rfl
            · exact ⟨by simp [sig], h2, h4⟩
            · exact ⟨by simp [sig], h2, h4⟩
          · cases h
        · cases h
      · cases h
    · cases h
theorem sig_opn : ∀ w : Wd, w.ok 10 10 → ∀ (n : Nat) (r : List Nat), opn (sig w) < n → pA n (sig w ++ r) = some (w, r)
  | .on, _, n + 1, r, _ => by simp [sig, pA]
  | .off, _, n + 1, r, _ => by simp [sig, pA]
  | .relay k, hk, n + 1, r, _ => by
    have h0 : 0 ≤ k ∧ k < 10 := hk
    have e : ((48 + k.toNat - 48 : Nat) : Int) = k := by omega
    have c1 : 48 ≤ 48 + k.toNat ∧ 48 + k.toNat ≤ 57 := ⟨by omega, by omega⟩
    simp only [sig, List.cons_append, List.nil_append, pA, pD]
    rw [if_neg (by decide), if_neg (by decide), if_pos trivial, if_pos c1, e]
  | .button k, hk, n + 1, r, _ => by
    have h0 : 0 ≤ k ∧ k < 10 := hk
    have e : ((48 + k.toNat - 48 : Nat) : Int) = k := by omega
    have c1 : 48 ≤ 48 + k.toNat ∧ 48 + k.toNat ≤ 57 := ⟨by omega, by omega⟩
    simp only [sig, List.cons_append, List.nil_append, pA, pD]
    rw [if_neg (by decide), if_neg (by decide), if_neg (by decide), if_pos trivial, if_pos c1, e]
  | .nt a, hk, n + 1, r, h => by
    have h1 : opn (sig (.nt a)) = opn (sig a) + 1 := by simp [sig, opn]
    have := sig_opn a hk n r (by omega)
    simp only [sig, List.cons_append, pA, pN, this]
    simp
  | .an a b, hk, n + 1, r, h => by
    have h1 : opn (sig (.an a b)) = opn (sig a) + opn (sig b) + 1 := by simp [sig, opn, List.countP_append, List.countP_cons]
    have ha := sig_opn a hk.1 n (38 :: (sig b ++ (41 :: r))) (by omega)
    have hb := sig_opn b hk.2 n (41 :: r) (by omega)
    have e : sig (.an a b) ++ r = 40 :: (sig a ++ (38 :: (sig b ++ (41 :: r)))) := by simp [sig]
    rw [e]
    simp only [pA, pJ, ha, pB, hb, joined]
    simp
  | .or a b, hk, n + 1, r, h => by
    have h1 : opn (sig (.or a b)) = opn (sig a) + opn (sig b) + 1 := by simp [sig, opn, List.countP_append, List.countP_cons]
    have ha := sig_opn a hk.1 n (124 :: (sig b ++ (41 :: r))) (by omega)
    have hb := sig_opn b hk.2 n (41 :: r) (by omega)
    have e : sig (.or a b) ++ r = 40 :: (sig a ++ (124 :: (sig b ++ (41 :: r)))) := by simp [sig]
    rw [e]
    simp only [pA, pJ, ha, pB, hb, joined]
    simp
  | _, _, 0, _, h => absurd h (Nat.not_lt_zero _)
/-! ### the pile holds what was read -/
def flatP : List PItem → List Nat
  | [] => []
  | .sg c :: p => flatP p ++ [c]
  | .wd w :: p => flatP p ++ sig w
def okPl (p : List PItem) : Prop := ∀ w, PItem.wd w ∈ p → w.ok 10 10
theorem put_flat : ∀ (p : List PItem) (w : Wd), flatP (put p w) = flatP p ++ sig w
  | [], w => rfl
  | .wd _ :: _, w => rfl
  | .sg c :: r, w => by
    unfold put
    split
    · next hc =>
      rw [put_flat r (.nt w), hc]
      simp [flatP, sig]
    · rfl
theorem put_ok : ∀ {p : List PItem} {w : Wd}, okPl p → w.ok 10 10 → okPl (put p w)
  | [], w, _, h => fun v hv => by
    have : v = w := by simpa [put] using hv
    rw [this]; exact h
  | .wd u :: p, w, hp, h => fun v hv => by
    have hv' : PItem.wd v ∈ PItem.wd w :: .wd u :: p := hv
    rcases List.mem_cons.mp hv' with z | z
    · cases z; exact h
    · exact hp v z
  | .sg c :: r, w, hp, h => by
    unfold put
    split
    · exact put_ok (fun v hv => hp v (List.mem_cons_of_mem _ hv)) h
    · intro v hv
      rcases List.mem_cons.mp hv with z | z
      · cases z; exact h
      · exact hp v z
theorem step_flat {p p' : List PItem} {c : Nat} (hp : okPl p) (h : stepP p c = some p') : flatP p' = flatP p ++ [c] ∧ okPl p' := by
  unfold stepP at h
  split at h
  · next hc =>
    split at h
    · next d r =>
      cases h
      have hr : okPl r := fun v hv => hp v (List.mem_cons_of_mem _ hv)
      have hd : d = 114 ∨ d = 98 := by
        have := hc.2.2
        simpa [isRB] using this
      have hk : (0 : Int) ≤ ((c - 48 : Nat) : Int) ∧ ((c - 48 : Nat) : Int) < 10 := by omega
      rw [put_flat]
      rcases hd with rfl | rfl
      · refine ⟨?_, put_ok hr hk⟩
        simp [flatP, sig]
        omega
      · refine ⟨?_, put_ok hr hk⟩
        simp [flatP, sig]
        omega
    · cases h
  · split at h
    · next hc => cases h; exact ⟨by rw [put_flat, hc]; rfl, put_ok hp trivial⟩
    · split at h
      · next hc => cases h; exact ⟨by rw [put_flat, hc]; rfl, put_ok hp trivial⟩
      · split at h
        · next hc =>
          unfold closeP at h
          split at h
          · next b j a o r _ =>
            split at h
            · next hj =>
              cases h
              obtain ⟨rfl, hj⟩ := hj
              have ha := hp a (by simp)
              have hb := hp b (by simp)
              have hr : okPl r := fun v hv => hp v (by simp [hv])
              rw [put_flat, hc]
              rcases hj with rfl | rfl
              · exact ⟨by simp [flatP, sig], put_ok hr ⟨ha, hb⟩⟩
              · exact ⟨by simp [flatP, sig], put_ok hr ⟨ha, hb⟩⟩
            · cases h
          · cases h
        · cases h
          exact ⟨rfl, fun v hv => hp v (by simpa using hv)⟩
theorem run_flat : ∀ (l : List Nat) (p p' : List PItem), okPl p → l.foldlM stepP p = some p' → flatP p' = flatP p ++ l ∧ okPl p'
  | [], p, p', hp, h => by
    cases h
    exact ⟨by simp, hp⟩
  | c :: l, p, p', hp, h => by
    rw [List.foldlM_cons] at h
    cases e : stepP p c with
    | none => rw [e] at h; cases h
    | some p1 =>
      rw [e] at h
      obtain ⟨h1, h2⟩ := step_flat hp e
      obtain ⟨h3, h4⟩ := run_flat l p1 p' h2 h
      exact ⟨by rw [h3, h1]; simp, h4⟩
theorem readW_iff {z : Str} {w : Wd} : readW z = some w ↔ z.cps.toList = sig w ∧ w.ok 10 10 := by
  constructor
  · intro h
    unfold readW at h
    cases e : z.cps.toList.foldlM stepP [] with
    | none => rw [e] at h; cases h
    | some p =>
      rw [e] at h
      have h' : oneW p = some w := h
      unfold oneW at h'
      split at h'
      · cases h'
        obtain ⟨h1, h2⟩ := run_flat _ [] _ (fun v hv => by cases hv) e
        exact ⟨by simpa [flatP] using h1.symm, h2 w (by simp)⟩
      · cases h'
  · rintro ⟨h1, h2⟩
    unfold readW
    rw [h1, parse_sig h2]
    rfl
/-- the two readings of a text agree -/
theorem read_same {z : Str} {n : Nat} (h : opn z.cps.toList < n) : readW z = match pA n z.cps.toList with
    | some (w, []) => some w
    | _ => none := by
  cases e : readW z with
  | some w =>
    obtain ⟨h1, h2⟩ := readW_iff.mp e
    have := sig_opn w h2 n [] (by rw [← h1]; exact h)
    rw [List.append_nil, ← h1] at this
    rw [this]
  | none =>
    split
    · next w e2 =>
      obtain ⟨h1, h2⟩ := pA_sig _ _ _ _ e2
      rw [List.append_nil] at h1
      rw [readW_iff.mpr ⟨h1, h2⟩] at e
      cases e
    · rfl
end RR

end
section
set_option Elab.async false
set_option linter.all false
set_option maxRecDepth 100000
set_option maxHeartbeats 4000000
namespace L2
open PySem PySem.Spec PyProof.Rows
section
variable {X : Cx}
def rFind : V → List V → Hp → VK → Prop := fun x vs H Q => ∃ z y i rest, x = .str z ∧ vs = [.str y] ∧ Builtin.Str.occurrences z y 0 z.length 1 = i :: rest ∧ Q (.int (i : Nat)) H
theorem mt_find : MtR X "str.find" rFind := by
  intro pins s σ H x xs v us Q I rx r h
  obtain ⟨z, y, i, rest, rfl, rfl, hz, q⟩ := h
  obtain ⟨t, rfl⟩ := rx
  obtain ⟨u, rfl, t', rfl⟩ := vals1 r
  have g := gives_str_find z y t t'
  rw [hz] at g
  exact call_gives PySem.F.slot_str_find (typeIs_str s z t) PySem.F.entry_str_find (PySem.F.args_str_find_2 _ _) g ⟨.int i, H, I.tok _, ⟨_, rfl⟩, q⟩
end
end L2
namespace RR
open PySem PySem.W L2 PyProof.Rows
theorem idx_hi (len : Nat) {i j : Int} (h : (len : Int) ≤ j) : Builtin.Str.strSliceIndices (some i) (some j) 1 len = Builtin.Str.strSliceIndices (some i) (some (len : Int)) 1 len := by
  simp only [Builtin.Str.strSliceIndices]
  have e1 : (if j < 0 then j + (len : Int) else j) = j := if_neg (by omega)
  have e2 : (if (len : Int) < 0 then (len : Int) + (len : Int) else (len : Int)) = (len : Int) := if_neg (by omega)
  rw [e1, e2]
  have e3 : min j (len : Int) = min (len : Int) (len : Int) := by omega
  rw [e3]
  simp
theorem slice_ss {z : Str} {i j : Nat} (h : i ≤ j) (hi : i ≤ z.length) : Txt.slice z (some (i : Int)) (some (j : Int)) = ⟨((z.cps.toList.drop i).take (j - i)).toArray⟩ := by
  have hl : z.cps.toList.length = z.length := by rw [Array.length_toList]; rfl
  by_cases hj : j ≤ z.length
  · have := eq_of_beq (slice_closesL (x := z) (i := (i : Int)) (j := (j : Int)) (by omega) (by omega) (by omega))
    rw [this]
    have e1 : ((j : Int) - (i : Int)).toNat = j - i := by omega
    have e2 : ((i : Int)).toNat = i := by omega
    rw [e1, e2]
  · have e : Txt.slice z (some (i : Int)) (some (j : Int)) = Txt.slice z (some (i : Int)) (some (z.length : Int)) := by
      unfold Txt.slice
      rw [idx_hi z.length (show (z.length : Int) ≤ (j : Int) by omega)]
    rw [e]
    have := eq_of_beq (slice_closesL (x := z) (i := (i : Int)) (j := (z.length : Int)) (by omega) (by omega) (by omega))
    rw [this]
    have e1 : ((z.length : Int) - (i : Int)).toNat = z.length - i := by omega
    have e2 : ((i : Int)).toNat = i := by omega
    rw [e1, e2, List.take_of_length_le (by rw [List.length_drop]; omega), List.take_of_length_le (by rw [List.length_drop]; omega)]
/-- the sign ahead -/
def sgn : List Nat → Str
  | c :: _ => ⟨#[c]⟩
  | [] => ⟨#[]⟩
theorem slice_one {z : Str} {i : Nat} (hi : i ≤ z.length) : Txt.slice z (some (i : Int)) (some ((i : Int) + 1)) = sgn (z.cps.toList.drop i) := by
  have : ((i : Int) + 1) = ((i + 1 : Nat) : Int) := by omega
  rw [this, slice_ss (by omega) hi]
  have e : i + 1 - i = 1 := by omega
  rw [e]
  cases z.cps.toList.drop i with
  | nil => rfl
  | cons c r => rfl
theorem sgn_is (l : List Nat) (k : Nat) : decide (V.str (sgn l) = V.str ⟨#[k]⟩) = decide (l.head? = some k) := by
  refine decide_eq_decide.mpr ?_
  cases l with
  | nil => simp [sgn]
  | cons c r => simp [sgn]
/-- where the text r ends the text l -/
theorem drop_end {l s r : List Nat} {i : Nat} (h : l.drop i = s ++ r) : l.drop (l.length - r.length) = r ∧ r.length ≤ l.length := by
  have hl : (l.drop i).length = s.length + r.length := by rw [h]; simp
  rw [List.length_drop] at hl
  by_cases hi : i ≤ l.length
  · have e : l.length - r.length = i + s.length := by omega
    refine ⟨?_, by omega⟩
    rw [e, ← List.drop_drop, h]
    simp
  · have : r.length = 0 := by omega
    have hr : r = [] := List.eq_nil_of_length_eq_zero this
    subst hr
    simp
def spAt (n : Nat) : Sp := fun vs H Q _ => ∃ (z : Str) (i : Nat), vs = [.str z, .int i] ∧ z.cps.all (· < 128) = true ∧ z.length ≤ 900 ∧ i ≤ z.length ∧ opn (z.cps.toList.drop i) < n ∧
  (pA n (z.cps.toList.drop i) = none → ∀ H', Same H H' → Q .non H') ∧
  (∀ w r, pA n (z.cps.toList.drop i) = some (w, r) → ∀ t v H', Same H H' → H' t = some (.tup [v, .int ((z.length - r.length : Nat) : Int), .int (w.depth : Nat)]) → WAt H' w v → Q (.ref t) H')
end RR
namespace RR
open PySem PySem.W L2 PyProof.Rows
theorem pick_t {b : Bool} {x y : V} (h : b = true) : atI [x, y] (if b = true then 1 else 0) = some y := by rw [if_pos h]; exact at1 _ _ _
theorem pick_f {b : Bool} {x y : V} (h : b = false) : atI [x, y] (if b = true then 1 else 0) = some x := by rw [if_neg (by rw [h]; decide)]; exact at0 _ _
theorem opn_cons (c : Nat) (l : List Nat) : opn (c :: l) = opn l + if c = 33 ∨ c = 40 then 1 else 0 := by
  unfold opn
  rw [List.countP_cons]
  by_cases h : c = 33 ∨ c = 40
  · rw [if_pos h]
    simp [h]
  · rw [if_neg h]
    have : ¬ (c = 33) ∧ ¬ (c = 40) := by omega
    simp [this]
theorem opn_app (a b : List Nat) : opn (a ++ b) = opn a + opn b := List.countP_append
end RR
namespace RR
open PySem PySem.W L2 PyProof.Rows
theorem sgn_lay {l : List Nat} (h : ∀ c ∈ l, c < 128) : (PyData.str (sgn l)).canLay0 = true := by
  cases l with
  | nil => decide +kernel
  | cons c r => exact lay_sign (h c (by simp))
theorem sgn_eqv (l : List Nat) (k : Nat) : PyData.eqv (.str ⟨#[k]⟩) (.str (sgn l)) = decide (l.head? = some k) := by
  cases l with
  | nil => simp [sgn, PyData.eqv]
  | cons c r =>
    show PyData.eqv (.str ⟨#[k]⟩) (.str ⟨#[c]⟩) = _
    rw [eqv_sign]
    refine decide_eq_decide.mpr ?_
    simp
    exact ⟨Eq.symm, Eq.symm⟩
end RR

end
section
set_option Elab.async false
set_option linter.all false
set_option maxRecDepth 100000
set_option maxHeartbeats 4000000
namespace RR
open PySem PySem.W L2 PyProof.Rows
def allW : List Str → Option (List Wd)
  | [] => some []
  | p :: r => match readW p, allW r with
    | some w, some ws => some (w :: ws)
    | _, _ => none
theorem allW_map : ∀ {ps : List Str} {ws : List Wd}, allW ps = some ws → ps.map readW = ws.map some
  | [], ws, h => by cases h; rfl
  | p :: r, ws, h => by
    simp only [allW] at h
    split at h
    · next w ws' e1 e2 =>
      cases h
      rw [List.map_cons, e1, allW_map e2]
      rfl
    · cases h
theorem map_allW : ∀ {ps : List Str} {ws : List Wd}, ps.map readW = ws.map some → allW ps = some ws
  | [], [], _ => rfl
  | [], _ :: _, h => by cases h
  | _ :: _, [], h => by cases h
  | p :: r, w :: ws, h => by
    rw [List.map_cons, List.map_cons] at h
    have h1 : readW p = some w := by injection h
    have h2 : r.map readW = ws.map some := by injection h
    simp only [allW, h1, map_allW h2]
theorem allW_none : ∀ {ps : List Str} {p : Str}, p ∈ ps → readW p = none → allW ps = none
  | q :: r, p, h, e => by
    simp only [allW]
    rcases List.mem_cons.mp h with z | z
    · rw [← z, e]
    · rw [allW_none z e]
      cases readW q <;> rfl
theorem allW_bad : ∀ {ps : List Str}, allW ps = none → ∃ p ∈ ps, readW p = none
  | [], h => by cases h
  | q :: r, h => by
    cases e : readW q with
    | none => exact ⟨q, by simp, e⟩
    | some w =>
      cases e2 : allW r with
      | none =>
        obtain ⟨p, hp, hn⟩ := allW_bad e2
        exact ⟨p, by simp [hp], hn⟩
      | some ws =>
        simp only [allW, e, e2] at h
        cases h
theorem allW_snoc : ∀ {ps : List Str} {p : Str} {ws : List Wd} {w : Wd}, allW ps = some ws → readW p = some w → allW (ps ++ [p]) = some (ws ++ [w]) := fun {ps p ws w} h1 h2 => by
  apply map_allW
  rw [List.map_append, allW_map h1, List.map_append]
  simp [h2]
def outOf (ps : List Str) : Nat ⊕ List Wd := match allW ps with
  | none => .inl 5
  | some ws => if ws.any (fun w => decide (8 < w.depth)) = true then .inl 1 else .inr ws
/-- a text that may be handed in -/
structure GT (z : Str) : Prop where
  asc : z.cps.all (· < 128) = true
  len : z.length ≤ 900
  op : opn z.cps.toList ≤ 98
def cuts (z : Str) : List Str := Txt.split z ⟨#[59]⟩
theorem glue_mem {c : Nat} : ∀ {l : List (List Nat)} {p : List Nat}, p ∈ l → (∀ x ∈ p, x ∈ glueL c l) ∧ p.length ≤ (glueL c l).length ∧ opn p ≤ opn (glueL c l)
  | [x], p, h => by
    have : p = x := by simpa using h
    subst this
    exact ⟨fun _ h => h, Nat.le_refl _, Nat.le_refl _⟩
  | x :: y :: r, p, h => by
    show (∀ z ∈ p, z ∈ x ++ c :: glueL c (y :: r)) ∧ p.length ≤ (x ++ c :: glueL c (y :: r)).length ∧ opn p ≤ opn (x ++ c :: glueL c (y :: r))
    rw [opn_app, opn_cons]
    rcases List.mem_cons.mp h with z | z
    · subst z
      exact ⟨fun _ h => List.mem_append_left _ h, by simp, by omega⟩
    · obtain ⟨h1, h2, h3⟩ := glue_mem (c := c) z
      refine ⟨fun q hq => List.mem_append_right _ (List.mem_cons_of_mem _ (h1 q hq)), by simp; omega, by omega⟩
theorem GT.cut {z : Str} (g : GT z) {p : Str} (h : p ∈ cuts z) : GT p := by
  have hj := StrLaws.join_split z ⟨#[59]⟩
  have e : z.cps.toList = glueL 59 ((cuts z).map fun q => q.cps.toList) := by
    rw [← join_list, show Str.join ⟨#[59]⟩ (cuts z) = z from hj]
  obtain ⟨h1, h2, h3⟩ := glue_mem (c := 59) (l := (cuts z).map fun q => q.cps.toList) (p := p.cps.toList) (List.mem_map.mpr ⟨p, h, rfl⟩)
  rw [← e] at h1 h2 h3
  refine ⟨?_, ?_, Nat.le_trans h3 g.op⟩
  · rw [Array.all_eq_true_iff_forall_mem]
    intro c hc
    exact Array.all_eq_true_iff_forall_mem.mp g.asc c (by simpa using h1 c (by simpa using hc))
  · rw [Array.length_toList, Array.length_toList] at h2
    exact Nat.le_trans h2 g.len
def spToldR (K : PySem.W.Frag) : Sp := fun vs H Q _ => ∃ z : Str, vs = [.str z] ∧ GT z ∧
  ∀ p v m bs H', Same H H' → H' p = some (.tup [v, .ref m]) → H' m = some (.lst (bs.map V.bl)) → (match outOf (cuts z) with
    | .inl k => bs = marksOf k
    | .inr ws => bs = [] ∧ (∀ wd ∈ ws, wd.depth ≤ 8) ∧ ∃ D us, v = .ref D ∧ H' D = some (.lst us) ∧ WsAt H' ws us) → Q (.ref p) H'
def spDueR (K : PySem.W.Frag) : Sp := fun vs H Q _ => ∃ z : Str, vs = [.str z] ∧ GT z ∧ (match outOf (cuts z) with
    | .inl k => ∀ H', Same H H' → Q (.int (k : Nat)) H'
    | .inr ws => ∀ D us H', Same H H' → H' D = some (.lst us) → WsAt H' ws us → Q (.ref D) H')
end RR
namespace RR
open PySem PySem.W L2 PyProof.Rows
def odds : List Str := ["", ";", "r0;", ";b1", "r", "b", "r10", "rb", "(r0)", "(r0&r1", "r0&r1", "(r0&r1&r2)", "((r0&r1)|)", "!", "!!", "(!r0&!!b1)", "!(r0|1)!", "r 0", "(r0 & r1)", "R0"]
def okT (z : Str) : Bool := z.cps.all (· < 128) && decide (z.length ≤ 900) && decide (opn z.cps.toList ≤ 98)
theorem okT_gt {z : Str} (h : okT z = true) : GT z := by
  simp only [okT, Bool.and_eq_true, decide_eq_true_eq] at h
  exact ⟨h.1.1, h.1.2, h.2⟩
theorem odds_ok : odds.all okT = true := by decide +kernel
def spOdd : Sp := fun vs H Q _ => ∃ c : Int, vs = [.int c] ∧ ∀ z H', Same H H' → GT z → Q (.str z) H'
end RR
namespace L2
open PySem PySem.Spec PyProof.Rows
/-- written texts, all of them -/
inductive StrsAre : List Expr → List Str → Prop where
  | nil : StrsAre [] []
  | cons {x : Str} {j : Nat} {pos : Pos} {es : List Expr} {ss : List Str} (h : StrsAre es ss) : StrsAre (.Constant (.str x) j pos :: es) (x :: ss)
def tStrs (ss : List Str) : TA := fun _ H Q => Q (ss.map V.str) H
theorem pa_strs {X : Cx} : ∀ {es : List Expr} {ss : List Str}, StrsAre es ss → PA X es (tStrs ss)
  | _, _, .nil => fun _ _ _ _ H Q I h => Calls.spliced_nil ⟨[], H, I, .nil, h⟩
  | _, _, .cons h => by
    intro pos pins s σ H Q I hq
    exact (pa_cons pe_str (pa_strs h)) pos pins s σ H Q I hq
end L2

end
section
set_option Elab.async false
set_option linter.all false
set_option maxRecDepth 100000
set_option maxHeartbeats 4000000
namespace RR
open PySem PySem.W L2 PyProof.Rows
structure LT (l : List Nat) (n o : Nat) : Prop where
  asc : ∀ c ∈ l, c < 128
  len : l.length ≤ n
  op : opn l ≤ o
abbrev ST (z : Str) (n o : Nat) : Prop := LT z.cps.toList n o
theorem LT.mono {l : List Nat} {n o n' o' : Nat} (h : LT l n o) (a : n ≤ n') (b : o ≤ o') : LT l n' o' := ⟨h.asc, Nat.le_trans h.len a, Nat.le_trans h.op b⟩
theorem LT.nil : LT [] 0 0 := ⟨fun c h => by (cases h), Nat.le_refl _, Nat.le_refl _⟩
theorem LT.take {l : List Nat} {n o : Nat} (h : LT l n o) (k : Nat) : LT (l.take k) n o := by
  refine ⟨fun c hc => h.asc c (List.mem_of_mem_take hc), Nat.le_trans (by rw [List.length_take]; omega) h.len, ?_⟩
  have := h.op
  have e : opn l = opn (l.take k) + opn (l.drop k) := by rw [← opn_app, List.take_append_drop]
  omega
theorem LT.drop {l : List Nat} {n o : Nat} (h : LT l n o) (k : Nat) : LT (l.drop k) n o := by
  refine ⟨fun c hc => h.asc c (List.mem_of_mem_drop hc), Nat.le_trans (by rw [List.length_drop]; omega) h.len, ?_⟩
  have := h.op
  have e : opn l = opn (l.take k) + opn (l.drop k) := by rw [← opn_app, List.take_append_drop]
  omega
theorem LT.app {a b : List Nat} {n o m p : Nat} (h : LT a n o) (g : LT b m p) : LT (a ++ b) (n + m) (o + p) := by
  refine ⟨fun c hc => ?_, ?_, ?_⟩
  · rcases List.mem_append.mp hc with z | z
    · exact h.asc c z
    · exact g.asc c z
  · have := h.len
    have := g.len
    rw [List.length_append]
    omega
  · have := h.op
    have := g.op
    rw [opn_app]
    omega
theorem LT.one {c : Nat} (h : c < 128) : LT [c] 1 1 := by
  refine ⟨fun d hd => ?_, Nat.le_refl _, ?_⟩
  · have : d = c := by simpa using hd
    omega
  · rw [opn_cons]
    show 0 + _ ≤ 1
    split <;> omega
theorem LT.glue {n o : Nat} : ∀ {ls : List (List Nat)}, (∀ l ∈ ls, LT l n o) → LT (glueL 59 ls) (ls.length * (n + 1)) (ls.length * o)
  | [], _ => ⟨fun c h => by (cases h), Nat.zero_le _, Nat.zero_le _⟩
  | [x], h => (h x (by simp)).mono (by simp) (by simp)
  | x :: y :: r, h => by
    have h1 := h x (by simp)
    have h2 := LT.glue (ls := y :: r) fun l hl => h l (by simp at hl ⊢; right; exact hl)
    have := h1.app ((LT.one (c := 59) (by decide)).app h2)
    have e0 : opn [59] = 0 := by decide
    refine ⟨this.asc, Nat.le_trans this.len ?_, ?_⟩
    · simp only [List.length_cons, Nat.succ_mul]
      omega
    · show opn (x ++ (59 :: glueL 59 (y :: r))) ≤ _
      rw [opn_app, opn_cons]
      have a1 := h1.op
      have a2 := h2.op
      simp only [List.length_cons, Nat.succ_mul] at a2 ⊢
      rw [if_neg (by decide)]
      omega
theorem ST.gt {z : Str} {n o : Nat} (h : ST z n o) (hn : n ≤ 900) (ho : o ≤ 98) : GT z := by
  refine ⟨?_, ?_, Nat.le_trans h.op ho⟩
  · rw [Array.all_eq_true_iff_forall_mem]
    intro c hc
    exact decide_eq_true (h.asc c (by simpa using hc))
  · have := h.len
    rw [Array.length_toList] at this
    exact Nat.le_trans this hn
theorem ST.len' {z : Str} {n o : Nat} (h : ST z n o) : z.length ≤ n := by
  have := h.len
  rw [Array.length_toList] at this
  exact this
theorem ST.add {a b : Str} {n o m p : Nat} (h : ST a n o) (g : ST b m p) : ST (a ++ b) (n + m) (o + p) := by
  have e : (a ++ b).cps.toList = a.cps.toList ++ b.cps.toList := by
    show (a.cps ++ b.cps).toList = _
    simp
  unfold ST
  rw [e]
  exact h.app g
theorem ST.to {z : Str} {n o : Nat} (h : ST z n o) {i : Int} (h0 : 0 ≤ i) (h1 : i ≤ z.length) : ST (Txt.slice z none (some i)) n o := by
  have := eq_of_beq (slice_closes_toL (x := z) (j := i) h0 h1)
  rw [this]
  show LT ((List.take (i - 0).toNat (List.drop (Int.toNat 0) z.cps.toList)).toArray.toList) n o
  rw [List.toList_toArray]
  exact (LT.drop h _).take _
theorem ST.from {z : Str} {n o : Nat} (h : ST z n o) {i : Int} (h0 : 0 ≤ i) : ST (Txt.slice z (some i) none) n o := by
  by_cases h1 : i ≤ z.length
  · rw [slice_from_eq h0 h1 rfl]
    show LT ((List.take _ (List.drop _ z.cps.toList)).toArray.toList) n o
    rw [List.toList_toArray]
    exact (LT.drop h _).take _
  · rw [slice_from_beyond (by omega)]
    exact LT.nil.mono (Nat.zero_le _) (Nat.zero_le _)
theorem ST.glued {ss : List Str} {n o : Nat} (h : ∀ s ∈ ss, ST s n o) : ST (Builtin.Str.glued ⟨#[59]⟩ ss) (ss.length * (n + 1)) (ss.length * o) := by
  unfold ST
  rw [StrLaws.glued_eq_join, join_list]
  have := LT.glue (n := n) (o := o) (ls := ss.map fun z => z.cps.toList) fun l hl => by
    obtain ⟨z, hz, rfl⟩ := List.mem_map.mp hl
    exact h z hz
  rw [List.length_map] at this
  exact this
theorem sig_op : ∀ w : Wd, 2 * (opn (sig w) + 1) ≤ 2 ^ w.depth
  | .on => by decide
  | .off => by decide
  | .relay k => by
    have : opn (sig (.relay k)) = 0 := by
      simp only [sig]
      rw [opn_cons, opn_cons, if_neg (show ¬ (48 + k.toNat = 33 ∨ 48 + k.toNat = 40) by omega), if_neg (by decide)]
      rfl
    rw [this]
    show 2 * (0 + 1) ≤ 2 ^ 1
    decide
  | .button k => by
    have : opn (sig (.button k)) = 0 := by
      simp only [sig]
      rw [opn_cons, opn_cons, if_neg (show ¬ (48 + k.toNat = 33 ∨ 48 + k.toNat = 40) by omega), if_neg (by decide)]
      rfl
    rw [this]
    show 2 * (0 + 1) ≤ 2 ^ 1
    decide
  | .nt a => by
    have h1 := sig_op a
    show 2 * (opn (33 :: sig a) + 1) ≤ 2 ^ (a.depth + 1)
    rw [opn_cons, if_pos (.inl rfl), Nat.pow_succ]
    omega
  | .an a b => by
    have h1 := sig_op a
    have h2 := sig_op b
    have e1 : 2 ^ a.depth ≤ 2 ^ max a.depth b.depth := Nat.pow_le_pow_right (by decide) (by omega)
    have e2 : 2 ^ b.depth ≤ 2 ^ max a.depth b.depth := Nat.pow_le_pow_right (by decide) (by omega)
    have : opn (sig (.an a b)) = opn (sig a) + opn (sig b) + 1 := by simp [sig, opn, List.countP_append, List.countP_cons]
    rw [this]
    show _ ≤ 2 ^ (max a.depth b.depth + 1)
    rw [Nat.pow_succ]
    omega
  | .or a b => by
    have h1 := sig_op a
    have h2 := sig_op b
    have e1 : 2 ^ a.depth ≤ 2 ^ max a.depth b.depth := Nat.pow_le_pow_right (by decide) (by omega)
    have e2 : 2 ^ b.depth ≤ 2 ^ max a.depth b.depth := Nat.pow_le_pow_right (by decide) (by omega)
    have : opn (sig (.or a b)) = opn (sig a) + opn (sig b) + 1 := by simp [sig, opn, List.countP_append, List.countP_cons]
    rw [this]
    show _ ≤ 2 ^ (max a.depth b.depth + 1)
    rw [Nat.pow_succ]
    omega
theorem txt_st {wd : Wd} (h : wd.ok 10 10) (hd : wd.depth ≤ 4) : ST (txt wd) 77 7 := by
  have h1 := sig_len wd
  have h2 := sig_op wd
  have h3 : 2 ^ wd.depth ≤ 2 ^ 4 := Nat.pow_le_pow_right (by decide) hd
  show LT ((sig wd).toArray.toList) 77 7
  rw [List.toList_toArray]
  exact ⟨fun c hc => (sig_free wd h c hc).2, by omega, by omega⟩
theorem bangs : ∀ m, m < 12 → (Builtin.Str.glued "" (List.replicate m "!")).cps.toList = List.replicate m 33 := by decide +kernel
theorem bangs_st {m : Nat} (h : m < 12) : ST (Builtin.Str.glued "" (List.replicate m "!")) 11 11 := by
  unfold ST
  rw [bangs m h]
  have : ∀ k, LT (List.replicate k 33) k k := by
    intro k
    induction k with
    | zero => exact LT.nil
    | succ k ih =>
      rw [List.replicate_succ]
      have := (LT.one (c := 33) (by decide)).app ih
      exact this.mono (by omega) (by omega)
  exact (this m).mono (by omega) (by omega)
def putTx : Str := "rb01!(&|);9 x_+2"
theorem put_at : ∀ j, j < 16 → ∃ c, putTx.cps.toList[j]? = some c ∧ c < 128 := by
  intro j hj
  have h : ∀ j, j < 16 → (match putTx.cps.toList[j]? with | some c => decide (c < 128) | none => false) = true := by decide +kernel
  have := h j hj
  cases e : putTx.cps.toList[j]? with
  | none => rw [e] at this; cases this
  | some c => rw [e] at this; exact ⟨c, rfl, of_decide_eq_true this⟩
theorem ixN_nat {n j : Nat} (h : j < n) : ixN n (j : Int) = some j := by
  unfold ixN
  rw [if_pos (by omega)]
  simp
  try omega
end RR
namespace RR
open PySem PySem.W L2 PyProof.Rows
theorem strs_of {P : Str → Prop} : ∀ {us : List V}, (∀ (i : Nat) (y : V), us[i]? = some y → ∃ z, y = .str z ∧ P z) → ∃ ss : List Str, us = ss.map V.str ∧ ∀ z ∈ ss, P z
  | [], _ => ⟨[], rfl, fun z h => by (cases h)⟩
  | y :: us, h => by
    obtain ⟨z, rfl, hz⟩ := h 0 _ rfl
    obtain ⟨ss, rfl, hss⟩ := strs_of (us := us) fun i y hi => h (i + 1) y hi
    exact ⟨z :: ss, rfl, fun x hx => by
      rcases List.mem_cons.mp hx with e | e
      · rw [e]; exact hz
      · exact hss x e⟩
theorem bangs_short : ∀ m, m < 12 → Builtin.Str.tooLong ((List.replicate m ("!" : Str)).toArray.foldl (fun n x => n + x.length + ("" : Str).length) 0) = false := by decide +kernel
end RR
namespace RR
open PySem PySem.W L2 PyProof.Rows
theorem opn_add (a b : Str) : opn (a ++ b).cps.toList = opn a.cps.toList + opn b.cps.toList := by
  have e : (a ++ b).cps.toList = a.cps.toList ++ b.cps.toList := by
    show (a.cps ++ b.cps).toList = _
    simp
  rw [e, opn_app]
theorem ST.gt' {z : Str} {n o : Nat} (h : ST z n o) (hn : n ≤ 900) (ho : opn z.cps.toList ≤ 98) : GT z := ST.gt (n := n) (o := opn z.cps.toList) ⟨h.asc, h.len, Nat.le_refl _⟩ hn ho
theorem opn_drop_le (l : List Nat) (k : Nat) : opn (l.drop k) ≤ opn l := by
  have e : opn l = opn (l.take k) + opn (l.drop k) := by rw [← opn_app, List.take_append_drop]
  omega
theorem to_list {z : Str} {i : Int} (h0 : 0 ≤ i) (h1 : i ≤ z.length) : (Txt.slice z none (some i)).cps.toList = z.cps.toList.take i.toNat := by
  have := eq_of_beq (slice_closes_toL (x := z) (j := i) h0 h1)
  rw [this]
  show ((List.take (i - 0).toNat (List.drop (Int.toNat 0) z.cps.toList)).toArray.toList) = _
  rw [List.toList_toArray]
  have e : (i - 0).toNat = i.toNat := by omega
  rw [e]
  rfl
theorem from_list {z : Str} {i : Int} (h0 : 0 ≤ i) : (Txt.slice z (some i) none).cps.toList = z.cps.toList.drop i.toNat := by
  have hl : z.cps.toList.length = z.length := by rw [Array.length_toList]; rfl
  by_cases h1 : i ≤ z.length
  · rw [slice_from_eq h0 h1 rfl]
    show ((List.take _ (List.drop _ z.cps.toList)).toArray.toList) = _
    rw [List.toList_toArray, List.take_of_length_le (by rw [List.length_drop]; omega)]
  · rw [slice_from_beyond (by omega), List.drop_eq_nil_of_le (by omega)]
theorem cut_op {z : Str} {n o : Nat} (h : ST z n o) {i : Int} (h0 : 0 ≤ i) (h1 : i ≤ z.length) : opn (Txt.slice z none (some i)).cps.toList + opn (Txt.slice z (some i) none).cps.toList ≤ o ∧ opn (Txt.slice z none (some i)).cps.toList + opn (Txt.slice z (some (i + 1)) none).cps.toList ≤ o := by
  have hop := h.op
  rw [to_list h0 h1, from_list h0, from_list (show (0 : Int) ≤ i + 1 by omega)]
  have e : opn z.cps.toList = opn (z.cps.toList.take i.toNat) + opn (z.cps.toList.drop i.toNat) := by rw [← opn_app, List.take_append_drop]
  have e2 : (i + 1).toNat = i.toNat + 1 := by omega
  have e3 := opn_drop_le (z.cps.toList.drop i.toNat) 1
  rw [List.drop_drop] at e3
  rw [e2]
  omega
end RR

end
section
set_option Elab.async false
set_option maxHeartbeats 4000000
set_option linter.all false
set_option maxRecDepth 100000
namespace RR
open PySem L2
def top (i : Nat) : Stmt := PySem.Challenge.pw_relayroom_k14_read.main.body.getD i (.Pass ⟨0, 0, 0, 0⟩)
abbrev sParts : Stmt := top 10
abbrev sIsDeeper : Stmt := top 11
abbrev sRead : Stmt := top 17
abbrev sReadWord : Stmt := top 18
abbrev sTakeSign : Stmt := top 19
abbrev sPutWord : Stmt := top 20
abbrev sClosed : Stmt := top 21
abbrev sCell : Stmt := top 23
abbrev sPick : Stmt := top 24
abbrev sLWhole : Stmt := top 25
abbrev sMix : Stmt := top 26
abbrev sLeaf : Stmt := top 27
abbrev sWord : Stmt := top 28
abbrev sLText : Stmt := top 30
abbrev sLIsWord : Stmt := top 31
abbrev sLRefused : Stmt := top 32
abbrev sLTold : Stmt := top 33
abbrev sLAt : Stmt := top 34
abbrev sLDue : Stmt := top 35
abbrev sLOdd : Stmt := top 36
abbrev sLaw : Stmt := top 37
section
variable {P : Program} {w : World} {K : PySem.W.Frag} {mg : Str → Option Value} {base : Heap} {f : Addr} {fd : FuncData}
theorem scCell : FnScope ["script", "k"] ["script", "k"] (defScope sCell) := ⟨rfl, rfl, rfl, by decide +kernel, rfl, by decide +kernel, by decide +kernel⟩
theorem ok_cell (F : Fun K "_law_cell_at" "_law_cell_at" sCell f fd) (ml : mg "len" = none) : FnOk P w K mg base CX0 1 f fd ["script", "k"] (spCell K) := by
  refine F.ok scCell (fun vs H Q E h => ?_) (fun cdv A outer s H vs Q E hr h => ?_)
  · obtain ⟨a, ns, k, rfl, _⟩ := h
    rfl
  obtain ⟨a, ns, k, rfl, hS, h0, q⟩ := h
  refine ⟨_, pss_cons (ps_if (pt_cmpR op_lt (pv 1) (pe_callB call_len_seq rfl ml PySem.boot_len (pa_cons (pv 0) pa_nil)) (nomark _)) (pss_one (ps_ret (pe_ix ix_list (pv 0) (pv 1) (fun _ _ => rfl)))) pss_nil)
    (pss_one (ps_ret pe_int)), ?_⟩
  refine ⟨_, rfl, _, rfl, a, _, rfl, .inl hS, _, _, rfl, rfl, _, rfl, ?_⟩
  have hl : (ns.map V.int).length = ns.length := List.length_map _
  refine ite2 (fun c => ?_) (fun c => ?_)
  · have c' : k < (((ns.map V.int).length : Nat) : Int) := of_decide_eq_true c
    rw [hl] at c'
    refine ⟨_, rfl, _, rfl, a, _, _, _, rfl, rfl, hS, cell_get h0 c', ?_⟩
    unfold cellAt at q
    rw [if_pos c'] at q
    exact q
  · have c' : ¬ k < (((ns.map V.int).length : Nat) : Int) := of_decide_eq_false (Bool.eq_false_iff.mpr c)
    rw [hl] at c'
    unfold cellAt at q
    rw [if_neg c'] at q
    exact q
theorem ok_pick (F : Fun K "_law_pick" "_law_pick" sPick f fd) (D1 : Callee P w K mg base "_law_cell_at" 1 ["script", "k"] (spCell K)) (ml : mg "len" = none) : FnOk P w K mg base CX0 2 f fd ["script", "k"] (spPick K) := by
  refine F.ok (N := ["script", "k"]) ⟨rfl, rfl, rfl, by decide +kernel, rfl, by decide +kernel, by decide +kernel⟩ (fun vs H Q E h => ?_) (fun cdv A outer s H vs Q E hr h => ?_)
  · obtain ⟨a, ns, k, rfl, _⟩ := h
    rfl
  obtain ⟨a, ns, k, rfl, hS, h0, q⟩ := h
  refine ⟨_, pss_cons (ps_if (pt_cmpR op_lt (pv 1) (pe_callB call_len_seq rfl ml PySem.boot_len (pa_cons (pv 0) pa_nil)) (nomark _)) (pss_one (ps_ret (pe_ix ix_list (pv 0) (pv 1) (fun _ _ => rfl)))) pss_nil)
    (pss_one (ps_ret (pe_op op_fdiv (pe_op op_mod (pe_op op_mul (pe_op op_add (pe_op op_add (pe_callD D1 hr (Nat.le_refl _) rfl (pa_cons (pv 0) (pa_cons pe_int pa_nil))) (pe_op op_mul pe_int (pv 1))) pe_int) pe_int) pe_int) pe_int))), ?_⟩
  refine ⟨_, rfl, _, rfl, a, _, rfl, .inl hS, _, _, rfl, rfl, _, rfl, ?_⟩
  have hl : (ns.map V.int).length = ns.length := List.length_map _
  refine ite2 (fun c => ?_) (fun c => ?_)
  · have c' : k < (((ns.map V.int).length : Nat) : Int) := of_decide_eq_true c
    rw [hl] at c'
    refine ⟨_, rfl, _, rfl, a, _, _, _, rfl, rfl, hS, cell_get h0 c', ?_⟩
    unfold pick at q
    rw [if_pos c'] at q
    exact q
  · have c' : ¬ k < (((ns.map V.int).length : Nat) : Int) := of_decide_eq_false (Bool.eq_false_iff.mpr c)
    rw [hl] at c'
    refine ⟨_, rfl, a, ns, 0, rfl, hS, Int.le_refl 0, _, rfl, _, _, rfl, rfl, .inl ⟨by decide, by decide⟩, _, _, rfl, rfl, _, _, rfl, rfl, _, _, rfl, rfl, .inr ⟨by decide, by decide⟩, _, _, rfl, rfl, (by dsimp only; decide), _, _, rfl, rfl, ⟨by decide, by decide⟩, ?_⟩
    unfold pick at q
    rw [if_neg c'] at q
    exact q
theorem ok_mix (F : Fun K "_law_mix" "_law_mix" sMix f fd) : FnOk P w K mg base CX0 1 f fd ["cell", "k"] spMix := by
  have S : FnScope ["cell", "k", "mixed"] ["cell", "k"] (defScope sMix) := ⟨rfl, rfl, rfl, by decide +kernel, rfl, by decide +kernel, by decide +kernel⟩
  refine F.ok S (fun vs H Q E h => ?_) (fun cdv A outer s H vs Q E hr h => ?_)
  · obtain ⟨c, k, rfl, _⟩ := h
    rfl
  obtain ⟨c, k, rfl, q⟩ := h
  refine ⟨_, pss_cons (ps_set (i := 2) S.nd rfl (Or.inl rfl) (pe_op op_mod (pe_op op_add (pe_op op_add (pe_op op_mul (pv 0) pe_int) (pe_op op_mul pe_int (pv 1))) pe_int) pe_int))
    (pss_cons (ps_set (i := 2) S.nd rfl (Or.inl rfl) (pe_op op_mod (pe_op op_add (pe_op op_add (pe_op op_mul (pv 2) (pv 2)) (pe_op op_mul pe_int (pv 2))) (pv 1)) pe_int))
    (pss_one (ps_ret (pe_op op_mod (pe_op op_add (pe_op op_add (pe_op op_mul (pv 2) (pv 2)) (pe_op op_mul pe_int (pv 2))) (pe_op op_mul pe_int (pv 1))) pe_int)))), ?_⟩
  have b1 : ∀ x : Int, -(2 ^ 64) < x % 2147483629 ∧ x % 2147483629 < 2 ^ 64 := fun x => by
    have h1 := Int.emod_nonneg x (show (2147483629 : Int) ≠ 0 by decide)
    have h2 := Int.emod_lt_of_pos x (show (0 : Int) < 2147483629 by decide)
    omega
  have b2 : ∀ x : Int, -(2 ^ 64) < x % 2147483647 ∧ x % 2147483647 < 2 ^ 64 := fun x => by
    have h1 := Int.emod_nonneg x (show (2147483647 : Int) ≠ 0 by decide)
    have h2 := Int.emod_lt_of_pos x (show (0 : Int) < 2147483647 by decide)
    omega
  refine ⟨_, rfl, _, _, rfl, rfl, .inr ⟨by decide, by decide⟩, _, rfl, _, _, rfl, rfl, .inl ⟨by decide, by decide⟩, _, _, rfl, rfl, _, _, rfl, rfl, _, _, rfl, rfl, (by dsimp only; decide), ?_⟩
  refine ⟨_, rfl, _, rfl, _, _, rfl, rfl, .inl (b1 _), _, rfl, _, _, rfl, rfl, .inl ⟨by decide, by decide⟩, _, _, rfl, rfl, _, rfl, _, _, rfl, rfl, _, _, rfl, rfl, (by dsimp only; decide), ?_⟩
  refine ⟨_, rfl, _, rfl, _, _, rfl, rfl, .inl (b2 _), _, rfl, _, _, rfl, rfl, .inl ⟨by decide, by decide⟩, _, _, rfl, rfl, _, rfl, _, _, rfl, rfl, .inl ⟨by decide, by decide⟩, _, _, rfl, rfl, _, _, rfl, rfl, (by dsimp only; decide), ?_⟩
  exact q
theorem ok_leaf (F : Fun K "_law_leaf" "_law_leaf" sLeaf f fd) : FnOk P w K mg base CX0 1 f fd ["mixed", "relays", "buttons"] spLeaf := by
  have S : FnScope ["mixed", "relays", "buttons", "spot"] ["mixed", "relays", "buttons"] (defScope sLeaf) := ⟨rfl, rfl, rfl, by decide +kernel, rfl, by decide +kernel, by decide +kernel⟩
  refine F.ok S (fun vs H Q E h => ?_) (fun cdv A outer s H vs Q E hr h => ?_)
  · obtain ⟨m, R, B, rfl, _⟩ := h
    rfl
  obtain ⟨m, R, B, rfl, hR, hB, q⟩ := h
  refine ⟨_, pss_cons (ps_set (i := 3) S.nd rfl (Or.inl rfl) (pe_op op_mod (pv 0) (pe_op op_add (pe_op op_add (pv 1) (pv 2)) pe_int)))
    (pss_cons (ps_if (pt_cmpR op_lt (pv 3) (pv 1) (nomark _)) (pss_one (ps_ret (pe_tup (pa_cons pe_str (pa_cons (pv 3) pa_nil))))) pss_nil)
    (pss_cons (ps_if (pt_cmpR op_lt (pv 3) (pe_op op_add (pv 1) (pv 2)) (nomark _)) (pss_one (ps_ret (pe_tup (pa_cons pe_str (pa_cons (pe_op op_sub (pv 3) (pv 1)) pa_nil))))) pss_nil)
    (pss_one (ps_ret (pe_ix ix_list (pe_lst (pa_cons (pe_tup (pa_cons pe_str pa_nil)) (pa_cons (pe_tup (pa_cons pe_str pa_nil)) pa_nil))) (pe_op op_mod (pe_op op_fdiv (pv 0) pe_int) pe_int) (fun _ _ => rfl)))))), ?_⟩
  refine ⟨_, rfl, _, rfl, _, rfl, _, _, rfl, rfl, _, _, rfl, rfl, _, _, rfl, rfl, (show (0 : Int) < R + B + 1 by omega), ?_⟩
  unfold leaf at q
  refine ⟨_, rfl, _, rfl, _, _, rfl, rfl, _, rfl, ite2 (fun c => ?_) (fun c => ?_)⟩
  · have c' : m % (R + B + 1) < R := of_decide_eq_true c
    rw [if_pos c'] at q
    exact ⟨_, rfl, (by show 2 ≤ sizeLine; decide), fun p hp => q _ _ (Same.new hp _) ⟨p, rfl, upd_same⟩⟩
  have c1 : ¬ m % (R + B + 1) < R := of_decide_eq_false (Bool.eq_false_iff.mpr c)
  rw [if_neg c1] at q
  refine ⟨_, rfl, _, rfl, _, rfl, _, _, rfl, rfl, _, _, rfl, rfl, _, rfl, ite2 (fun c => ?_) (fun c => ?_)⟩
  · have c' : m % (R + B + 1) < R + B := of_decide_eq_true c
    rw [if_pos c'] at q
    exact ⟨_, rfl, _, rfl, _, _, rfl, rfl, (by show 2 ≤ sizeLine; decide), fun p hp => q _ _ (Same.new hp _) ⟨p, rfl, upd_same⟩⟩
  have c2 : ¬ m % (R + B + 1) < R + B := of_decide_eq_false (Bool.eq_false_iff.mpr c)
  rw [if_neg c2] at q
  refine ⟨(by show 1 ≤ sizeLine; decide), fun p hp => ⟨(by show 1 ≤ sizeLine; decide), fun p2 hp2 => ⟨(by show 2 ≤ sizeLine; decide), fun l hl => ?_⟩⟩⟩
  have e1 := Same.new hp (.tup [.str "on"])
  have e2 := Same.new hp2 (.tup [.str "off"])
  have e3 := Same.new hl (.lst [.ref p, .ref p2])
  refine ⟨_, rfl, _, _, rfl, rfl, ⟨by decide, by decide⟩, _, _, rfl, rfl, (by dsimp only; decide), ?_⟩
  rcases two_at (x := .ref p) (y := .ref p2) (m := m / 64) with ⟨z, e⟩ | ⟨z, e⟩
  · rw [if_pos z] at q
    exact ⟨l, _, _, _, rfl, rfl, SqL.of upd_same, e, q _ _ (e1.trans (e2.trans e3)) ⟨p, rfl, e3 _ _ (e2 _ _ upd_same)⟩⟩
  · rw [if_neg z] at q
    exact ⟨l, _, _, _, rfl, rfl, SqL.of upd_same, e, q _ _ (e1.trans (e2.trans e3)) ⟨p2, rfl, e3 _ _ upd_same⟩⟩
theorem step_word {n : Nat} (F : Fun K "_law_word" "_law_word" sWord f fd) (D1 : Callee P w K mg base "_law_mix" 1 ["cell", "k"] spMix) (D2 : Callee P w K mg base "_law_leaf" 1 ["mixed", "relays", "buttons"] spLeaf)
    (D3 : Callee P w K mg base "_law_word" (n + 2) ["cell", "k", "deep", "relays", "buttons"] (spWord n)) : FnOk P w K mg base CX0 (n + 3) f fd ["cell", "k", "deep", "relays", "buttons"] (spWord (n + 1)) := by
  have S : FnScope ["cell", "k", "deep", "relays", "buttons", "mixed", "kind", "first"] ["cell", "k", "deep", "relays", "buttons"] (defScope sWord) := ⟨rfl, rfl, rfl, by decide +kernel, rfl, by decide +kernel, by decide +kernel⟩
  refine F.ok S (fun vs H Q E h => ?_) (fun cdv A outer s H vs Q E hr h => ?_)
  · obtain ⟨cell, k, R, B, d, rfl, _⟩ := h
    rfl
  obtain ⟨cell, k, R, B, d, rfl, hd, hR, hB, q⟩ := h
  refine ⟨_, pss_cons (ps_set (i := 5) S.nd rfl (Or.inl rfl) (pe_op op_fdiv (pe_callD D1 hr (by omega) rfl (pa_cons (pv 0) (pa_cons (pv 1) pa_nil))) pe_int))
    (pss_cons (ps_set (i := 6) S.nd rfl (Or.inl rfl) (pe_op op_mod (pv 5) pe_int))
    (pss_cons (ps_if (pw_or (pt_cmpR op_lt (pv 2) pe_int (nomark _)) (pw_or1 (pt_cmpR op_lt (pv 6) pe_int (nomark _)))).pt
      (pss_one (ps_ret (pe_callD D2 hr (by omega) rfl (pa_cons (pe_op op_fdiv (pv 5) pe_int) (pa_cons (pv 3) (pa_cons (pv 4) pa_nil)))))) pss_nil)
    (pss_cons (ps_set (i := 7) S.nd rfl (Or.inl rfl) (pe_callD D3 hr (Nat.le_refl _) rfl (pa_cons (pv 0) (pa_cons (pe_op op_add (pe_op op_mul pe_int (pv 1)) pe_int) (pa_cons (pe_op op_sub (pv 2) pe_int) (pa_cons (pv 3) (pa_cons (pv 4) pa_nil)))))))
    (pss_cons (ps_if (pt_cmpR op_lt (pv 6) pe_int (nomark _)) (pss_one (ps_ret (pe_tup (pa_cons pe_str (pa_cons (pv 7) pa_nil))))) pss_nil)
    (pss_one (ps_ret (pe_tup (pa_cons (pe_ix ix_list (pe_lst (pa_cons pe_str (pa_cons pe_str pa_nil))) (pe_op op_mod (pv 6) pe_int) (fun _ _ => rfl)) (pa_cons (pv 7)
      (pa_cons (pe_callD D3 hr (Nat.le_refl _) rfl (pa_cons (pv 0) (pa_cons (pe_op op_add (pe_op op_mul pe_int (pv 1)) pe_int) (pa_cons (pe_op op_sub (pv 2) pe_int) (pa_cons (pv 3) (pa_cons (pv 4) pa_nil)))))) pa_nil)))))))))), ?_⟩
  refine ⟨_, rfl, _, rfl, _, _, rfl, _, _, rfl, rfl, ⟨by decide, by decide⟩, ?_⟩
  refine ⟨_, rfl, _, _, rfl, rfl, (by dsimp only; decide), ?_⟩
  have leafway : (lword cell R B d k = leaf (mix cell k / 7 / 10) R B) → ∃ v, (some (some (V.int (mix cell k / 7))) : Option (Option V)) = some (some v) ∧ ∃ i j, v = V.int i ∧ V.int 10 = V.int j ∧ CDiv i j ∧
      ∃ m R' B', ([V.int (i / j), V.int R, V.int B] : List V) = [.int m, .int R', .int B'] ∧ 1 ≤ R' ∧ 0 ≤ B' ∧ ∀ v H', Same H H' → WAt H' (leaf m R' B') v → Q v H' := fun e =>
    ⟨_, rfl, _, _, rfl, rfl, ⟨by decide, by decide⟩, _, _, _, rfl, hR, hB, fun v H' s a => q v H' s (by rw [e]; exact a)⟩
  refine ⟨_, rfl, _, _, rfl, rfl, _, rfl, ite2 (fun c => ?_) (fun c => ?_)⟩
  · have c' : (d : Int) < 2 := of_decide_eq_true c
    have e : lword cell R B d k = leaf (mix cell k / 7 / 10) R B := by
      cases d with
      | zero => rfl
      | succ d => unfold lword; rw [if_pos (.inl (by omega))]
    refine iteT ⟨_, rfl, _, _, rfl, rfl, ⟨by decide, by decide⟩, _, rfl, _, rfl, _, _, _, rfl, hR, hB, fun v H' s a => q v H' s (by rw [e]; exact a)⟩
  have c1 : ¬ (d : Int) < 2 := of_decide_eq_false (Bool.eq_false_iff.mpr c)
  obtain ⟨d, rfl⟩ : ∃ j : Nat, d = j + 1 := ⟨d - 1, by omega⟩
  refine ⟨_, rfl, _, _, rfl, rfl, _, rfl, ite2 (fun c => ?_) (fun c => ?_)⟩
  · have c' : mix cell k / 7 % 10 < 3 := of_decide_eq_true c
    have e : lword cell R B (d + 1) k = leaf (mix cell k / 7 / 10) R B := by unfold lword; rw [if_pos (.inr c')]
    exact ⟨_, rfl, _, _, rfl, rfl, ⟨by decide, by decide⟩, _, rfl, _, rfl, _, _, _, rfl, hR, hB, fun v H' s a => q v H' s (by rw [e]; exact a)⟩
  have c2 : ¬ mix cell k / 7 % 10 < 3 := of_decide_eq_false (Bool.eq_false_iff.mpr c)
  have ed : ((d + 1 : Nat) : Int) - 1 = (d : Int) := by omega
  unfold lword at q
  rw [if_neg (by omega)] at q
  refine ⟨_, rfl, _, rfl, _, _, rfl, rfl, .inl ⟨by decide, by decide⟩, _, _, rfl, rfl, _, rfl, _, _, rfl, rfl, _, rfl, _, rfl, cell, 2 * k + 1, R, B, d, by rw [← ed]; rfl, by omega, hR, hB, fun v1 H1 s1 a1 => ?_⟩
  refine ⟨_, rfl, _, _, rfl, rfl, _, rfl, ite2 (fun c => ?_) (fun c => ?_)⟩
  · have c' : mix cell k / 7 % 10 < 5 := of_decide_eq_true c
    rw [if_pos c'] at q
    exact ⟨_, rfl, (by show 2 ≤ sizeLine; decide), fun p hp => q _ _ (s1.trans (Same.new hp _)) ⟨p, v1, rfl, upd_same, a1.mono (Same.new hp _).tup⟩⟩
  have c3 : ¬ mix cell k / 7 % 10 < 5 := of_decide_eq_false (Bool.eq_false_iff.mpr c)
  rw [if_neg c3] at q
  refine ⟨(by show 2 ≤ sizeLine; decide), fun l hl => ?_⟩
  have s2 := Same.new hl (.lst [.str "and", .str "or"])
  refine ⟨_, rfl, _, _, rfl, rfl, (by dsimp only; decide), ?_⟩
  rcases two_at (x := .str "and") (y := .str "or") (m := mix cell k / 7 % 10) with ⟨z, e⟩ | ⟨z, e⟩
  · rw [if_pos z] at q
    refine ⟨l, _, _, _, rfl, rfl, SqL.of upd_same, e, _, rfl, _, rfl, _, rfl, _, _, rfl, rfl, .inl ⟨by decide, by decide⟩, _, _, rfl, rfl, _, rfl, _, _, rfl, rfl, _, rfl, _, rfl, cell, 2 * k + 2, R, B, d, by rw [← ed]; rfl, by omega, hR, hB, fun v3 H3 s3 a3 => ?_⟩
    refine ⟨(by show 3 ≤ sizeLine; decide), fun p hp => q _ _ (s1.trans (s2.trans (s3.trans (Same.new hp _)))) ⟨p, v1, v3, rfl, upd_same, a1.mono (s2.trans (s3.trans (Same.new hp _))).tup, a3.mono (Same.new hp _).tup⟩⟩
  · rw [if_neg z] at q
    refine ⟨l, _, _, _, rfl, rfl, SqL.of upd_same, e, _, rfl, _, rfl, _, rfl, _, _, rfl, rfl, .inl ⟨by decide, by decide⟩, _, _, rfl, rfl, _, rfl, _, _, rfl, rfl, _, rfl, _, rfl, cell, 2 * k + 2, R, B, d, by rw [← ed]; rfl, by omega, hR, hB, fun v3 H3 s3 a3 => ?_⟩
    refine ⟨(by show 3 ≤ sizeLine; decide), fun p hp => q _ _ (s1.trans (s2.trans (s3.trans (Same.new hp _)))) ⟨p, v1, v3, rfl, upd_same, a1.mono (s2.trans (s3.trans (Same.new hp _))).tup, a3.mono (Same.new hp _).tup⟩⟩
theorem ok_word (F : Fun K "_law_word" "_law_word" sWord f fd) (b : Binds K fd ["cell", "k", "deep", "relays", "buttons"] []) (m : mg "_law_word" = some (.ref f)) (D1 : Callee P w K mg base "_law_mix" 1 ["cell", "k"] spMix) (D2 : Callee P w K mg base "_law_leaf" 1 ["mixed", "relays", "buttons"] spLeaf) :
    ∀ n : Nat, FnOk P w K mg base CX0 (n + 2) f fd ["cell", "k", "deep", "relays", "buttons"] (spWord n)
  | 0 => no_calls fun vs H Q E h => by
    obtain ⟨_, _, _, _, d, _, hd, _⟩ := h
    exact absurd hd (Nat.not_lt_zero _)
  | n + 1 => step_word F D1 D2 ⟨f, fd, ok_word F b m D1 D2 n, b, F.kp, m⟩
end
end RR

end
section
set_option Elab.async false
set_option maxHeartbeats 4000000
set_option linter.all false
set_option maxRecDepth 100000
namespace RR
open PySem L2
section
variable {P : Program} {w : World} {K : PySem.W.Frag} {mg : Str → Option Value} {base : Heap} {f : Addr} {fd : FuncData}
theorem step_ltext {n : Nat} (F : Fun K "_law_text" "_law_text" sLText f fd) (d_law_text : Callee P w K mg base "_law_text" (n + 1) ["word"] (spTxt n)) (n_str : mg "str" = none) (n_int : mg "int" = none) : FnOk P w K mg base CX0 (n + 2) f fd ["word"] (spTxt (n + 1)) := by
  have S : FnScope ["word", "mark"] ["word"] (defScope sLText) := ⟨rfl, rfl, rfl, by decide +kernel, rfl, by decide +kernel, by decide +kernel⟩
  refine F.ok S (fun vs H Q E h => ?_) (fun cdv A outer s H vs Q E hr h => ?_)
  · obtain ⟨v, wd, rfl, _⟩ := h
    rfl
  obtain ⟨v, wd, rfl, hW, hok, hd, hn8, q⟩ := h
  refine ⟨_, (pss_cons (ps_if (PW.pt (pw_or (pt_cmpR op_eq (pe_ix (ix_tupK (K := K) rfl) (pv 0) pe_int (fun _ _ => rfl)) pe_str (nomark _)) (pw_or1 (pt_cmpR op_eq (pe_ix (ix_tupK (K := K) rfl) (pv 0) pe_int (fun _ _ => rfl)) pe_str (nomark _))))) (pss_one (ps_ret (pe_ix ix_str pe_str (pe_callTy call_int1 rfl n_int PyProof.Rows.boot_int (pa_cons (pe_cmpR op_eq (pe_ix (ix_tupK (K := K) rfl) (pv 0) pe_int (fun _ _ => rfl)) pe_str (nomark _)) pa_nil)) (fun _ _ => rfl)))) pss_nil)
    (pss_cons (ps_if (PW.pt (pw_or (pt_cmpR op_eq (pe_ix (ix_tupK (K := K) rfl) (pv 0) pe_int (fun _ _ => rfl)) pe_str (nomark _)) (pw_or1 (pt_cmpR op_eq (pe_ix (ix_tupK (K := K) rfl) (pv 0) pe_int (fun _ _ => rfl)) pe_str (nomark _))))) (pss_one (ps_ret (pe_op op_add_str (pe_ix ix_str (pe_ix (ix_tupK (K := K) rfl) (pv 0) pe_int (fun _ _ => rfl)) pe_int (fun _ _ => rfl)) (pe_callTy call_str_int rfl n_str PyProof.Rows.boot_str (pa_cons (pe_ix (ix_tupK (K := K) rfl) (pv 0) pe_int (fun _ _ => rfl)) pa_nil))))) pss_nil)
    (pss_cons (ps_if (pt_cmpR op_eq (pe_ix (ix_tupK (K := K) rfl) (pv 0) pe_int (fun _ _ => rfl)) pe_str (nomark _)) (pss_one (ps_ret (pe_op op_add_str pe_str (pe_callD d_law_text hr (by omega) rfl (pa_cons (pe_ix (ix_tupK (K := K) rfl) (pv 0) pe_int (fun _ _ => rfl)) pa_nil))))) pss_nil)
    (pss_cons (ps_set (i := 1) S.nd rfl (Or.inl rfl) (pe_ix ix_str pe_str (pe_callTy call_int1 rfl n_int PyProof.Rows.boot_int (pa_cons (pe_cmpR op_eq (pe_ix (ix_tupK (K := K) rfl) (pv 0) pe_int (fun _ _ => rfl)) pe_str (nomark _)) pa_nil)) (fun _ _ => rfl)))
    (pss_one (ps_ret (pe_op op_add_str (pe_op op_add_str (pe_op op_add_str (pe_op op_add_str pe_str (pe_callD d_law_text hr (by omega) rfl (pa_cons (pe_ix (ix_tupK (K := K) rfl) (pv 0) pe_int (fun _ _ => rfl)) pa_nil))) (pv 1)) (pe_callD d_law_text hr (by omega) rfl (pa_cons (pe_ix (ix_tupK (K := K) rfl) (pv 0) pe_int (fun _ _ => rfl)) pa_nil))) pe_str))))))), ?_⟩
  cases wd with
  | on =>
    obtain ⟨p, rfl, hp⟩ := hW
    refine ⟨_, rfl, p, _, _, _, rfl, rfl, SqT.of hp, at0 _ _, rfl, _, rfl, iteTh (by decide +kernel) (iteT ?_)⟩
    refine ⟨_, rfl, p, _, _, _, rfl, rfl, SqT.of hp, at0 _ _, rfl, .inr ⟨_, rfl, _, _, 49, rfl, rfl, by decide, by decide +kernel, q _ (Same.refl _)⟩⟩
  | off =>
    obtain ⟨p, rfl, hp⟩ := hW
    refine ⟨_, rfl, p, _, _, _, rfl, rfl, SqT.of hp, at0 _ _, rfl, _, rfl, iteFh (by decide +kernel) ⟨_, rfl, p, _, _, _, rfl, rfl, SqT.of hp, at0 _ _, rfl, _, rfl, iteTh (by decide +kernel) ?_⟩⟩
    refine ⟨_, rfl, p, _, _, _, rfl, rfl, SqT.of hp, at0 _ _, rfl, .inr ⟨_, rfl, _, _, 48, rfl, rfl, by decide, by decide +kernel, q _ (Same.refl _)⟩⟩
  | relay k =>
    obtain ⟨p, rfl, hp⟩ := hW
    have h0 : 0 ≤ k ∧ k < 10 := hok
    refine ⟨_, rfl, p, _, _, _, rfl, rfl, SqT.of hp, at0 _ _, rfl, _, rfl, iteFh (by decide +kernel) ⟨_, rfl, p, _, _, _, rfl, rfl, SqT.of hp, at0 _ _, rfl, _, rfl, iteFh (by decide +kernel) ?_⟩⟩
    refine ⟨_, rfl, p, _, _, _, rfl, rfl, SqT.of hp, at0 _ _, rfl, _, rfl, iteTh (by decide +kernel) (iteT ?_)⟩
    refine ⟨_, rfl, p, _, _, _, rfl, rfl, SqT.of hp, at0 _ _, ?_⟩
    refine ⟨_, _, 114, rfl, rfl, by decide, by decide +kernel, _, rfl, p, _, _, _, rfl, rfl, SqT.of hp, at1 _ _ _, k, rfl, Nat.lt_of_le_of_lt (Nat.log2_le_self _) (by omega), _, _, rfl, rfl, ?_, ?_⟩
    · rw [digit_str h0]
      show 1 + 1 ≤ sizeLine
      decide
    rw [digit_str h0]
    exact q _ (Same.refl _)
  | button k =>
    obtain ⟨p, rfl, hp⟩ := hW
    have h0 : 0 ≤ k ∧ k < 10 := hok
    refine ⟨_, rfl, p, _, _, _, rfl, rfl, SqT.of hp, at0 _ _, rfl, _, rfl, iteFh (by decide +kernel) ⟨_, rfl, p, _, _, _, rfl, rfl, SqT.of hp, at0 _ _, rfl, _, rfl, iteFh (by decide +kernel) ?_⟩⟩
    refine ⟨_, rfl, p, _, _, _, rfl, rfl, SqT.of hp, at0 _ _, rfl, _, rfl, iteFh (by decide +kernel) ⟨_, rfl, p, _, _, _, rfl, rfl, SqT.of hp, at0 _ _, rfl, _, rfl, iteTh (by decide +kernel) ?_⟩⟩
    refine ⟨_, rfl, p, _, _, _, rfl, rfl, SqT.of hp, at0 _ _, ?_⟩
    refine ⟨_, _, 98, rfl, rfl, by decide, by decide +kernel, _, rfl, p, _, _, _, rfl, rfl, SqT.of hp, at1 _ _ _, k, rfl, Nat.lt_of_le_of_lt (Nat.log2_le_self _) (by omega), _, _, rfl, rfl, ?_, ?_⟩
    · rw [digit_str h0]
      show 1 + 1 ≤ sizeLine
      decide
    rw [digit_str h0]
    exact q _ (Same.refl _)
  | nt a =>
    obtain ⟨p, x, rfl, hp, hx⟩ := hW
    have hda : a.depth ≤ n := by simp [Wd.depth] at hd; omega
    have la := txt_len hda (by omega)
    refine ⟨_, rfl, p, _, _, _, rfl, rfl, SqT.of hp, at0 _ _, rfl, _, rfl, iteFh (by decide +kernel) ⟨_, rfl, p, _, _, _, rfl, rfl, SqT.of hp, at0 _ _, rfl, _, rfl, iteFh (by decide +kernel) ?_⟩⟩
    refine ⟨_, rfl, p, _, _, _, rfl, rfl, SqT.of hp, at0 _ _, rfl, _, rfl, iteFh (by decide +kernel) ⟨_, rfl, p, _, _, _, rfl, rfl, SqT.of hp, at0 _ _, rfl, _, rfl, iteFh (by decide +kernel) ?_⟩⟩
    refine ⟨_, rfl, p, _, _, _, rfl, rfl, SqT.of hp, at0 _ _, rfl, _, rfl, iteTh (by decide +kernel) ?_⟩
    refine ⟨_, rfl, p, _, _, _, rfl, rfl, SqT.of hp, at1 _ _ _, x, a, rfl, hx, hok, hda, by omega, fun H1 s1 => ⟨_, _, rfl, rfl, ?_, ?_⟩⟩
    · show 1 + (txt a).length ≤ sizeLine
      rw [sizeLine_eq]
      omega
    have e : (Str.ofString "!" : Str) ++ txt a = txt (.nt a) := txt_nt a
    rw [e]
    exact q _ s1
  | an a b =>
    obtain ⟨p, x, y, rfl, hp, hx, hy⟩ := hW
    have hd' : max a.depth b.depth + 1 ≤ n + 1 := hd
    have la := txt_len (w := a) (n := n) (by omega) (by omega)
    have lb := txt_len (w := b) (n := n) (by omega) (by omega)
    refine ⟨_, rfl, p, _, _, _, rfl, rfl, SqT.of hp, at0 _ _, rfl, _, rfl, iteFh (by decide +kernel) ⟨_, rfl, p, _, _, _, rfl, rfl, SqT.of hp, at0 _ _, rfl, _, rfl, iteFh (by decide +kernel) ?_⟩⟩
    refine ⟨_, rfl, p, _, _, _, rfl, rfl, SqT.of hp, at0 _ _, rfl, _, rfl, iteFh (by decide +kernel) ⟨_, rfl, p, _, _, _, rfl, rfl, SqT.of hp, at0 _ _, rfl, _, rfl, iteFh (by decide +kernel) ?_⟩⟩
    refine ⟨_, rfl, p, _, _, _, rfl, rfl, SqT.of hp, at0 _ _, rfl, _, rfl, iteFh (by decide +kernel) ?_⟩
    refine ⟨_, rfl, p, _, _, _, rfl, rfl, SqT.of hp, at0 _ _, rfl, .inr ⟨_, rfl, _, _, 38, rfl, rfl, by decide, by decide +kernel, ?_⟩⟩
    refine ⟨_, rfl, p, _, _, _, rfl, rfl, SqT.of hp, at1 _ _ _, x, a, rfl, hx, hok.1, by omega, by omega, fun H1 s1 => ⟨_, _, rfl, rfl, ?_, _, rfl, _, _, rfl, rfl, ?_, _, rfl, p, _, _, _, rfl, rfl, SqT.of (s1 _ _ hp), at2 _ _ _ _, y, b, rfl, hy.mono s1.tup, hok.2, by omega, by omega, fun H2 s2 => ⟨_, _, rfl, rfl, ?_, _, _, rfl, rfl, ?_, ?_⟩⟩⟩
    · show 1 + (txt a).length ≤ sizeLine
      rw [sizeLine_eq]
      omega
    · rw [str_len]
      show 1 + (txt a).length + 1 ≤ sizeLine
      rw [sizeLine_eq]
      omega
    · rw [str_len, str_len]
      show 1 + (txt a).length + 1 + (txt b).length ≤ sizeLine
      rw [sizeLine_eq]
      omega
    · rw [str_len, str_len, str_len]
      show 1 + (txt a).length + 1 + (txt b).length + 1 ≤ sizeLine
      rw [sizeLine_eq]
      omega
    exact (txt_an a b ▸ q _ (s1.trans s2) : Q (.str _) H2)
  | or a b =>
    obtain ⟨p, x, y, rfl, hp, hx, hy⟩ := hW
    have hd' : max a.depth b.depth + 1 ≤ n + 1 := hd
    have la := txt_len (w := a) (n := n) (by omega) (by omega)
    have lb := txt_len (w := b) (n := n) (by omega) (by omega)
    refine ⟨_, rfl, p, _, _, _, rfl, rfl, SqT.of hp, at0 _ _, rfl, _, rfl, iteFh (by decide +kernel) ⟨_, rfl, p, _, _, _, rfl, rfl, SqT.of hp, at0 _ _, rfl, _, rfl, iteFh (by decide +kernel) ?_⟩⟩
    refine ⟨_, rfl, p, _, _, _, rfl, rfl, SqT.of hp, at0 _ _, rfl, _, rfl, iteFh (by decide +kernel) ⟨_, rfl, p, _, _, _, rfl, rfl, SqT.of hp, at0 _ _, rfl, _, rfl, iteFh (by decide +kernel) ?_⟩⟩
    refine ⟨_, rfl, p, _, _, _, rfl, rfl, SqT.of hp, at0 _ _, rfl, _, rfl, iteFh (by decide +kernel) ?_⟩
    refine ⟨_, rfl, p, _, _, _, rfl, rfl, SqT.of hp, at0 _ _, rfl, .inr ⟨_, rfl, _, _, 124, rfl, rfl, by decide, by decide +kernel, ?_⟩⟩
    refine ⟨_, rfl, p, _, _, _, rfl, rfl, SqT.of hp, at1 _ _ _, x, a, rfl, hx, hok.1, by omega, by omega, fun H1 s1 => ⟨_, _, rfl, rfl, ?_, _, rfl, _, _, rfl, rfl, ?_, _, rfl, p, _, _, _, rfl, rfl, SqT.of (s1 _ _ hp), at2 _ _ _ _, y, b, rfl, hy.mono s1.tup, hok.2, by omega, by omega, fun H2 s2 => ⟨_, _, rfl, rfl, ?_, _, _, rfl, rfl, ?_, ?_⟩⟩⟩
    · show 1 + (txt a).length ≤ sizeLine
      rw [sizeLine_eq]
      omega
    · rw [str_len]
      show 1 + (txt a).length + 1 ≤ sizeLine
      rw [sizeLine_eq]
      omega
    · rw [str_len, str_len]
      show 1 + (txt a).length + 1 + (txt b).length ≤ sizeLine
      rw [sizeLine_eq]
      omega
    · rw [str_len, str_len, str_len]
      show 1 + (txt a).length + 1 + (txt b).length + 1 ≤ sizeLine
      rw [sizeLine_eq]
      omega
    exact (txt_or a b ▸ q _ (s1.trans s2) : Q (.str _) H2)
theorem ok_ltext (F : Fun K "_law_text" "_law_text" sLText f fd) (b : Binds K fd ["word"] []) (m : mg "_law_text" = some (.ref f)) (n_str : mg "str" = none) (n_int : mg "int" = none) : ∀ n : Nat, FnOk P w K mg base CX0 (n + 1) f fd ["word"] (spTxt n)
  | 0 => no_calls fun vs H Q E h => by
    obtain ⟨_, wd, _, _, _, hd, _⟩ := h
    have := depth_pos wd
    omega
  | n + 1 => step_ltext F ⟨f, fd, ok_ltext F b m n_str n_int n, b, F.kp, m⟩ n_str n_int
theorem ok_put (F : Fun K "put_word" "put_word" sPutWord f fd) : FnOk P w K mg base CX0 1 f fd ["pile", "word"] (spPut K) := by
  have S : FnScope ["pile", "word", "whole"] ["pile", "word"] (defScope sPutWord) := ⟨rfl, rfl, rfl, by decide +kernel, rfl, by decide +kernel, by decide +kernel⟩
  refine F.ok S (fun vs H Q E h => ?_) (fun cdv A outer s H vs Q E hr h => ?_)
  · obtain ⟨l, v, p, wd, rfl, _⟩ := h
    rfl
  obtain ⟨l, v, p, wd, rfl, hP, hW, hlen, q⟩ := h
  refine ⟨_, (pss_cons (ps_set (i := 2) S.nd rfl (Or.inl rfl) (pv 1))
    (pss_cons (ps_while PassesOwn.never (PW.pt (pw_and (pt_truthK (K := K) rfl (pv 0) (fun _ => rfl)) (pw_and1 (pt_cmpR (op_eqD (K := K) rfl hr.units) (pe_ix (ix_listK (K := K) rfl) (pv 0) (pe_un un_neg pe_int) (fun _ _ => rfl)) pe_str (nomark _))))) (pss_cons (ps_expr (pe_bm0 PySem.F.plainAttrs_list PySem.F.slot_list_pop PySem.F.type_list_pop mt_pop (pv 0)))
    (pss_one (ps_set (i := 2) S.nd rfl (Or.inl rfl) (pe_tup (pa_cons pe_str (pa_cons (pv 2) pa_nil)))))))
    (pss_one (ps_expr (pe_bm PySem.F.plainAttrs_list PySem.F.slot_list_append PySem.F.type_list_append mt_append (pv 0) (pa_cons (pv 2) pa_nil)))))), ?_⟩
  obtain ⟨vs, hl, hI⟩ := hP
  refine ⟨_, rfl, fun n σ H' => ∃ p2 vs2 v2 w2, σ = [some (.ref l), some v, some v2] ∧ Keep l H H' ∧ H' l = some (.lst vs2.reverse) ∧ Paired (ItAt H') p2 vs2 ∧ WAt H' w2 v2 ∧ put p2 w2 = put p wd ∧ p2.length ≤ 999 ∧ n = p2.length,
    ⟨_, p, vs, v, wd, rfl, Keep.refl _ _, hl, hI, hW, rfl, hlen, rfl⟩, ?_⟩
  rintro n σ H1 ⟨p2, vs2, v2, w2, rfl, k1, hl1, hI1, hW1, e1, hlen1, rfl⟩
  have hvs := Paired.length hI1
  -- pile.append(whole)
  have fin : put p2 w2 = .wd w2 :: p2 → ∀ D : Ends, D.nx = (fun _ H' => Q .non H') → tDrop (tBM K "list" rAppend (tVar 0) (tCons (tVar 2) tNil)) D [some (.ref l), some v, some v2] H1 := fun ep D hD => by
    refine ⟨_, rfl, .inl ⟨rfl, _, SqL.of hl1⟩, _, rfl, l, _, _, rfl, rfl, hl1, small1000 (by rw [List.length_reverse]; omega), ?_⟩
    rw [hD]
    refine q _ (k1.upd _) ⟨v2 :: vs2, by rw [upd_same, List.reverse_cons], ?_⟩
    have t : TupLe H1 (upd H1 l (.lst (vs2.reverse ++ [v2]))) := tup_upd fun xs z => by rw [hl1] at z; cases z
    rw [← e1, ep]
    exact .cons (WAt.mono t hW1) (Paired.items t hI1)
  refine ⟨_, rfl, _, .inl ⟨_, SqL.of hl1, rfl⟩, ite2 (fun c => ?_) (fun c => ?_)⟩
  · cases hI1 with
    | nil => cases c
    | @cons it y r vs' hy ht =>
    rw [List.reverse_cons] at hl1
    obtain ⟨d, d1, d2, d3, d4⟩ := hy.data (K := K)
    refine ⟨_, rfl, _, rfl, l, _, _, y, rfl, rfl, SqL.of hl1, at_last, d, .str ⟨#[33]⟩, d1, .str _, d2, lay_sign (by decide), .inr (by decide), ?_⟩
    rw [d3 33]
    refine ⟨_, rfl, ite2 (fun c2 => ?_) (fun c2 => ?_)⟩
    · have hit : it = .sg 33 := by
        cases it with
        | sg e => exact congrArg PItem.sg (of_decide_eq_true c2)
        | wd _ => cases c2
      subst hit
      refine ⟨fun σ' H' => ∃ n', n' < (PItem.sg 33 :: r).length ∧ ∃ p2 vs2 v2 w2, σ' = [some (.ref l), some v, some v2] ∧ Keep l H H' ∧ H' l = some (.lst vs2.reverse) ∧ Paired (ItAt H') p2 vs2 ∧ WAt H' w2 v2 ∧ put p2 w2 = put p wd ∧ p2.length ≤ 999 ∧ n' = p2.length, fun σ' H' h => h, ?_⟩
      refine ⟨_, rfl, .inl ⟨rfl, _, SqL.of hl1⟩, l, _, y, rfl, rfl, hl1, by simp, ?_⟩
      rw [List.dropLast_concat]
      have t : TupLe H1 (upd H1 l (.lst vs'.reverse)) := tup_upd fun xs z => by rw [hl1] at z; cases z
      refine ⟨_, rfl, (by show 2 ≤ sizeLine; decide), fun a ha => ?_⟩
      have n2 := Same.new ha (.tup [.str "not", v2])
      have hla : upd H1 l (.lst vs'.reverse) l = some (.lst vs'.reverse) := upd_same
      refine ⟨_, ?_, r, vs', .ref a, .nt w2, rfl, (k1.upd _).trans (Keep.same n2), n2 _ _ hla, Paired.items (t.trans n2.tup) ht, ⟨a, v2, rfl, upd_same, WAt.mono (t.trans n2.tup) hW1⟩, ?_, ?_, rfl⟩
      · simp
      · rw [← e1]
        simp [put]
      · simp at hlen1
        omega
    · refine fin ?_ _ rfl
      cases it with
      | sg e =>
        have he : ¬ e = 33 := fun z => c2 (decide_eq_true z)
        show (if e = 33 then put r (.nt w2) else .wd w2 :: .sg e :: r) = _
        rw [if_neg he]
      | wd _ => rfl
  · have : p2 = [] := by
      cases hI1 with
      | nil => rfl
      | cons h t => exact absurd (by simp) c
    subst this
    exact iteF (fin rfl _ rfl)
theorem ok_closed {c5 gj : Addr} (F : Fun K "closed" "closed" sClosed f fd) (n_len : mg "len" = none) (n_isinstance : mg "isinstance" = none) (n_tuple : mg "tuple" = none) (x_NoNote : ExcC K mg "NoNote" c5) (gd_JOINTS : GD K w gj "&" "and" "|" "or") (m_JOINTS : mg "JOINTS" = some (.ref gj)) :
    FnOk P w K mg base (CXr P w) 1 f fd ["pile"] (spClosed K c5) := by
  have S : FnScope ["pile", "right", "joint", "left", "opening"] ["pile"] (defScope sClosed) := ⟨rfl, rfl, rfl, by decide +kernel, rfl, by decide +kernel, by decide +kernel⟩
  refine F.okX S (fun vs H Q E h => ?_) (fun cdv A outer s H vs Q E hr h => ?_)
  · obtain ⟨l, p, rfl, _⟩ := h
    rfl
  obtain ⟨l, p, rfl, ⟨vs, hl, hI⟩, hr9, q, qx⟩ := h
  refine ⟨_, (pss_cons (ps_if (pt_cmpR op_lt (pe_callB (call_len_seqK (K := K) rfl) rfl n_len PySem.boot_len (pa_cons (pv 0) pa_nil)) pe_int (nomark _)) (pss_one (ps_raise x_NoNote hr.hd (pa_cons pe_str pa_nil) rfl)) pss_nil)
    (pss_cons (ps_set (i := 1) S.nd rfl (Or.inl rfl) (pe_bm0 PySem.F.plainAttrs_list PySem.F.slot_list_pop PySem.F.type_list_pop mt_pop (pv 0)))
    (pss_cons (ps_set (i := 2) S.nd rfl (Or.inl rfl) (pe_bm0 PySem.F.plainAttrs_list PySem.F.slot_list_pop PySem.F.type_list_pop mt_pop (pv 0)))
    (pss_cons (ps_set (i := 3) S.nd rfl (Or.inl rfl) (pe_bm0 PySem.F.plainAttrs_list PySem.F.slot_list_pop PySem.F.type_list_pop mt_pop (pv 0)))
    (pss_cons (ps_set (i := 4) S.nd rfl (Or.inl rfl) (pe_bm0 PySem.F.plainAttrs_list PySem.F.slot_list_pop PySem.F.type_list_pop mt_pop (pv 0)))
    (pss_cons (ps_if (PW.pt (pw_or (pt_cmpR (op_neD (K := K) rfl hr.units) (pv 4) pe_str (nomark _)) (pw_or (pt_cmpR (op_notInTD (K := K) rfl hr.units) (pv 2) (pe_tup (pa_cons pe_str (pa_cons pe_str pa_nil))) rfl) (pw_or (pt_not (pt_val (pe_callB (call_isinst (K := K) rfl) rfl n_isinstance PyProof.Rows.boot_isinstance (pa_cons (pv 3) (pa_cons (pe_bltn (v := .ty "tuple") rfl n_tuple PyProof.Rows.boot_tuple rfl) pa_nil))))) (pw_or1 (pt_not (pt_val (pe_callB (call_isinst (K := K) rfl) rfl n_isinstance PyProof.Rows.boot_isinstance (pa_cons (pv 1) (pa_cons (pe_bltn (v := .ty "tuple") rfl n_tuple PyProof.Rows.boot_tuple rfl) pa_nil)))))))))) (pss_one (ps_raise x_NoNote hr.hd (pa_cons pe_str pa_nil) rfl)) pss_nil)
    (pss_one (ps_ret (pe_tup (pa_cons (pe_gget gd_JOINTS rfl m_JOINTS (pv 2) (fun _ _ => rfl)) (pa_cons (pv 3) (pa_cons (pv 1) pa_nil)))))))))))), ?_⟩
  have hpl := Paired.length hI
  refine ⟨_, rfl, l, _, rfl, .inl (SqL.of hl), _, _, rfl, rfl, _, rfl, ite2 (fun c => ?_) (fun c => ?_)⟩
  · have c' : ((vs.reverse.length : Nat) : Int) < 4 := of_decide_eq_true c
    rw [List.length_reverse] at c'
    refine ⟨(by show 1 ≤ sizeLine; decide), qx ?_ _ (Keep.refl _ _)⟩
    unfold isCl
    split
    · simp at hpl
      omega
    · rfl
  have c' : ¬ ((vs.reverse.length : Nat) : Int) < 4 := of_decide_eq_false (Bool.eq_false_iff.mpr c)
  rw [List.length_reverse] at c'
  cases hI with
  | nil => exact absurd (by simp) c'
  | @cons it1 v1 _ vs1 i1 hI =>
  cases hI with
  | nil => exact absurd (by simp) c'
  | @cons it2 v2 _ vs2 i2 hI =>
  cases hI with
  | nil => exact absurd (by simp) c'
  | @cons it3 v3 _ vs3 i3 hI =>
  cases hI with
  | nil => exact absurd (by simp) c'
  | @cons it4 v4 r vs' i4 hI =>
  rw [List.reverse_cons, List.reverse_cons, List.reverse_cons, List.reverse_cons] at hl
  have up : ∀ (H0 : Hp) (xs ys : List V), H0 l = some (.lst xs) → TupLe H0 (upd H0 l (.lst ys)) := fun H0 xs ys h => tup_upd fun zs z => by rw [h] at z; cases z
  refine ⟨_, rfl, .inl ⟨rfl, _, SqL.of hl⟩, l, _, v1, rfl, rfl, hl, by simp, ?_⟩
  rw [List.dropLast_concat]
  have t1 := up H _ ((vs'.reverse ++ [v4] ++ [v3]) ++ [v2]) hl
  have k1 : Keep l H (upd H l (.lst ((vs'.reverse ++ [v4] ++ [v3]) ++ [v2]))) := (Keep.refl l H).upd _
  have hl1 : upd H l (.lst ((vs'.reverse ++ [v4] ++ [v3]) ++ [v2])) l = some (.lst ((vs'.reverse ++ [v4] ++ [v3]) ++ [v2])) := upd_same
  generalize upd H l (.lst ((vs'.reverse ++ [v4] ++ [v3]) ++ [v2])) = H1 at t1 k1 hl1
  refine ⟨_, rfl, .inl ⟨rfl, _, SqL.of hl1⟩, l, _, v2, rfl, rfl, hl1, by simp, ?_⟩
  rw [List.dropLast_concat]
  have t2 := up H1 _ ((vs'.reverse ++ [v4]) ++ [v3]) hl1
  have k2 := k1.upd (.lst ((vs'.reverse ++ [v4]) ++ [v3]))
  have hl2 : upd H1 l (.lst ((vs'.reverse ++ [v4]) ++ [v3])) l = some (.lst ((vs'.reverse ++ [v4]) ++ [v3])) := upd_same
  generalize upd H1 l (.lst ((vs'.reverse ++ [v4]) ++ [v3])) = H2 at t2 k2 hl2
  refine ⟨_, rfl, .inl ⟨rfl, _, SqL.of hl2⟩, l, _, v3, rfl, rfl, hl2, by simp, ?_⟩
  rw [List.dropLast_concat]
  have t3 := up H2 _ (vs'.reverse ++ [v4]) hl2
  have k3 := k2.upd (.lst (vs'.reverse ++ [v4]))
  have hl3 : upd H2 l (.lst (vs'.reverse ++ [v4])) l = some (.lst (vs'.reverse ++ [v4])) := upd_same
  generalize upd H2 l (.lst (vs'.reverse ++ [v4])) = H3 at t3 k3 hl3
  refine ⟨_, rfl, .inl ⟨rfl, _, SqL.of hl3⟩, l, _, v4, rfl, rfl, hl3, by simp, ?_⟩
  rw [List.dropLast_concat]
  have t4 := up H3 _ vs'.reverse hl3
  have k4 := k3.upd (.lst vs'.reverse)
  have hl4 : upd H3 l (.lst vs'.reverse) l = some (.lst vs'.reverse) := upd_same
  generalize upd H3 l (.lst vs'.reverse) = H4 at t4 k4 hl4
  have T := ((t1.trans t2).trans t3).trans t4
  have j1 : ItAt H4 it1 v1 := ItAt.mono T i1
  have j2 : ItAt H4 it2 v2 := ItAt.mono T i2
  have j3 : ItAt H4 it3 v3 := ItAt.mono T i3
  have j4 : ItAt H4 it4 v4 := ItAt.mono T i4
  have hI4 := Paired.items T hI
  obtain ⟨d, d1, d2, d3, d4⟩ := j4.data (K := K)
  refine ⟨_, rfl, d, .str ⟨#[40]⟩, d1, .str _, d2, lay_sign (by decide), .inr (by decide), ?_⟩
  rw [d3 40]
  refine ⟨_, rfl, ite2 (fun c4 => ?_) (fun c4 => ?_)⟩
  · refine iteT ⟨(by show 1 ≤ sizeLine; decide), qx ?_ _ k4⟩
    cases it4 with
    | wd x => cases it1 <;> cases it2 <;> cases it3 <;> rfl
    | sg o =>
      have ho : decide (o = 40) = false := by
        have : (!decide (o = 40)) = true := c4
        simpa using this
      cases it1 <;> cases it2 <;> cases it3 <;> simp [isCl, ho]
  have h40 : it4 = .sg 40 := by
    cases it4 with
    | wd x => exact absurd rfl c4
    | sg o =>
      have : ¬ (!decide (o = 40)) = true := c4
      have : o = 40 := by simpa using this
      rw [this]
  subst h40
  obtain ⟨e, e1, e2, e3, e4⟩ := j2.data (K := K)
  refine ⟨_, rfl, (by show 2 ≤ sizeLine; decide), fun ca hc => ?_⟩
  have n5 := Same.new hc (.tup [.str "&", .str "|"])
  have b1 : ∀ d, PyData.eqv (PyData.str "&") d = PyData.eqv (.str ⟨#[38]⟩) d := fun _ => rfl
  have b2 : ∀ d, PyData.eqv (PyData.str "|") d = PyData.eqv (.str ⟨#[124]⟩) d := fun _ => rfl
  refine ⟨e, [.str "&", .str "|"], DAt.mono n5 e1, .tuple (SqT.of upd_same) (.cons (.str _) (.cons (.str _) .nil)), e2, ?_, ?_, _, rfl, ite2 (fun c2 => ?_) (fun c2 => ?_)⟩
  · rw [lay_cons, lay_cons, lay_nil]
    have e1 : (PyData.str "&").canLay0 = true := lay_sign (c := 38) (by decide)
    have e2 : (PyData.str "|").canLay0 = true := lay_sign (c := 124) (by decide)
    rw [e1, e2]
    rfl
  · decide
  · refine iteT ⟨(by show 1 ≤ sizeLine; decide), qx ?_ _ (k4.trans (Keep.same n5))⟩
    simp only [List.any_cons, List.any_nil, b1, b2, e4] at c2
    cases it2 with
    | wd x => cases it1 <;> cases it3 <;> rfl
    | sg j =>
      simp [PItem.is] at c2
      cases it1 <;> cases it3 <;> simp [isCl, c2]
  obtain ⟨j, rfl, hj⟩ : ∃ j, it2 = .sg j ∧ (j = 38 ∨ j = 124) := by
    simp only [List.any_cons, List.any_nil, b1, b2, e4] at c2
    cases it2 with
    | wd x => exact absurd rfl c2
    | sg j =>
      simp [PItem.is] at c2
      exact ⟨j, rfl, by omega⟩
  obtain ⟨rfl, _⟩ := j2
  have hl5 := n5 _ _ hl4
  have j1 := ItAt.mono n5.tup j1
  have j3 := ItAt.mono n5.tup j3
  have hI5 := Paired.items n5.tup hI4
  have k5 := k4.trans (Keep.same n5)
  generalize upd H4 ca (.tup [.str "&", .str "|"]) = H5 at n5 hl5 j1 j3 hI5 k5
  cases it3 with
  | sg o3 =>
    obtain ⟨rfl, _⟩ := j3
    refine ⟨_, rfl, _, _, _, false, rfl, TyOf.str _, rfl, _, rfl, iteTh rfl (iteT ⟨(by show 1 ≤ sizeLine; decide), qx ?_ _ k5⟩)⟩
    cases it1 <;> rfl
  | wd a =>
  have w3 : WAt H5 a v3 := j3
  obtain ⟨q3, kd3, xs3, ev3, hq3, _⟩ := word_head w3
  cases it1 with
  | sg o1 =>
    obtain ⟨rfl, _⟩ := j1
    refine ⟨_, rfl, _, _, _, true, rfl, ev3 ▸ TyOf.tup hq3, rfl, _, rfl, iteFh rfl ?_⟩
    exact ⟨_, rfl, _, _, _, false, rfl, TyOf.str _, rfl, _, rfl, iteTh rfl ⟨(by show 1 ≤ sizeLine; decide), qx rfl _ k5⟩⟩
  | wd b =>
  have w1 : WAt H5 b v1 := j1
  obtain ⟨q1, kd1, xs1, ev1, hq1, _⟩ := word_head w1
  refine ⟨_, rfl, _, _, _, true, rfl, ev3 ▸ TyOf.tup hq3, rfl, _, rfl, iteFh rfl ?_⟩
  refine ⟨_, rfl, _, _, _, true, rfl, ev1 ▸ TyOf.tup hq1, rfl, _, rfl, iteFh rfl ?_⟩
  have fin : ∀ nm : Str, (gval "&" "and" "|" "or" ⟨#[j]⟩ = some nm) → (∀ x, x = .str nm → ∀ (H6 : Hp) (y : Addr), H6 y = some (.tup [x, v3, v1]) → WAt H6 a v3 → WAt H6 b v1 → WAt H6 (joined j a b) (.ref y)) →
      tTup (tCons (tGGet "&" "and" "|" "or" (tVar 2)) (tCons (tVar 3) (tCons (tVar 1) tNil))) [some (.ref l), some v1, some (.str ⟨#[j]⟩), some v3, some v4] H5 Q := fun nm hv hw => by
    refine ⟨_, rfl, _, nm, rfl, hv, _, rfl, _, rfl, (by show 3 ≤ sizeLine; decide), fun x hx => ?_⟩
    have n6 := Same.new hx (.tup [.str nm, v3, v1])
    exact q a b j r rfl hj _ _ (k5.trans (Keep.same n6)) ⟨vs', n6 _ _ hl5, Paired.items n6.tup hI5⟩ (hw _ rfl _ _ upd_same (WAt.mono n6.tup w3) (WAt.mono n6.tup w1))
  rcases hj with rfl | rfl
  · exact fin "and" (by decide +kernel) fun x ex H6 y hy h1 h2 => ⟨y, v3, v1, rfl, by rw [hy, ex], h1, h2⟩
  · exact fin "or" (by decide +kernel) fun x ex H6 y hy h1 h2 => ⟨y, v3, v1, rfl, by rw [hy, ex], h1, h2⟩
theorem ok_take {c5 gg gc : Addr} {tk : Tok} (F : Fun K "take_sign" "take_sign" sTakeSign f fd) (d_put_word : Callee P w K mg base "put_word" 1 ["pile", "word"] (spPut K)) (d_closed : CalleeX P w K mg base "closed" 1 ["pile"] (spClosed K c5)) (c_FIGURES : mg "FIGURES" = some (.str "0123456789" tk))
    (gd_GROUNDS : GD K w gg "1" "on" "0" "off") (m_GROUNDS : mg "GROUNDS" = some (.ref gg)) (gd_CONTACTS : GD K w gc "r" "relay" "b" "button") (m_CONTACTS : mg "CONTACTS" = some (.ref gc)) :
    FnOk P w K mg base (CXr P w) 2 f fd ["pile", "sign"] (spTake K c5) := by
  have S : FnScope ["pile", "sign"] ["pile", "sign"] (defScope sTakeSign) := ⟨rfl, rfl, rfl, by decide +kernel, rfl, by decide +kernel, by decide +kernel⟩
  refine F.okX S (fun vs H Q E h => ?_) (fun cdv A outer s H vs Q E hr h => ?_)
  · obtain ⟨l, c, p, rfl, _⟩ := h
    rfl
  obtain ⟨l, c, p, rfl, hc, hP, hr9, q, qx⟩ := h
  refine ⟨_, (pss_one (ps_if (PW.pt (pw_and (pt_cmpR op_in_str (pv 1) (pe_glob (v := .str "0123456789") rfl c_FIGURES ⟨_, rfl⟩) rfl) (pw_and (pt_truthK (K := K) rfl (pv 0) (fun _ => rfl)) (pw_and1 (pt_cmpR (op_inTD (K := K) rfl hr.units) (pe_ix (ix_listK (K := K) rfl) (pv 0) (pe_un un_neg pe_int) (fun _ _ => rfl)) (pe_tup (pa_cons pe_str (pa_cons pe_str pa_nil))) rfl))))) (pss_one (ps_expr (pe_callD d_put_word hr (by omega) rfl (pa_cons (pv 0) (pa_cons (pe_tup (pa_cons (pe_gget gd_CONTACTS rfl m_CONTACTS (pe_bm0 PySem.F.plainAttrs_list PySem.F.slot_list_pop PySem.F.type_list_pop mt_pop (pv 0)) (fun _ _ => rfl)) (pa_cons (pe_bm PySem.F.plainAttrs_str PySem.F.slot_str_index PySem.F.type_str_index mt_index (pe_glob (v := .str "0123456789") rfl c_FIGURES ⟨_, rfl⟩) (pa_cons (pv 1) pa_nil)) pa_nil))) pa_nil))))) (pss_one (ps_if (pt_cmp (pc_gin gd_GROUNDS rfl m_GROUNDS (pv 1)) rfl) (pss_one (ps_expr (pe_callD d_put_word hr (by omega) rfl (pa_cons (pv 0) (pa_cons (pe_tup (pa_cons (pe_gget gd_GROUNDS rfl m_GROUNDS (pv 1) (fun _ _ => rfl)) pa_nil)) pa_nil))))) (pss_one (ps_if (pt_cmpR op_eq (pv 1) pe_str (nomark _)) (pss_one (ps_expr (pe_callD d_put_word hr (by omega) rfl (pa_cons (pv 0) (pa_cons (pe_callX d_closed hr (by omega) rfl pass_r (pa_cons (pv 0) pa_nil)) pa_nil))))) (pss_one (ps_expr (pe_bm PySem.F.plainAttrs_list PySem.F.slot_list_append PySem.F.type_list_append mt_append (pv 0) (pa_cons (pv 1) pa_nil)))))))))), ?_⟩
  obtain ⟨vs, hl, hI⟩ := id hP
  have hlen := Paired.length hI
  have up : ∀ (H0 : Hp) (xs ys : List V), H0 l = some (.lst xs) → TupLe H0 (upd H0 l (.lst ys)) := fun H0 xs ys h => tup_upd fun zs z => by rw [h] at z; cases z
  refine if_rest (fun H1 => Same H H1 ∧ ¬ (48 ≤ c ∧ c ≤ 57 ∧ isRB p = true)) ?_ (fun rest => ?_)
  · rintro H1 ⟨s1, nc⟩
    have hl1 := s1 _ _ hl
    have hI1 := Paired.items s1.tup hI
    have stp : stepP p c = if c = 49 then some (put p .on) else if c = 48 then some (put p .off) else if c = 41 then closeP p else some (.sg c :: p) := by
      unfold stepP
      rw [if_neg nc]
    refine ⟨_, rfl, _, rfl, _, rfl, ?_⟩
    by_cases c49 : c = 49
    · subst c49
      refine iteTh (by rw [ground_at 49 hc]; rfl) ?_
      refine ⟨_, rfl, _, rfl, _, "on", rfl, by rw [ground_at 49 hc]; rfl, (by show 1 ≤ sizeLine; decide), fun a ha => ?_⟩
      have n2 := Same.new ha (.tup [.str "on"])
      refine ⟨l, _, p, .on, rfl, ⟨vs, n2 _ _ hl1, Paired.items n2.tup hI1⟩, ⟨a, rfl, upd_same⟩, by omega, fun H2 k2 hp2 => ?_⟩
      exact q _ (by rw [stp]; rfl) H2 ((Keep.same (s1.trans n2)).trans k2) hp2
    by_cases c48 : c = 48
    · subst c48
      refine iteTh (by rw [ground_at 48 hc]; rfl) ?_
      refine ⟨_, rfl, _, rfl, _, "off", rfl, by rw [ground_at 48 hc]; rfl, (by show 1 ≤ sizeLine; decide), fun a ha => ?_⟩
      have n2 := Same.new ha (.tup [.str "off"])
      refine ⟨l, _, p, .off, rfl, ⟨vs, n2 _ _ hl1, Paired.items n2.tup hI1⟩, ⟨a, rfl, upd_same⟩, by omega, fun H2 k2 hp2 => ?_⟩
      exact q _ (by rw [stp]; rfl) H2 ((Keep.same (s1.trans n2)).trans k2) hp2
    refine iteFh (by rw [ground_at c hc, if_neg c49, if_neg c48]; rfl) ?_
    rw [if_neg c49, if_neg c48] at stp
    refine ⟨_, rfl, rfl, _, rfl, ?_⟩
    by_cases c41 : c = 41
    · subst c41
      rw [if_pos rfl] at stp
      refine iteTh (by decide +kernel) ?_
      refine ⟨_, rfl, _, rfl, l, p, rfl, ⟨vs, hl1, hI1⟩, by omega, fun a b j r ep hj x H2 k2 hp2 hw2 => ?_, fun hn H2 k2 => ?_⟩
      · have hcl : closeP p = some (put r (joined j a b)) := by
          rw [ep]
          show (if 40 = 40 ∧ (j = 38 ∨ j = 124) then _ else _) = _
          rw [if_pos ⟨rfl, hj⟩]
          rfl
        have hr2 : r.length ≤ 999 := by
          rw [ep] at hr9
          simp at hr9
          omega
        exact ⟨l, x, r, joined j a b, rfl, hp2, hw2, hr2, fun H3 k3 hp3 => q _ (stp.trans hcl) H3 (((Keep.same s1).trans k2).trans k3) hp3⟩
      · exact qx (stp.trans (closeP_none hn)) H2 ((Keep.same s1).trans k2)
    · rw [if_neg c41] at stp
      refine iteFh ?_ ?_
      · exact decide_eq_false fun z => c41 (by
          have z' : (⟨#[c]⟩ : Str) = ⟨#[41]⟩ := V.str.inj z
          simpa using z')
      refine ⟨_, rfl, .inl ⟨rfl, _, SqL.of hl1⟩, _, rfl, l, _, _, rfl, rfl, hl1, small1000 (by rw [List.length_reverse]; omega), ?_⟩
      refine q _ stp _ ((Keep.same s1).upd _) ⟨.str ⟨#[c]⟩ :: vs, by rw [upd_same, List.reverse_cons], .cons ⟨rfl, hc⟩ (Paired.items (up _ _ _ hl1) hI1)⟩
  refine ⟨_, rfl, _, _, rfl, rfl, ?_⟩
  rw [fig_in c hc]
  refine ⟨_, rfl, ite2 (fun c1 => ?_) (fun c1 => ?_)⟩
  · have hf : 48 ≤ c ∧ c ≤ 57 := of_decide_eq_true c1
    refine ⟨_, rfl, _, .inl ⟨_, SqL.of hl, rfl⟩, ite2 (fun c2 => ?_) (fun c2 => ?_)⟩
    · cases hI with
      | nil => cases c2
      | @cons it y r vs' hy ht =>
      rw [List.reverse_cons] at hl
      obtain ⟨d, d1, d2, d3, d4⟩ := hy.data (K := K)
      refine ⟨_, rfl, _, rfl, l, _, _, y, rfl, rfl, SqL.of hl, at_last, ?_⟩
      refine ⟨(by show 2 ≤ sizeLine; decide), fun ca hca => ?_⟩
      have n5 := Same.new hca (.tup [.str "r", .str "b"])
      have b1 : ∀ d, PyData.eqv (PyData.str "r") d = PyData.eqv (.str ⟨#[114]⟩) d := fun _ => rfl
      have b2 : ∀ d, PyData.eqv (PyData.str "b") d = PyData.eqv (.str ⟨#[98]⟩) d := fun _ => rfl
      refine ⟨d, [.str "r", .str "b"], DAt.mono n5 d1, .tuple (SqT.of upd_same) (.cons (.str _) (.cons (.str _) .nil)), d2, ?_, ?_, _, rfl, ite2 (fun c3 => ?_) (fun c3 => ?_)⟩
      · rw [lay_cons, lay_cons, lay_nil]
        have e1 : (PyData.str "r").canLay0 = true := lay_sign (c := 114) (by decide)
        have e2 : (PyData.str "b").canLay0 = true := lay_sign (c := 98) (by decide)
        rw [e1, e2]
        rfl
      · decide
      · simp only [List.any_cons, List.any_nil, b1, b2, d4] at c3
        obtain ⟨e, rfl, he⟩ : ∃ e, it = .sg e ∧ (e = 114 ∨ e = 98) := by
          cases it with
          | wd x => exact absurd c3 (by simp [PItem.is])
          | sg e =>
            simp [PItem.is] at c3
            exact ⟨e, rfl, by omega⟩
        obtain ⟨rfl, he128⟩ := hy
        have hl5 := n5 _ _ hl
        have ht5 := Paired.items n5.tup ht
        generalize upd H ca (.tup [.str "r", .str "b"]) = H5 at n5 hl5 ht5
        have hrb : isRB (.sg e :: r) = true := by
          rcases he with rfl | rfl <;> rfl
        have stp : stepP (.sg e :: r) c = some (put r (if e = 114 then .relay ((c - 48 : Nat) : Int) else .button ((c - 48 : Nat) : Int))) := by
          unfold stepP
          rw [if_pos ⟨hf.1, hf.2, hrb⟩]
        refine ⟨_, rfl, _, rfl, .inl ⟨rfl, _, SqL.of hl5⟩, l, _, .str ⟨#[e]⟩, rfl, rfl, hl5, by simp, ?_⟩
        rw [List.dropLast_concat]
        have t6 := up H5 _ vs'.reverse hl5
        have k6 := (Keep.same (l := l) n5).upd (.lst vs'.reverse)
        have hl6 : upd H5 l (.lst vs'.reverse) l = some (.lst vs'.reverse) := upd_same
        have ht6 := Paired.items t6 ht5
        generalize upd H5 l (.lst vs'.reverse) = H6 at t6 k6 hl6 ht6
        have hrl : r.length ≤ 999 := by
          simp at hr9
          omega
        rcases he with rfl | rfl
        · refine ⟨_, "relay", rfl, by rw [contact_at 114 (by decide)]; rfl, ?_⟩
          refine ⟨rfl, _, rfl, _, _, c - 48, [], rfl, rfl, fig_at c (by omega) hf.1, (by show 2 ≤ sizeLine; decide), fun a ha => ?_⟩
          have n7 := Same.new ha (.tup [.str "relay", .int ((c - 48 : Nat) : Int)])
          exact ⟨l, _, r, .relay ((c - 48 : Nat) : Int), rfl, ⟨vs', n7 _ _ hl6, Paired.items n7.tup ht6⟩, ⟨a, rfl, upd_same⟩, hrl, fun H8 k8 hp8 => q _ stp H8 ((k6.trans (Keep.same n7)).trans k8) hp8⟩
        · refine ⟨_, "button", rfl, by rw [contact_at 98 (by decide)]; rfl, ?_⟩
          refine ⟨rfl, _, rfl, _, _, c - 48, [], rfl, rfl, fig_at c (by omega) hf.1, (by show 2 ≤ sizeLine; decide), fun a ha => ?_⟩
          have n7 := Same.new ha (.tup [.str "button", .int ((c - 48 : Nat) : Int)])
          exact ⟨l, _, r, .button ((c - 48 : Nat) : Int), rfl, ⟨vs', n7 _ _ hl6, Paired.items n7.tup ht6⟩, ⟨a, rfl, upd_same⟩, hrl, fun H8 k8 hp8 => q _ stp H8 ((k6.trans (Keep.same n7)).trans k8) hp8⟩
      · simp only [List.any_cons, List.any_nil, b1, b2, d4] at c3
        refine rest _ ⟨n5, fun z => c3 ?_⟩
        have z3 := z.2.2
        cases it with
        | wd x => cases z3
        | sg e => simpa [PItem.is, isRB] using z3
    · refine rest H ⟨Same.refl _, fun z => c2 ?_⟩
      have z3 := z.2.2
      cases hI with
      | nil => cases z3
      | cons _ _ => simp
  · exact rest H ⟨Same.refl _, fun z => c1 (decide_eq_true ⟨z.1, z.2.1⟩)⟩
theorem ok_readw {c5 : Addr} (F : Fun K "read_word" "read_word" sReadWord f fd) (d_take_sign : CalleeX P w K mg base "take_sign" 2 ["pile", "sign"] (spTake K c5)) (n_len : mg "len" = none) (n_isinstance : mg "isinstance" = none) (n_tuple : mg "tuple" = none) (x_NoNote : ExcC K mg "NoNote" c5) :
    FnOk P w K mg base (CXr P w) 3 f fd ["note"] (spReadW K c5) := by
  have S : FnScope ["note", "pile", "sign"] ["note"] (defScope sReadWord) := ⟨rfl, rfl, rfl, by decide +kernel, rfl, by decide +kernel, by decide +kernel⟩
  refine F.okX S (fun vs H Q E h => ?_) (fun cdv A outer s H vs Q E hr h => ?_)
  · obtain ⟨z, rfl, _⟩ := h
    rfl
  obtain ⟨z, rfl, hz, hzl, q, qx⟩ := h
  refine ⟨_, (pss_cons (ps_set (i := 1) S.nd rfl (Or.inl rfl) (pe_lst pa_nil))
    (pss_cons (ps_for PassesOwn.leaving rfl (pi_str (pv 0)) (pg_name (i := 2) S.nd rfl (Or.inl rfl)) (pss_one (ps_expr (pe_callX d_take_sign hr (by omega) rfl pass_r (pa_cons (pv 1) (pa_cons (pv 2) pa_nil))))))
    (pss_cons (ps_if (PW.pt (pw_or (pt_cmpR op_ne (pe_callB (call_len_seqK (K := K) rfl) rfl n_len PySem.boot_len (pa_cons (pv 1) pa_nil)) pe_int (nomark _)) (pw_or1 (pt_not (pt_val (pe_callB (call_isinst (K := K) rfl) rfl n_isinstance PyProof.Rows.boot_isinstance (pa_cons (pe_ix (ix_listK (K := K) rfl) (pv 1) pe_int (fun _ _ => rfl)) (pa_cons (pe_bltn (v := .ty "tuple") rfl n_tuple PyProof.Rows.boot_tuple rfl) pa_nil)))))))) (pss_one (ps_raise x_NoNote hr.hd (pa_cons pe_str pa_nil) rfl)) pss_nil)
    (pss_one (ps_ret (pe_ix (ix_listK (K := K) rfl) (pv 1) pe_int (fun _ _ => rfl))))))), ?_⟩
  refine ⟨(by show 0 ≤ sizeLine; decide), fun l hln => ?_⟩
  refine ⟨_, rfl, z, rfl, hz, ?_⟩
  refine for_str (fun i σ H' => ∃ p o, σ = [some (.str z), some (.ref l), o] ∧ Keep l (upd H l (.lst [])) H' ∧ PileAt H' l p ∧ (z.cps.toList.take i).foldlM stepP [] = some p ∧ p.length ≤ i ∧ i ≤ z.length)
    ⟨[], none, rfl, Keep.refl _ _, ⟨[], upd_same, .nil⟩, rfl, Nat.le_refl _, Nat.zero_le _⟩ ?_ ?_
  · rintro i c σ H1 hi ⟨p, o, rfl, k1, hp, hf, hlp, hiz⟩
    have hc : c < 128 := by
      have := Array.all_eq_true_iff_forall_mem.mp hz c (by rw [Array.mem_iff_getElem?]; exact ⟨i, hi⟩)
      simpa using this
    have hil : i < z.length := (Array.getElem?_eq_some_iff.mp hi).1
    have hi' : z.cps.toList[i]? = some c := by simpa using hi
    have st := fold_some hi' hf
    refine ⟨_, rfl, _, rfl, l, c, p, rfl, hc, hp, by omega, fun p' hp' H2 k2 hP2 => ?_, fun hn H2 k2 => ?_⟩
    · refine ⟨p', _, rfl, k1.trans k2, hP2, st.trans hp', ?_, hil⟩
      have := step_len hp'
      omega
    · refine qx ?_ H2 (keep_new hln (k1.trans k2))
      have : z.cps.toList.foldlM stepP [] = none := fold_none (st.trans hn)
      unfold readW
      rw [this]
      rfl
  · rintro σ H1 ⟨p, o, rfl, k1, ⟨vs, hl, hI⟩, hf, hlp, hiz⟩
    have hfull : z.cps.toList.foldlM stepP [] = some p := by
      have : z.cps.toList.take z.cps.size = z.cps.toList := by rw [List.take_of_length_le]; simp
      rw [this] at hf
      exact hf
    have hlen := Paired.length hI
    have hrw : readW z = oneW p := by
      unfold readW
      rw [hfull]
      rfl
    refine ⟨_, rfl, l, _, rfl, .inl (SqL.of hl), rfl, _, rfl, ite2 (fun c => ?_) (fun c => ?_)⟩
    · refine iteT ⟨(by show 1 ≤ sizeLine; decide), qx ?_ H1 (keep_new hln k1)⟩
      rw [hrw]
      unfold oneW
      split
      · next wd =>
        exfalso
        have : vs.reverse.length = 1 := by
          rw [List.length_reverse]
          simpa using hlen.symm
        rw [this] at c
        exact absurd c (by decide)
      · rfl
    have h1 : vs.length = 1 := by
      have c' : ¬ (!decide (V.int ((vs.reverse.length : Nat) : Int) = V.int 1)) = true := c
      simp at c'
      omega
    cases hI with
    | nil => cases h1
    | @cons it y r vs' hy ht =>
    cases ht with
    | cons _ _ => simp at h1
    | nil =>
    refine ⟨_, rfl, l, _, _, y, rfl, rfl, SqL.of hl, at0 _ _, ?_⟩
    cases it with
    | sg e =>
      obtain ⟨rfl, he⟩ := hy
      refine ⟨_, _, _, false, rfl, TyOf.str _, rfl, _, rfl, iteTh rfl ⟨(by show 1 ≤ sizeLine; decide), qx (hrw.trans rfl) H1 (keep_new hln k1)⟩⟩
    | wd a =>
      have hw : WAt H1 a y := hy
      obtain ⟨q1, kd1, xs1, ev1, hq1, _⟩ := word_head hw
      refine ⟨_, _, _, true, rfl, ev1 ▸ TyOf.tup hq1, rfl, _, rfl, iteFh rfl ?_⟩
      exact ⟨_, rfl, l, _, _, y, rfl, rfl, SqL.of hl, at0 _ _, q a (hrw.trans rfl) y H1 (keep_new hln k1) hw⟩
theorem ok_parts (F : Fun K "parts" "parts" sParts f fd) : FnOk P w K mg base CX0 1 f fd ["word"] spParts := by
  have S : FnScope ["word"] ["word"] (defScope sParts) := ⟨rfl, rfl, rfl, by decide +kernel, rfl, by decide +kernel, by decide +kernel⟩
  refine F.ok S (fun vs H Q E h => ?_) (fun cdv A outer s H vs Q E hr h => ?_)
  · obtain ⟨v, wd, rfl, _⟩ := h
    rfl
  obtain ⟨v, wd, rfl, hW, q⟩ := h
  refine ⟨_, (pss_cons (ps_if (pt_cmpR (op_in_seqK (K := K) rfl) (pe_ix (ix_tupK (K := K) rfl) (pv 0) pe_int (fun _ _ => rfl)) (pe_tup (pa_cons pe_str (pa_cons pe_str (pa_cons pe_str pa_nil)))) rfl) (pss_one (ps_ret (pe_slice (sl_tupK (K := K) rfl) (pv 0) (po_some pe_int) po_none))) pss_nil)
    (pss_one (ps_ret (pe_tup pa_nil)))), ?_⟩
  obtain ⟨p, kd, xs, rfl, hp, hl, hk⟩ := word_head hW
  refine ⟨_, rfl, p, _, _, _, rfl, rfl, SqT.of hp, at0 _ _, (by show 3 ≤ sizeLine; decide), fun p1 hp1 => ?_⟩
  have n1 := Same.new hp1 (.tup [.str "not", .str "and", .str "or"])
  refine ⟨p1, _, rfl, .inr (SqT.of upd_same), rfl, rfl, _, rfl, ?_⟩
  have none_ : ∀ (H1 : Hp), Same H H1 → wd.parts = [] → 0 ≤ sizeLine ∧ ∀ r, H1 r = none → Q (.ref r) (upd H1 r (.tup [])) := fun H1 s1 e => ⟨by decide, fun r hr => q r [] _ (s1.trans (Same.new hr _)) upd_same (by rw [e]; exact ws_nil)⟩
  rcases hk with ⟨k, rfl, rfl, rfl⟩ | ⟨k, rfl, rfl, rfl⟩ | ⟨k1, k2, hws, k3, k4, k5⟩
  · exact iteFh (by decide +kernel) (none_ _ n1 rfl)
  · exact iteFh (by decide +kernel) (none_ _ n1 rfl)
  · cases hi : inV (.str kd) [.str "not", .str "and", .str "or"] with
    | false => exact iteFh rfl (none_ _ n1 (k5 hi))
    | true =>
      refine iteTh rfl ⟨_, rfl, _, rfl, p, _, rfl, SqT.of (n1 _ _ hp), cut_part _ _, fun p2 hp2 => ?_⟩
      rw [cut_tail]
      have n2 := Same.new hp2 (.tup xs)
      exact q p2 xs _ (n1.trans n2) upd_same (hws.mono (n1.trans n2).tup)
theorem step_deeper {n : Nat} (F : Fun K "is_deeper" "is_deeper" sIsDeeper f fd) (d_parts : Callee P w K mg base "parts" 1 ["word"] spParts) (d_is_deeper : Callee P w K mg base "is_deeper" (n + 2) ["word", "depth"] (spDeeper n)) (n_any : mg "any" = none) :
    FnOk P w K mg base CX0 (n + 3) f fd ["word", "depth"] (spDeeper (n + 1)) := by
  have S : FnScope ["word", "depth"] ["word", "depth"] (defScope sIsDeeper) := ⟨rfl, rfl, rfl, by decide +kernel, rfl, by decide +kernel, by decide +kernel⟩
  refine F.ok S (fun vs H Q E h => ?_) (fun cdv A outer s H vs Q E hr h => ?_)
  · obtain ⟨v, wd, d, rfl, _⟩ := h
    rfl
  obtain ⟨v, wd, d, rfl, hW, hd, q⟩ := h
  refine ⟨_, (pss_cons (ps_if (pt_cmpR op_eq (pv 1) pe_int (nomark _)) (pss_one (ps_ret pe_bl)) pss_nil)
    (pss_one (ps_ret (pe_callB (call_anyB (K := K) rfl rfl) rfl n_any PyProof.Rows.boot_any (pa_cons (pe_comp (ys := ["depth"]) (ix := [1]) (.of S {}) rfl (pi_tup (pe_callD d_parts hr (by omega) rfl (pa_cons (pv 0) pa_nil))) (fun _ _ _ _ => pts_nil) (fun cl s3 H3 fp => (pe_callD d_is_deeper hr (by omega) rfl (pa_cons (pv 0) (pa_cons (pe_op op_sub (pv 1) pe_int) pa_nil))))) pa_nil))))), ?_⟩
  refine ⟨_, rfl, rfl, _, rfl, ite2 (fun c => ?_) (fun c => ?_)⟩
  · have c' : (d : Int) = 0 := by have z := of_decide_eq_true c; injection z
    have e : decide (d < wd.depth) = true := decide_eq_true (by have := depth_pos wd; omega)
    have q' := q H (Same.refl _)
    rw [e] at q'
    exact q'
  have c' : ¬ (d : Int) = 0 := fun z => of_decide_eq_false (Bool.eq_false_iff.mpr c) (by rw [z])
  obtain ⟨d, rfl⟩ : ∃ j, d = j + 1 := ⟨d - 1, by omega⟩
  refine ⟨_, rfl, v, wd, rfl, hW, fun p xs H1 s1 hp hws => ⟨p, rfl, ⟨xs, SqT.of hp⟩, ?_⟩⟩
  have lx := parts_len wd
  have hl := hws.1
  refine body_tup (SqT.of hp) (sz (by omega)) (fun i y H => ∃ x, wd.parts[i]? = some x ∧ y = .bl (decide (d < x.depth))) (fun _ _ _ _ _ h => h) (fun i x H2 R hx s2 hR => ?_) (fun D us H2 hD s2 hl2 hlen hG => ?_)
  · obtain ⟨wx, e1, e2⟩ := hws.2 i x hx
    refine ⟨_, rfl, _, rfl, _, _, rfl, rfl, x, wx, d, ?_, e2.mono s2.tup, by omega, fun H3 s3 => hR _ _ s3 ⟨wx, e1, rfl⟩⟩
    show [x, V.int (((d + 1 : Nat) : Int) - 1)] = _
    rw [show ((d + 1 : Nat) : Int) - 1 = (d : Int) by omega]
  · have eu : us = (wd.parts.map fun x => decide (d < x.depth)).map V.bl := list_ext (by simp [hlen, hl]) fun i y hy => by
      obtain ⟨x, e1, rfl⟩ := hG i y hy
      simp [e1]
    refine ⟨D, _, rfl, SqL.of (by rw [← eu]; exact hl2), ?_⟩
    rw [depth_parts]
    exact q _ (s1.trans s2)
theorem ok_deeper (F : Fun K "is_deeper" "is_deeper" sIsDeeper f fd) (b : Binds K fd ["word", "depth"] []) (m : mg "is_deeper" = some (.ref f)) (d_parts : Callee P w K mg base "parts" 1 ["word"] spParts) (n_any : mg "any" = none) :
    ∀ n : Nat, FnOk P w K mg base CX0 (n + 2) f fd ["word", "depth"] (spDeeper n)
  | 0 => no_calls fun vs H Q E h => by
    obtain ⟨_, _, d, _, _, hd, _⟩ := h
    exact absurd hd (Nat.not_lt_zero _)
  | n + 1 => step_deeper F d_parts ⟨f, fd, ok_deeper F b m d_parts n_any n, b, F.kp, m⟩ n_any
theorem ok_readx {c1 c5 : Addr} {tk : Tok} (F : Fun K "read" "read" sRead f fd) (d_read_word : CalleeX P w K mg base "read_word" 3 ["note"] (spReadW K c5)) (d_is_deeper : Callee P w K mg base "is_deeper" 11 ["word", "depth"] (spDeeper 9)) (n_any : mg "any" = none) (c_MOST_DEPTH : mg "MOST_DEPTH" = some (.int 8 tk)) (x_Deep : ExcC K mg "Deep" c1) :
    FnOk P w K mg base (CXr P w) 12 f fd ["text"] (spRead K c1 c5) := by
  have S : FnScope ["text", "board"] ["text"] (defScope sRead) := ⟨rfl, rfl, rfl, by decide +kernel, rfl, by decide +kernel, by decide +kernel⟩
  refine F.okX S (fun vs H Q E h => ?_) (fun cdv A outer s H vs Q E hr h => ?_)
  · obtain ⟨z, rfl, _⟩ := h
    rfl
  obtain ⟨z, rfl, hzl, hps, q, qd, qn⟩ := h
  refine ⟨_, (pss_cons (ps_setCX (i := 1) (ys := []) (ix := []) (.of S {}) S.nd rfl rfl (pi_list (pe_bm PySem.F.plainAttrs_str PySem.F.slot_str_split PySem.F.type_str_split mt_split (pv 0) (pa_cons pe_str pa_nil))) (fun cl s3 H3 fp hx => (pe_callX d_read_word hr (by omega) rfl hx (pa_cons (pv 0) pa_nil))))
    (pss_cons (ps_if (pt_val (pe_callB (call_anyB (K := K) rfl rfl) rfl n_any PyProof.Rows.boot_any (pa_cons (pe_comp (ys := []) (ix := []) (.of S {}) rfl (pi_list (pv 1)) (fun _ _ _ _ => pts_nil) (fun cl s3 H3 fp => (pe_callD d_is_deeper hr (by omega) rfl (pa_cons (pv 0) (pa_cons (pe_glob (v := .int 8) rfl c_MOST_DEPTH ⟨_, rfl⟩) pa_nil))))) pa_nil))) (pss_one (ps_raise x_Deep hr.hd (pa_cons pe_str pa_nil) rfl)) pss_nil)
    (pss_one (ps_ret (pv 1))))), ?_⟩
  have hcut := PyProof.Rows.split_le z ⟨#[59]⟩
  refine ⟨_, rfl, rfl, z, ⟨#[59]⟩, rfl, rfl, rfl, by omega, fun l hl => ?_⟩
  generalize Txt.split z ⟨#[59]⟩ = ps at *
  have n1 := Same.new hl (.lst (ps.map V.str))
  have hl1 : upd H l (.lst (ps.map V.str)) l = some (.lst (ps.map V.str)) := upd_same
  refine ⟨l, rfl, ⟨_, SqL.of hl1⟩, ?_⟩
  generalize upd H l (.lst (ps.map V.str)) = H1 at n1 hl1
  have ofx : ∀ {i : Nat} {x : V}, (ps.map V.str)[i]? = some x → ∃ p, ps[i]? = some p ∧ x = .str p := fun {i x} hx => by
    rw [List.getElem?_map] at hx
    cases e : ps[i]? with
    | none => rw [e] at hx; cases hx
    | some m => rw [e] at hx; cases hx; exact ⟨m, rfl, rfl⟩
  refine body_list (SqL.of hl1) (sz (by rw [List.length_map]; omega)) (fun i y H => ∃ p wd, ps[i]? = some p ∧ readW p = some wd ∧ WAt H wd y) (fun _ _ _ _ t ⟨p, wd, e1, e2, e3⟩ => ⟨p, wd, e1, e2, e3.mono t⟩) (fun i x H2 R hx s2 hR => ?_) (fun D us H2 hDn s2 hD2 hlen2 hG2 => ?_)
  · obtain ⟨p, hp, rfl⟩ := ofx hx
    obtain ⟨p1, p2⟩ := hps p (List.mem_of_getElem? hp)
    exact ⟨_, rfl, p, rfl, p1, p2, fun wd hw v H3 s3 w3 => hR _ _ s3 ⟨p, wd, hp, hw, w3⟩, fun hn H3 s3 => qn ⟨p, List.mem_of_getElem? hp, hn⟩ H3 ((n1.trans s2).trans s3)⟩
  rw [List.length_map] at hlen2
  obtain ⟨ws, hws⟩ : ∃ ws : List Wd, ps.map readW = ws.map some := all_some fun i p hp => by
    have hi : i < us.length := by have := (List.getElem?_eq_some_iff.mp hp).1; omega
    obtain ⟨p', wd, e1, e2, _⟩ := hG2 i us[i] (List.getElem?_eq_getElem hi)
    rw [hp] at e1
    cases e1
    exact ⟨wd, e2⟩
  have hlw : ps.length = ws.length := by simpa using congrArg List.length hws
  have hW2 : WsAt H2 ws us := ⟨by omega, fun i v e => by
    obtain ⟨p, wd, e1, e2, e3⟩ := hG2 i v e
    have h1 := congrArg (fun l => l[i]?) hws
    simp only [List.getElem?_map, e1, Option.map_some, e2] at h1
    cases e4 : ws[i]? with
    | none => rw [e4] at h1; cases h1
    | some wd' =>
      rw [e4] at h1
      cases h1
      exact ⟨_, rfl, e3⟩⟩
  refine ⟨_, rfl, D, rfl, ⟨us, SqL.of hD2⟩, ?_⟩
  have hlu := hW2.1
  refine body_list (SqL.of hD2) (sz (by omega)) (fun i y H => ∃ wd, ws[i]? = some wd ∧ y = .bl (decide (8 < wd.depth))) (fun _ _ _ _ _ h => h) (fun i x H3 R hx s3 hR => ?_) (fun l3 us3 H3 l30 s3 h3 hlen3 hG3 => ?_)
  · obtain ⟨wd, w1, w2⟩ := hW2.2 i x hx
    exact ⟨_, rfl, x, wd, 8, rfl, w2.mono s3.tup, by omega, fun H4 s4 => hR _ _ s4 ⟨wd, w1, rfl⟩⟩
  have e3 : us3 = (ws.map fun wd => decide (8 < wd.depth)).map V.bl := list_ext (by rw [hlen3]; simp [hlu]) fun i y hy => by
    obtain ⟨wd, w1, rfl⟩ := hG3 i y hy
    simp [w1]
  refine ⟨l3, _, rfl, SqL.of (by rw [← e3]; exact h3), _, rfl, ite2 (fun c => ?_) (fun c => ?_)⟩
  · obtain ⟨b, hb, hb2⟩ := List.any_eq_true.mp c
    obtain ⟨wd, hm, rfl⟩ := List.mem_map.mp hb
    exact ⟨(by show 1 ≤ sizeLine; decide), qd ws hws ⟨wd, hm, of_decide_eq_true hb2⟩ _ ((n1.trans s2).trans s3)⟩
  · refine ⟨_, rfl, q ws hws (fun wd hm => ?_) D us H3 ?_ ((n1.trans s2).trans s3) (s3 _ _ hD2) (hW2.mono s3.tup)⟩
    · apply Nat.le_of_not_lt
      intro z
      exact c (List.any_eq_true.mpr ⟨_, List.mem_map.mpr ⟨wd, hm, rfl⟩, decide_eq_true z⟩)
    cases e : H D with
    | none => rfl
    | some o => rw [n1 _ _ e] at hDn; cases hDn
theorem ok_whole (F : Fun K "_law_whole" "_law_whole" sLWhole f fd) (n_isinstance : mg "isinstance" = none) (n_int : mg "int" = none) (n_bool : mg "bool" = none) (k_ib : PySem.W.kitOne K (.type "int") (.type "bool") = some false) : FnOk P w K mg base CX0 1 f fd ["x"] spWhole := by
  have S : FnScope ["x"] ["x"] (defScope sLWhole) := ⟨rfl, rfl, rfl, by decide +kernel, rfl, by decide +kernel, by decide +kernel⟩
  refine F.ok S (fun vs H Q E h => ?_) (fun cdv A outer s H vs Q E hr h => ?_)
  · obtain ⟨i, rfl, _⟩ := h
    rfl
  obtain ⟨i, rfl, q⟩ := h
  refine ⟨_, (pss_one (ps_ret (pe_and (pe_callB (call_isinst (K := K) rfl) rfl n_isinstance PyProof.Rows.boot_isinstance (pa_cons (pv 0) (pa_cons (pe_bltn (v := .ty "int") rfl n_int PyProof.Rows.boot_int rfl) pa_nil))) (pe_one (pe_not (pe_callB (call_isinst (K := K) rfl) rfl n_isinstance PyProof.Rows.boot_isinstance (pa_cons (pv 0) (pa_cons (pe_bltn (v := .ty "bool") rfl n_bool PyProof.Rows.boot_bool rfl) pa_nil)))))))), ?_⟩
  refine ⟨_, rfl, _, _, _, true, rfl, TyOf.int i, rfl, _, rfl, iteT ⟨_, rfl, _, _, _, false, rfl, TyOf.int i, k_ib, _, rfl, q⟩⟩
theorem step_isword {n : Nat} (F : Fun K "_law_is_word" "_law_is_word" sLIsWord f fd) (d_law_is_word : Callee P w K mg base "_law_is_word" (n + 2) ["found"] (spIsWord n)) (d_law_whole : Callee P w K mg base "_law_whole" 1 ["x"] spWhole) (n_all : mg "all" = none) (n_len : mg "len" = none) (n_isinstance : mg "isinstance" = none) (n_tuple : mg "tuple" = none) :
    FnOk P w K mg base CX0 (n + 3) f fd ["found"] (spIsWord (n + 1)) := by
  have S : FnScope ["found"] ["found"] (defScope sLIsWord) := ⟨rfl, rfl, rfl, by decide +kernel, rfl, by decide +kernel, by decide +kernel⟩
  refine F.ok S (fun vs H Q E h => ?_) (fun cdv A outer s H vs Q E hr h => ?_)
  · obtain ⟨v, wd, rfl, _⟩ := h
    rfl
  obtain ⟨v, wd, rfl, hW, hd, q⟩ := h
  refine ⟨_, (pss_cons (ps_if (PW.pt (pw_or (pt_not (pt_val (pe_callB (call_isinst (K := K) rfl) rfl n_isinstance PyProof.Rows.boot_isinstance (pa_cons (pv 0) (pa_cons (pe_bltn (v := .ty "tuple") rfl n_tuple PyProof.Rows.boot_tuple rfl) pa_nil))))) (pw_or1 (pt_cmpR op_eq (pe_callB (call_len_seqK (K := K) rfl) rfl n_len PySem.boot_len (pa_cons (pv 0) pa_nil)) pe_int (nomark _))))) (pss_one (ps_ret pe_bl)) pss_nil)
    (pss_cons (ps_if (PW.pt (pw_or (pt_cmpR op_eq (pe_ix (ix_tupK (K := K) rfl) (pv 0) pe_int (fun _ _ => rfl)) pe_str (nomark _)) (pw_or1 (pt_cmpR op_eq (pe_ix (ix_tupK (K := K) rfl) (pv 0) pe_int (fun _ _ => rfl)) pe_str (nomark _))))) (pss_one (ps_ret (pe_and (pe_cmpR op_eq (pe_callB (call_len_seqK (K := K) rfl) rfl n_len PySem.boot_len (pa_cons (pv 0) pa_nil)) pe_int (nomark _)) (pe_one (pe_callD d_law_whole hr (by omega) rfl (pa_cons (pe_ix (ix_tupK (K := K) rfl) (pv 0) pe_int (fun _ _ => rfl)) pa_nil)))))) pss_nil)
    (pss_one (ps_ret (pe_callB (call_allB (K := K) rfl rfl) rfl n_all PyProof.Rows.boot_all (pa_cons (pe_comp (ys := []) (ix := []) (.of S {}) rfl (pi_tup (pe_slice (sl_tupK (K := K) rfl) (pv 0) (po_some pe_int) po_none)) (fun _ _ _ _ => pts_nil) (fun cl s3 H3 fp => (pe_callD d_law_is_word hr (by omega) rfl (pa_cons (pv 0) pa_nil)))) pa_nil)))))), ?_⟩
  obtain ⟨p, kd, xs, rfl, hp, hl, hk⟩ := word_head hW
  refine ⟨_, rfl, _, _, _, true, rfl, TyOf.tup hp, rfl, _, rfl, iteFh rfl ?_⟩
  refine ⟨_, rfl, p, _, rfl, .inr (SqT.of hp), rfl, _, rfl, iteFh (decide_eq_false fun z => by
    have z' := V.int.inj z
    simp at z'
    omega) ?_⟩
  rcases hk with ⟨k, rfl, rfl, rfl⟩ | ⟨k, rfl, rfl, rfl⟩ | ⟨k1, k2, hws, k3, k4, k5⟩
  · refine ⟨_, rfl, p, _, _, _, rfl, rfl, SqT.of hp, at0 _ _, rfl, _, rfl, iteTh (by decide +kernel) (iteT ?_)⟩
    refine ⟨_, rfl, p, _, rfl, .inr (SqT.of hp), rfl, _, rfl, iteTh (decide_eq_true rfl) ?_⟩
    exact ⟨_, rfl, p, _, _, _, rfl, rfl, SqT.of hp, at1 _ _ _, k, rfl, q _ (Same.refl _)⟩
  · refine ⟨_, rfl, p, _, _, _, rfl, rfl, SqT.of hp, at0 _ _, rfl, _, rfl, iteFh (by decide +kernel) ⟨_, rfl, p, _, _, _, rfl, rfl, SqT.of hp, at0 _ _, rfl, _, rfl, iteTh (by decide +kernel) ?_⟩⟩
    refine ⟨_, rfl, p, _, rfl, .inr (SqT.of hp), rfl, _, rfl, iteTh (decide_eq_true rfl) ?_⟩
    exact ⟨_, rfl, p, _, _, _, rfl, rfl, SqT.of hp, at1 _ _ _, k, rfl, q _ (Same.refl _)⟩
  · refine ⟨_, rfl, p, _, _, _, rfl, rfl, SqT.of hp, at0 _ _, rfl, _, rfl, iteFh (decide_eq_false k1) ⟨_, rfl, p, _, _, _, rfl, rfl, SqT.of hp, at0 _ _, rfl, _, rfl, iteFh (decide_eq_false k2) ?_⟩⟩
    refine ⟨_, rfl, _, rfl, p, _, rfl, SqT.of hp, cut_part _ _, fun p2 hp2 => ?_⟩
    rw [cut_tail]
    have n2 := Same.new hp2 (.tup xs)
    refine ⟨p2, rfl, ⟨xs, SqT.of upd_same⟩, ?_⟩
    have hws2 := hws.mono n2.tup
    refine body_tup (SqT.of upd_same) (sz (by omega)) (fun i y H => y = .bl true) (fun _ _ _ _ _ h => h) (fun i x H2 R' hx s2 hR => ?_) (fun D us H2 hD s2 hl2 hlen hG => ?_)
    · obtain ⟨wx, e1, e2⟩ := hws2.2 i x hx
      have := parts_depth (List.mem_of_getElem? e1)
      exact ⟨_, rfl, x, wx, rfl, e2.mono s2.tup, by omega, fun H3 s3 => hR _ _ s3 rfl⟩
    · have eu : us = (List.replicate xs.length true).map V.bl := list_ext (by simp [hlen]) fun i y hy => by
        have hi : i < xs.length := by have := (List.getElem?_eq_some_iff.mp hy).1; omega
        rw [hG i y hy]
        simp [hi]
      refine ⟨D, _, rfl, SqL.of (by rw [← eu]; exact hl2), ?_⟩
      have e : (List.replicate xs.length true).all id = true := by simp
      rw [e]
      exact q _ (n2.trans s2)
theorem ok_isword (F : Fun K "_law_is_word" "_law_is_word" sLIsWord f fd) (b : Binds K fd ["found"] []) (m : mg "_law_is_word" = some (.ref f)) (d_law_whole : Callee P w K mg base "_law_whole" 1 ["x"] spWhole) (n_all : mg "all" = none) (n_len : mg "len" = none) (n_isinstance : mg "isinstance" = none) (n_tuple : mg "tuple" = none) :
    ∀ n : Nat, FnOk P w K mg base CX0 (n + 2) f fd ["found"] (spIsWord n)
  | 0 => no_calls fun vs H Q E h => by
    obtain ⟨_, wd, _, _, hd, _⟩ := h
    have := depth_pos wd
    omega
  | n + 1 => step_isword F ⟨f, fd, ok_isword F b m d_law_whole n_all n_len n_isinstance n_tuple n, b, F.kp, m⟩ d_law_whole n_all n_len n_isinstance n_tuple
theorem ok_refused (F : Fun K "_law_refused" "_law_refused" sLRefused f fd) (n_range : mg "range" = none) : FnOk P w K mg base CX0 1 f fd ["marks", "which"] spRefused := by
  have S : FnScope ["marks", "which"] ["marks", "which"] (defScope sLRefused) := ⟨rfl, rfl, rfl, by decide +kernel, rfl, by decide +kernel, by decide +kernel⟩
  refine F.ok S (fun vs H Q E h => ?_) (fun cdv A outer s H vs Q E hr h => ?_)
  · obtain ⟨m, k, rfl, _⟩ := h
    rfl
  obtain ⟨m, k, rfl, hm, q⟩ := h
  refine ⟨_, (pss_one (ps_ret (pe_cmpR (op_eqD (K := K) rfl hr.units) (pv 0) (pe_op op_cat (pe_comp (ys := ["which"]) (ix := [1]) (.of S {}) rfl (pi_range1 rfl n_range (pa_cons pe_int pa_nil)) (fun _ _ _ _ => pts_nil) (fun cl s3 H3 fp => (pe_cmpR op_eq (pv 0) (pv 1) (nomark _)))) (pe_lst (pa_cons pe_bl pa_nil))) (nomark _)))), ?_⟩
  refine ⟨_, rfl, 6, rfl, by decide, by decide, ?_⟩
  refine body_rng (by exact sz (by decide)) (fun i y H => y = .bl (decide (i = k))) (fun _ _ _ _ _ h => h) (fun i H2 R hi s2 hR => ?_) (fun D us H2 hD s2 hl hlen hG => ?_)
  · refine ⟨_, rfl, _, rfl, rfl, hR _ _ (Same.refl _) ?_⟩
    refine congrArg V.bl (decide_eq_decide.mpr ⟨fun z => by injection z with z; omega, fun z => by subst z; rw [Int.zero_add]⟩)
  · have eu : us = ((List.range 6).map fun i => decide (i = k)).map V.bl := list_ext (by simpa using hlen) fun i y hy => by
      have hi : i < 6 := by have := (List.getElem?_eq_some_iff.mp hy).1; rw [hlen] at this; exact this
      rw [hG i y hy]
      simp [hi]
    refine ⟨(by show 1 ≤ sizeLine; decide), fun p hp => ?_⟩
    have n3 := Same.new hp (.lst [.bl true])
    refine ⟨D, p, us, [.bl true], rfl, rfl, n3 _ _ hl, upd_same, ?_, fun p4 hp4 => ?_⟩
    · rw [hlen]; exact sz (by decide)
    have n4 := Same.new hp4 (.lst (us ++ [.bl true]))
    have e4 : us ++ [V.bl true] = (marksOf k).map V.bl := by rw [eu]; simp [marksOf]
    refine ⟨.list ((marksOf k).map PyData.bool), .list ((marksOf k).map PyData.bool), .list (SqL.of (n4 _ _ (n3 _ _ (s2 _ _ hm)))) (DsAt.map (fun b => .bool b) _), .list (SqL.of (by rw [upd_same, e4])) (DsAt.map (fun b => .bool b) _), ?_, ?_, ?_, ?_⟩
    · rw [lay_lst]; exact lay_bools _
    · rw [lay_lst]; exact lay_bools _
    · left
      have h1 := depth_bools (marksOf k)
      simp only [PyData.depth]
      omega
    · have e : PyData.eqv (.list ((marksOf k).map PyData.bool)) (.list ((marksOf k).map PyData.bool)) = true := SeqAt.eqv_refl _ (by rw [lay_lst]; exact lay_bools _)
      rw [e]
      exact q _ (s2.trans (n3.trans n4))
theorem ok_toldr {c0 c1 c2 c3 c4 c5 cr : Addr} (F : Fun K "_law_told" "_law_told" sLTold f fd) (d_read : CalleeX P w K mg base "read" 12 ["text"] (spRead K c1 c5)) (n_isinstance : mg "isinstance" = none) (n_ValueError : mg "ValueError" = none)
    (x_TooMany : ExcC K mg "TooMany" c0) (x_Deep : ExcC K mg "Deep" c1) (x_NoContact : ExcC K mg "NoContact" c2) (x_NoRelay : ExcC K mg "NoRelay" c3) (x_Still : ExcC K mg "Still" c4) (x_NoNote : ExcC K mg "NoNote" c5) (x_RoomError : ExcC K mg "RoomError" cr)
    (km1 : MarkE K c1 c0 c1 c2 c3 c4 c5 cr 1) (km5 : MarkE K c5 c0 c1 c2 c3 c4 c5 cr 5) : FnOk P w K mg base CX0 13 f fd ["text"] (spToldR K) := by
  have S : FnScope ["text", "found", "marks", "e"] ["text"] (defScope sLTold) := ⟨rfl, rfl, rfl, by decide +kernel, rfl, by decide +kernel, by decide +kernel⟩
  refine F.ok S (fun vs H Q E h => ?_) (fun cdv A outer s H vs Q E hr h => ?_)
  · obtain ⟨z, rfl, _⟩ := h
    rfl
  obtain ⟨z, rfl, g, q⟩ := h
  refine ⟨_, (pss_cons (ps_set (i := 1) S.nd rfl (Or.inl rfl) pe_non)
    (pss_cons (ps_set (i := 2) S.nd rfl (Or.inl rfl) (pe_lst pa_nil))
    (pss_cons (ps_tryCall (i := 1) (j := 3) d_read hr (by omega) rfl rfl rfl rfl S.nd rfl (Or.inl rfl) (by first | exact .inl rfl | exact .inr rfl) rfl (pa_cons (pv 0) pa_nil) rfl rfl x_RoomError rfl (fun _ => (pss_cons (ps_set (i := 2) S.nd rfl (Or.inl rfl) (pe_lst (pa_cons (pe_callB (call_isexc (K := K) rfl) rfl n_isinstance PyProof.Rows.boot_isinstance (pa_cons (pv 3) (pa_cons (pe_glob (v := .ref _) rfl x_TooMany.nm rfl) pa_nil))) (pa_cons (pe_callB (call_isexc (K := K) rfl) rfl n_isinstance PyProof.Rows.boot_isinstance (pa_cons (pv 3) (pa_cons (pe_glob (v := .ref _) rfl x_Deep.nm rfl) pa_nil))) (pa_cons (pe_callB (call_isexc (K := K) rfl) rfl n_isinstance PyProof.Rows.boot_isinstance (pa_cons (pv 3) (pa_cons (pe_glob (v := .ref _) rfl x_NoContact.nm rfl) pa_nil))) (pa_cons (pe_callB (call_isexc (K := K) rfl) rfl n_isinstance PyProof.Rows.boot_isinstance (pa_cons (pv 3) (pa_cons (pe_glob (v := .ref _) rfl x_NoRelay.nm rfl) pa_nil))) pa_nil))))))
    (pss_one (ps_set (i := 2) S.nd rfl (Or.inl rfl) (pe_op op_cat (pv 2) (pe_lst (pa_cons (pe_callB (call_isexc (K := K) rfl) rfl n_isinstance PyProof.Rows.boot_isinstance (pa_cons (pv 3) (pa_cons (pe_glob (v := .ref _) rfl x_Still.nm rfl) pa_nil))) (pa_cons (pe_callB (call_isexc (K := K) rfl) rfl n_isinstance PyProof.Rows.boot_isinstance (pa_cons (pv 3) (pa_cons (pe_glob (v := .ref _) rfl x_NoNote.nm rfl) pa_nil))) (pa_cons (pe_callB (call_isexc (K := K) rfl) rfl n_isinstance PyProof.Rows.boot_isinstance (pa_cons (pv 3) (pa_cons (pe_bltn (v := .ty "ValueError") rfl n_ValueError RR.boot_VE rfl) pa_nil))) pa_nil))))))))))
    (pss_one (ps_ret (pe_tup (pa_cons (pv 1) (pa_cons (pv 2) pa_nil)))))))), ?_⟩
  refine ⟨(by show 0 ≤ sizeLine; decide), fun l0 hl0 => ?_⟩
  have n0 := Same.new hl0 (.lst [])
  refine ⟨_, rfl, z, rfl, g.len, fun p hp => ⟨(g.cut hp).asc, (g.cut hp).len⟩, fun ws hws hd D us H1 hDn s1 hD hW => ?_, fun ws hws hex H1 s1 => ?_, fun hex H1 s1 => ?_⟩
  · have ho : outOf (cuts z) = .inr ws := by
      unfold outOf
      rw [show allW (cuts z) = some ws from map_allW hws]
      refine if_neg fun c => ?_
      obtain ⟨wd, hm, hc⟩ := List.any_eq_true.mp c
      have := of_decide_eq_true hc
      have := hd wd hm
      omega
    refine ⟨_, rfl, _, rfl, (by show 2 ≤ sizeLine; decide), fun p hp => ?_⟩
    have n2 := Same.new hp (.tup [.ref D, .ref l0])
    refine q p _ l0 [] _ (n0.trans (s1.trans n2)) upd_same (n2 _ _ (s1 _ _ upd_same)) ?_
    rw [ho]
    exact ⟨rfl, hd, D, us, rfl, n2 _ _ hD, hW.mono n2.tup⟩
  · have ho : outOf (cuts z) = .inl 1 := by
      unfold outOf
      rw [show allW (cuts z) = some ws from map_allW hws]
      refine if_pos ?_
      obtain ⟨wd, hm, hc⟩ := hex
      exact List.any_eq_true.mpr ⟨wd, hm, decide_eq_true hc⟩
    have M := km1
    refine ⟨_, rfl, M.ex, M.m, fun e he => ?_⟩
    have n2 := Same.new he (ExcO e c1)
    have hE : upd H1 e (ExcO e c1) e = some (ExcO e c1) := upd_same
    generalize upd H1 e (ExcO e c1) = H2 at n2 hE
    refine ⟨_, rfl, e, _, _, _, _, rfl, hE, M.get, rfl, M.j0, _, rfl, e, _, _, _, _, rfl, hE, M.get, rfl, M.j1, _, rfl, e, _, _, _, _, rfl, hE, M.get, rfl, M.j2, _, rfl, e, _, _, _, _, rfl, hE, M.get, rfl, M.j3, (by show 4 ≤ sizeLine; decide), fun l3 hl3 => ?_⟩
    have n3 := Same.new hl3 (.lst [.bl (decide (0 = 1)), .bl (decide (1 = 1)), .bl (decide (2 = 1)), .bl (decide (3 = 1))])
    have hE3 := n3 _ _ hE
    refine ⟨_, rfl, _, rfl, e, _, _, _, _, rfl, hE3, M.get, rfl, M.j4, _, rfl, e, _, _, _, _, rfl, hE3, M.get, rfl, M.j5, _, rfl, e, _, _, _, _, rfl, hE3, M.get, rfl, M.jv, (by show 3 ≤ sizeLine; decide), fun l4 hl4 => ?_⟩
    have n4 := Same.new hl4 (.lst [.bl (decide (4 = 1)), .bl (decide (5 = 1)), .bl true])
    refine ⟨l3, l4, _, _, rfl, rfl, n4 _ _ upd_same, upd_same, (by show 7 ≤ sizeLine; decide), fun l5 hl5 => ?_⟩
    have n5 := Same.new hl5 (.lst ((marksOf 1).map V.bl))
    refine ⟨_, rfl, _, rfl, (by show 2 ≤ sizeLine; decide), fun p hp => ?_⟩
    have n6 := Same.new hp (.tup [.non, .ref l5])
    refine q p _ l5 (marksOf 1) _ (n0.trans (s1.trans (n2.trans (n3.trans (n4.trans (n5.trans n6)))))) upd_same (n6 _ _ upd_same) ?_
    rw [ho]
  · have ho : outOf (cuts z) = .inl 5 := by
      unfold outOf
      obtain ⟨p, hm, hc⟩ := hex
      rw [show allW (cuts z) = none from allW_none hm hc]
    have M := km5
    refine ⟨_, rfl, M.ex, M.m, fun e he => ?_⟩
    have n2 := Same.new he (ExcO e c5)
    have hE : upd H1 e (ExcO e c5) e = some (ExcO e c5) := upd_same
    generalize upd H1 e (ExcO e c5) = H2 at n2 hE
    refine ⟨_, rfl, e, _, _, _, _, rfl, hE, M.get, rfl, M.j0, _, rfl, e, _, _, _, _, rfl, hE, M.get, rfl, M.j1, _, rfl, e, _, _, _, _, rfl, hE, M.get, rfl, M.j2, _, rfl, e, _, _, _, _, rfl, hE, M.get, rfl, M.j3, (by show 4 ≤ sizeLine; decide), fun l3 hl3 => ?_⟩
    have n3 := Same.new hl3 (.lst [.bl (decide (0 = 5)), .bl (decide (1 = 5)), .bl (decide (2 = 5)), .bl (decide (3 = 5))])
    have hE3 := n3 _ _ hE
    refine ⟨_, rfl, _, rfl, e, _, _, _, _, rfl, hE3, M.get, rfl, M.j4, _, rfl, e, _, _, _, _, rfl, hE3, M.get, rfl, M.j5, _, rfl, e, _, _, _, _, rfl, hE3, M.get, rfl, M.jv, (by show 3 ≤ sizeLine; decide), fun l4 hl4 => ?_⟩
    have n4 := Same.new hl4 (.lst [.bl (decide (4 = 5)), .bl (decide (5 = 5)), .bl true])
    refine ⟨l3, l4, _, _, rfl, rfl, n4 _ _ upd_same, upd_same, (by show 7 ≤ sizeLine; decide), fun l5 hl5 => ?_⟩
    have n5 := Same.new hl5 (.lst ((marksOf 5).map V.bl))
    refine ⟨_, rfl, _, rfl, (by show 2 ≤ sizeLine; decide), fun p hp => ?_⟩
    have n6 := Same.new hp (.tup [.non, .ref l5])
    refine q p _ l5 (marksOf 5) _ (n0.trans (s1.trans (n2.trans (n3.trans (n4.trans (n5.trans n6)))))) upd_same (n6 _ _ upd_same) ?_
    rw [ho]
theorem odd_shape : ∃ (p1 p2 p3 p4 p5 p6 p7 p8 p9 p10 p11 p12 p13 p14 : Pos) (j : Nat) (es1 es2 : List Expr), defBody sLOdd = [.Assign [.Name "some" p1] (.List es1 p2) p3, .Assign [.Name "some" p4] (.BinOp (.Name "some" p5) .Add (.List es2 p6) p7) p8, .Return (some (.Subscript (.Name "some" p9) (.BinOp (.Name "cell" p10) .Mod (.Constant (.int 20) j p11) p12) p13)) p14] ∧ StrsAre es1 (odds.take 13) ∧ StrsAre es2 (odds.drop 13) :=
  ⟨_, _, _, _, _, _, _, _, _, _, _, _, _, _, _, _, _, rfl, (.cons (.cons (.cons (.cons (.cons (.cons (.cons (.cons (.cons (.cons (.cons (.cons (.cons .nil))))))))))))), (.cons (.cons (.cons (.cons (.cons (.cons (.cons .nil)))))))⟩
theorem ok_odd (F : Fun K "_law_odd" "_law_odd" sLOdd f fd) : FnOk P w K mg base CX0 1 f fd ["cell"] spOdd := by
  have S : FnScope ["cell", "some"] ["cell"] (defScope sLOdd) := ⟨rfl, rfl, rfl, by decide +kernel, rfl, by decide +kernel, by decide +kernel⟩
  refine F.ok S (fun vs H Q E h => ?_) (fun cdv A outer s H vs Q E hr h => ?_)
  · obtain ⟨c, rfl, _⟩ := h
    rfl
  obtain ⟨c, rfl, q⟩ := h
  obtain ⟨p1, p2, p3, p4, p5, p6, p7, p8, p9, p10, p11, p12, p13, p14, j0, es1, es2, eb, hs1, hs2⟩ := odd_shape
  rw [eb]
  refine ⟨_, pss_cons (ps_set (i := 1) S.nd rfl (Or.inl rfl) (pe_lst (pa_strs hs1))) (pss_cons (ps_set (i := 1) S.nd rfl (Or.inl rfl) (pe_op op_cat (pv 1) (pe_lst (pa_strs hs2)))) (pss_one (ps_ret (pe_ix (ix_listK (K := K) rfl) (pv 1) (pe_op op_mod (pv 0) pe_int) (fun _ _ => rfl))))), ?_⟩
  have hz : ∀ k, k ≤ 20 → k ≤ sizeLine := fun k hk => sz (by omega)
  refine ⟨hz _ (by decide), fun l1 h1 => ?_⟩
  refine ⟨_, rfl, hz _ (by decide), fun l2 h2 => ?_⟩
  have n1 := Same.new h1 (.lst ((odds.take 13).map V.str))
  have n2 := Same.new h2 (.lst ((odds.drop 13).map V.str))
  refine ⟨l1, l2, (odds.take 13).map V.str, (odds.drop 13).map V.str, rfl, rfl, n2 _ _ upd_same, upd_same, hz _ (by decide), fun l3 h3 => ?_⟩
  have e0 := Int.emod_nonneg c (show (20 : Int) ≠ 0 by decide)
  have e1 := Int.emod_lt_of_pos c (show (0 : Int) < 20 by decide)
  have n3 := Same.new h3 (.lst ((odds.take 13).map V.str ++ (odds.drop 13).map V.str))
  obtain ⟨j, ej⟩ : ∃ j : Nat, c % 20 = (j : Int) := ⟨(c % 20).toNat, by omega⟩
  have hj : j < odds.length := by show j < 20; omega
  have hg : odds[j]? = some odds[j] := List.getElem?_eq_getElem hj
  have hG : GT odds[j] := okT_gt (List.all_eq_true.mp odds_ok _ (List.getElem_mem hj))
  generalize odds[j] = y at hg hG
  refine ⟨_, rfl, _, rfl, _, _, rfl, rfl, (by dsimp only; decide), l3, (odds.take 13).map V.str ++ (odds.drop 13).map V.str, _, .str y, rfl, rfl, SqL.of upd_same, ?_, q y _ ((n1.trans n2).trans n3) hG⟩
  rw [← List.map_append, List.take_append_drop, ej]
  exact atI_nat (by rw [List.getElem?_map, hg]; rfl)
theorem ok_duer (F : Fun K "_law_due" "_law_due" sLDue f fd) (d_law_at : Callee P w K mg base "_law_at" 101 ["text", "at"] (spAt 100)) (n_len : mg "len" = none) (n_max : mg "max" = none) : FnOk P w K mg base CX0 102 f fd ["text"] (spDueR K) := by
  have S : FnScope ["text", "words", "deep", "part", "got"] ["text"] (defScope sLDue) := ⟨rfl, rfl, rfl, by decide +kernel, rfl, by decide +kernel, by decide +kernel⟩
  refine F.ok S (fun vs H Q E h => ?_) (fun cdv A outer s H vs Q E hr h => ?_)
  · obtain ⟨z, rfl, _⟩ := h
    rfl
  obtain ⟨z, rfl, g, q⟩ := h
  refine ⟨_, (pss_cons (ps_set (i := 1) S.nd rfl (Or.inl rfl) (pe_lst pa_nil))
    (pss_cons (ps_set (i := 2) S.nd rfl (Or.inl rfl) pe_int)
    (pss_cons (ps_for PassesOwn.never rfl (pi_list (pe_bm PySem.F.plainAttrs_str PySem.F.slot_str_split PySem.F.type_str_split mt_split (pv 0) (pa_cons pe_str pa_nil))) (pg_name (i := 3) S.nd rfl (Or.inl rfl)) (pss_cons (ps_set (i := 4) S.nd rfl (Or.inl rfl) (pe_callD d_law_at hr (by omega) rfl (pa_cons (pv 3) (pa_cons pe_int pa_nil))))
    (pss_cons (ps_if (PW.pt (pw_or (pt_cmp (pc_isN (pv 4))) (pw_or1 (pt_cmpR op_ne (pe_ix (ix_tupK (K := K) rfl) (pv 4) pe_int (fun _ _ => rfl)) (pe_callB call_len_str rfl n_len PySem.boot_len (pa_cons (pv 3) pa_nil)) (nomark _))))) (pss_one (ps_ret pe_int)) pss_nil)
    (pss_cons (ps_expr (pe_bm PySem.F.plainAttrs_list PySem.F.slot_list_append PySem.F.type_list_append mt_append (pv 1) (pa_cons (pe_ix (ix_tupK (K := K) rfl) (pv 4) pe_int (fun _ _ => rfl)) pa_nil)))
    (pss_one (ps_set (i := 2) S.nd rfl (Or.inl rfl) (pe_callB (call_max2 rfl) rfl n_max PyProof.Rows.boot_max (pa_cons (pv 2) (pa_cons (pe_ix (ix_tupK (K := K) rfl) (pv 4) pe_int (fun _ _ => rfl)) pa_nil)))))))))
    (pss_cons (ps_if (pt_cmpR op_gt (pv 2) pe_int (nomark _)) (pss_one (ps_ret pe_int)) pss_nil)
    (pss_one (ps_ret (pv 1))))))), ?_⟩
  have hcut := PyProof.Rows.split_le z ⟨#[59]⟩
  have hzl := g.len
  refine ⟨(by show 0 ≤ sizeLine; decide), fun D hDn => ?_⟩
  have n0 := Same.new hDn (.lst [])
  have hD0 : upd H D (.lst []) D = some (.lst []) := upd_same
  generalize upd H D (.lst []) = H0 at n0 hD0
  refine ⟨_, rfl, rfl, z, ⟨#[59]⟩, rfl, rfl, rfl, by omega, fun l hl => ?_⟩
  have hcg : ∀ p ∈ cuts z, GT p := fun p hp => g.cut hp
  have hcut' : (cuts z).length ≤ z.length + 2 := hcut
  unfold cuts at hcg hcut' q
  generalize Txt.split z ⟨#[59]⟩ = ps at *
  have nl := Same.new hl (.lst (ps.map V.str))
  have hl1 : upd H0 l (.lst (ps.map V.str)) l = some (.lst (ps.map V.str)) := upd_same
  have hlD : l ≠ D := fun e => by rw [e, hD0] at hl; cases hl
  have hD1 := nl _ _ hD0
  generalize upd H0 l (.lst (ps.map V.str)) = H1 at nl hl1 hD1
  have k01 : ∀ {H' : Hp}, Keep D H1 H' → Same H H' := fun k b o e => by
    have hb : b ≠ D := fun e2 => by rw [e2, hDn] at e; cases e
    exact k b o hb (nl _ _ (n0 _ _ e))
  refine ⟨l, rfl, ⟨_, SqL.of hl1⟩, ?_⟩
  refine for_list (xs := ps.map V.str) (fun i σ H' => ∃ ws us dp o1 o2, σ = [some (.str z), some (.ref D), some (.int dp), o1, o2] ∧ Keep D H1 H' ∧ H' D = some (.lst us) ∧ WsAt H' ws us ∧ allW (ps.take i) = some ws ∧ ws.length = i ∧ (8 < dp ↔ ws.any (fun w => decide (8 < w.depth)) = true))
    ⟨[], [], 0, none, none, rfl, Keep.refl _ _, hD1, ws_nil, rfl, rfl, by simp⟩ ?_ ?_ ?_
  · rintro i σ H' _ ⟨ws, us, dp, o1, o2, rfl, k, _⟩
    exact SqL.of (k _ _ hlD hl1)
  · rintro i x σ H2 hx ⟨ws, us, dp, o1, o2, rfl, k, hD2, hW2, ha, hwl, hdp⟩
    obtain ⟨p, hp, rfl⟩ : ∃ p, ps[i]? = some p ∧ x = .str p := by
      rw [List.getElem?_map] at hx
      cases e : ps[i]? with
      | none => rw [e] at hx; cases hx
      | some m => rw [e] at hx; cases hx; exact ⟨m, rfl, rfl⟩
    have hm := List.mem_of_getElem? hp
    have gp := hcg p hm
    have hop := gp.op
    have hpl := gp.len
    have hps : p.length ≤ sizeLine := by rw [sizeLine_eq]; omega
    have hil : i < ps.length := (List.getElem?_eq_some_iff.mp hp).1
    have rs := read_same (z := p) (n := 100) (by omega)
    have bad : readW p = none → ∀ H', Same H H' → Q (.int 5) H' := fun hn => by
      have : outOf ps = .inl 5 := by
        unfold outOf
        rw [allW_none hm hn]
      rw [this] at q
      exact q
    refine ⟨_, rfl, p, 0, rfl, gp.asc, gp.len, Nat.zero_le _, by rw [List.drop_zero]; omega, fun h1 H3 s3 => ?_, fun a r h1 t v H3 s3 ht hw => ?_⟩
    · rw [List.drop_zero] at h1
      rw [h1] at rs
      exact ⟨_, rfl, _, rfl, iteTh (decide_eq_true rfl) (iteT (bad rs H3 ((k01 k).trans s3)))⟩
    · rw [List.drop_zero] at h1
      rw [h1] at rs
      refine ⟨_, rfl, _, rfl, iteFh (decide_eq_false (fun z => by cases z)) ?_⟩
      have hrl : r.length ≤ p.length := by
        have := congrArg List.length (pA_sig _ _ _ _ h1).1
        rw [Array.length_toList, List.length_append] at this
        have e : p.cps.size = p.length := rfl
        omega
      refine ⟨_, rfl, t, _, _, _, rfl, rfl, SqT.of ht, at1 _ _ _, _, rfl, p, rfl, hps, rfl, _, rfl, ?_⟩
      cases r with
      | cons x r' =>
        have hr' : (x :: r').length = r'.length + 1 := rfl
        refine iteTh (congrArg not (decide_eq_false fun e => ?_)) (bad rs H3 ((k01 k).trans s3))
        have := V.int.inj e
        omega
      | nil =>
      refine iteFh (congrArg not (decide_eq_true rfl)) ?_
      have hD3 := s3 _ _ hD2
      have hW3 := hW2.mono s3.tup
      refine ⟨_, rfl, .inl ⟨rfl, _, SqL.of hD3⟩, _, rfl, t, _, _, _, rfl, rfl, SqT.of ht, at0 _ _, D, _, _, rfl, rfl, hD3, small1000 (by have := hW2.1; omega), ?_⟩
      have tD : TupLe H3 (upd H3 D (.lst (us ++ [v]))) := tup_upd fun xs e => by rw [hD3] at e; cases e
      have htD : t ≠ D := fun e => by rw [e, hD3] at ht; cases ht
      have ht4 : upd H3 D (.lst (us ++ [v])) t = some (.tup [v, .int ((p.length - ([] : List Nat).length : Nat) : Int), .int (a.depth : Nat)]) := by rw [upd_ne htD]; exact ht
      refine ⟨_, rfl, _, rfl, t, _, _, _, rfl, rfl, SqT.of ht4, at2 _ _ _ _, _, _, rfl, ?_⟩
      refine ⟨ws ++ [a], us ++ [v], _, _, _, rfl, (k.trans (Keep.same s3)).upd _, upd_same, ⟨by simp [hW2.1], fun j y hy => ?_⟩, ?_, by simp [hwl], ?_⟩
      · by_cases hj : j < us.length
        · rw [List.getElem?_append_left hj] at hy
          obtain ⟨wd, e1, e2⟩ := hW3.2 j y hy
          exact ⟨wd, by rw [List.getElem?_append_left (by have := hW2.1; omega)]; exact e1, e2.mono tD⟩
        · have hjl : j < (us ++ [v]).length := (List.getElem?_eq_some_iff.mp hy).1
          have ej : j = us.length := by simp at hjl; omega
          subst ej
          simp at hy
          subst hy
          exact ⟨a, by rw [hW2.1]; simp, hw.mono tD⟩
      · rw [List.take_succ_eq_append_getElem hil]
        have : ps[i] = p := (List.getElem?_eq_some_iff.mp hp).2
        rw [this]
        exact allW_snoc ha rs
      · rw [List.any_append, Bool.or_eq_true, ← hdp]
        simp only [List.any_cons, List.any_nil, Bool.or_false, decide_eq_true_eq]
        split <;> omega
  · rintro σ H2 ⟨ws, us, dp, o1, o2, rfl, k, hD2, hW2, ha, hwl, hdp⟩
    rw [List.length_map, List.take_length] at ha
    have ho : outOf ps = if ws.any (fun w => decide (8 < w.depth)) = true then .inl 1 else .inr ws := by
      unfold outOf
      rw [ha]
    refine ⟨_, rfl, _, _, rfl, rfl, _, rfl, ite2 (fun c => ?_) (fun c => ?_)⟩
    · rw [ho, if_pos (hdp.mp (of_decide_eq_true c))] at q
      exact q H2 (k01 k)
    · rw [ho, if_neg (fun e => c (decide_eq_true (hdp.mpr e)))] at q
      exact ⟨_, rfl, q D us H2 (k01 k) hD2 hW2⟩
end
end RR

end
section
set_option Elab.async false
set_option maxHeartbeats 4000000
set_option linter.all false
set_option maxRecDepth 100000
namespace RR
open PySem L2
section
variable {P : Program} {w : World} {K : PySem.W.Frag} {mg : Str → Option Value} {base : Heap} {f : Addr} {fd : FuncData}
theorem step_at {n : Nat} (F : Fun K "_law_at" "_law_at" sLAt f fd) (d_law_at : Callee P w K mg base "_law_at" (n + 1) ["text", "at"] (spAt n)) (n_int : mg "int" = none) (n_len : mg "len" = none) (n_max : mg "max" = none) : FnOk P w K mg base CX0 (n + 2) f fd ["text", "at"] (spAt (n + 1)) := by
  have S : FnScope ["text", "at", "sign", "got", "one", "other", "name"] ["text", "at"] (defScope sLAt) := ⟨rfl, rfl, rfl, by decide +kernel, rfl, by decide +kernel, by decide +kernel⟩
  refine F.ok S (fun vs H Q E h => ?_) (fun cdv A outer s H vs Q E hr h => ?_)
  · obtain ⟨z, i, rfl, _⟩ := h
    rfl
  obtain ⟨z, i, rfl, hz, hzl, hi, ho, qn, q⟩ := h
  refine ⟨_, (pss_cons (ps_set (i := 2) S.nd rfl (Or.inl rfl) (pe_sliceS (pv 0) (po_some (pv 1)) (po_some (pe_op op_add (pv 1) pe_int))))
    (pss_cons (ps_if (PW.pt (pw_or (pt_cmpR op_eq (pv 2) pe_str (nomark _)) (pw_or1 (pt_cmpR op_eq (pv 2) pe_str (nomark _))))) (pss_one (ps_ret (pe_tup (pa_cons (pe_ix (ix_listK (K := K) rfl) (pe_lst (pa_cons (pe_tup (pa_cons pe_str pa_nil)) (pa_cons (pe_tup (pa_cons pe_str pa_nil)) pa_nil))) (pe_callTy call_int1 rfl n_int PyProof.Rows.boot_int (pa_cons (pe_cmpR op_eq (pv 2) pe_str (nomark _)) pa_nil)) (fun _ _ => rfl)) (pa_cons (pe_op op_add (pv 1) pe_int) (pa_cons pe_int pa_nil)))))) pss_nil)
    (pss_cons (ps_if (PW.pt (pw_or (pt_cmpR op_eq (pv 2) pe_str (nomark _)) (pw_or1 (pt_cmpR op_eq (pv 2) pe_str (nomark _))))) (pss_cons (ps_if (PW.pt (pw_or (pt_cmpR op_ge (pe_op op_add (pv 1) pe_int) (pe_callB call_len_str rfl n_len PySem.boot_len (pa_cons (pv 0) pa_nil)) (nomark _)) (pw_or1 (pt_cmpR op_notIn_str (pe_ix ix_str (pv 0) (pe_op op_add (pv 1) pe_int) (fun _ _ => rfl)) pe_str rfl)))) (pss_one (ps_ret pe_non)) pss_nil)
    (pss_one (ps_ret (pe_tup (pa_cons (pe_tup (pa_cons (pe_ix (ix_listK (K := K) rfl) (pe_lst (pa_cons pe_str (pa_cons pe_str pa_nil))) (pe_callTy call_int1 rfl n_int PyProof.Rows.boot_int (pa_cons (pe_cmpR op_eq (pv 2) pe_str (nomark _)) pa_nil)) (fun _ _ => rfl)) (pa_cons (pe_bm PySem.F.plainAttrs_str PySem.F.slot_str_find PySem.F.type_str_find mt_find pe_str (pa_cons (pe_ix ix_str (pv 0) (pe_op op_add (pv 1) pe_int) (fun _ _ => rfl)) pa_nil)) pa_nil))) (pa_cons (pe_op op_add (pv 1) pe_int) (pa_cons pe_int pa_nil))))))) pss_nil)
    (pss_cons (ps_if (pt_cmpR op_eq (pv 2) pe_str (nomark _)) (pss_cons (ps_set (i := 3) S.nd rfl (Or.inl rfl) (pe_callD d_law_at hr (by omega) rfl (pa_cons (pv 0) (pa_cons (pe_op op_add (pv 1) pe_int) pa_nil))))
    (pss_cons (ps_if (pt_cmp (pc_isN (pv 3))) (pss_one (ps_ret pe_non)) pss_nil)
    (pss_one (ps_ret (pe_tup (pa_cons (pe_tup (pa_cons pe_str (pa_cons (pe_ix (ix_tupK (K := K) rfl) (pv 3) pe_int (fun _ _ => rfl)) pa_nil))) (pa_cons (pe_ix (ix_tupK (K := K) rfl) (pv 3) pe_int (fun _ _ => rfl)) (pa_cons (pe_op op_add (pe_ix (ix_tupK (K := K) rfl) (pv 3) pe_int (fun _ _ => rfl)) pe_int) pa_nil)))))))) pss_nil)
    (pss_cons (ps_if (pt_cmpR op_ne (pv 2) pe_str (nomark _)) (pss_one (ps_ret pe_non)) pss_nil)
    (pss_cons (ps_set (i := 4) S.nd rfl (Or.inl rfl) (pe_callD d_law_at hr (by omega) rfl (pa_cons (pv 0) (pa_cons (pe_op op_add (pv 1) pe_int) pa_nil))))
    (pss_cons (ps_if (PW.pt (pw_or (pt_cmp (pc_isN (pv 4))) (pw_or1 (pt_cmpR (op_notInTD (K := K) rfl hr.units) (pe_sliceS (pv 0) (po_some (pe_ix (ix_tupK (K := K) rfl) (pv 4) pe_int (fun _ _ => rfl))) (po_some (pe_op op_add (pe_ix (ix_tupK (K := K) rfl) (pv 4) pe_int (fun _ _ => rfl)) pe_int))) (pe_tup (pa_cons pe_str (pa_cons pe_str pa_nil))) rfl)))) (pss_one (ps_ret pe_non)) pss_nil)
    (pss_cons (ps_set (i := 5) S.nd rfl (Or.inl rfl) (pe_callD d_law_at hr (by omega) rfl (pa_cons (pv 0) (pa_cons (pe_op op_add (pe_ix (ix_tupK (K := K) rfl) (pv 4) pe_int (fun _ _ => rfl)) pe_int) pa_nil))))
    (pss_cons (ps_if (PW.pt (pw_or (pt_cmp (pc_isN (pv 5))) (pw_or1 (pt_cmpR op_ne (pe_sliceS (pv 0) (po_some (pe_ix (ix_tupK (K := K) rfl) (pv 5) pe_int (fun _ _ => rfl))) (po_some (pe_op op_add (pe_ix (ix_tupK (K := K) rfl) (pv 5) pe_int (fun _ _ => rfl)) pe_int))) pe_str (nomark _))))) (pss_one (ps_ret pe_non)) pss_nil)
    (pss_cons (ps_set (i := 6) S.nd rfl (Or.inl rfl) (pe_ix (ix_listK (K := K) rfl) (pe_lst (pa_cons pe_str (pa_cons pe_str pa_nil))) (pe_callTy call_int1 rfl n_int PyProof.Rows.boot_int (pa_cons (pe_cmpR op_eq (pe_ix ix_str (pv 0) (pe_ix (ix_tupK (K := K) rfl) (pv 4) pe_int (fun _ _ => rfl)) (fun _ _ => rfl)) pe_str (nomark _)) pa_nil)) (fun _ _ => rfl)))
    (pss_one (ps_ret (pe_tup (pa_cons (pe_tup (pa_cons (pv 6) (pa_cons (pe_ix (ix_tupK (K := K) rfl) (pv 4) pe_int (fun _ _ => rfl)) (pa_cons (pe_ix (ix_tupK (K := K) rfl) (pv 5) pe_int (fun _ _ => rfl)) pa_nil)))) (pa_cons (pe_op op_add (pe_ix (ix_tupK (K := K) rfl) (pv 5) pe_int (fun _ _ => rfl)) pe_int) (pa_cons (pe_op op_add pe_int (pe_callB (call_max2 rfl) rfl n_max PyProof.Rows.boot_max (pa_cons (pe_ix (ix_tupK (K := K) rfl) (pv 4) pe_int (fun _ _ => rfl)) (pa_cons (pe_ix (ix_tupK (K := K) rfl) (pv 5) pe_int (fun _ _ => rfl)) pa_nil)))) pa_nil)))))))))))))))), ?_⟩
  have hlen : z.cps.toList.length = z.length := by rw [Array.length_toList]; rfl
  have hzs : z.length ≤ sizeLine := by rw [sizeLine_eq]; omega
  refine ⟨_, rfl, _, rfl, _, rfl, _, rfl, _, _, rfl, rfl, _, rfl, z, rfl, hzs, ?_⟩
  rw [slice_one hi]
  have hall : ∀ c ∈ z.cps.toList.drop i, c < 128 := fun c hc => by
    have := Array.all_eq_true_iff_forall_mem.mp hz c (by simpa using List.mem_of_mem_drop hc)
    simpa using this
  have fin : ∀ (wd : Wd) (r' : List Nat) (e d : Int) (v : V) (H' : Hp) (t : Addr), pA (n + 1) (z.cps.toList.drop i) = some (wd, r') → Same H H' → H' t = none → WAt H' wd v → e = ((z.length - r'.length : Nat) : Int) → d = (wd.depth : Nat) → Q (.ref t) (upd H' t (.tup [v, .int e, .int d])) := fun wd r' e d v H' t h1 h2 h3 h4 h5 h6 => by
    subst h5 h6
    exact q wd r' h1 t v _ (h2.trans (Same.new h3 _)) upd_same (WAt.mono (Same.new h3 _).tup h4)
  have hdl : (z.cps.toList.drop i).length = z.length - i := by rw [List.length_drop, hlen]
  have next : ∀ c r, z.cps.toList.drop i = c :: r → z.cps.toList.drop (i + 1) = r := fun c r e => by
    rw [← List.drop_drop, e]
    rfl
  generalize el : z.cps.toList.drop i = l at *
  have no : ∀ k, l.head? ≠ some k → decide (V.str (sgn l) = V.str ⟨#[k]⟩) = false := fun k h => by rw [sgn_is]; exact decide_eq_false h
  cases l with
  | nil =>
    have no' : ∀ k, decide (V.str (sgn []) = V.str ⟨#[k]⟩) = false := fun k => no k (by simp)
    refine ⟨_, rfl, rfl, _, rfl, iteFh (no' 49) ⟨_, rfl, rfl, _, rfl, iteFh (no' 48) ?_⟩⟩
    refine ⟨_, rfl, rfl, _, rfl, iteFh (no' 114) ⟨_, rfl, rfl, _, rfl, iteFh (no' 98) ?_⟩⟩
    refine ⟨_, rfl, rfl, _, rfl, iteFh (no' 33) ?_⟩
    exact ⟨_, rfl, rfl, _, rfl, iteTh (congrArg not (no' 40)) (qn rfl H (Same.refl _))⟩
  | cons c r =>
  have yes : ∀ k, c = k → decide (V.str (sgn (c :: r)) = V.str ⟨#[k]⟩) = true := fun k h => by rw [sgn_is]; exact decide_eq_true (by rw [h]; rfl)
  have no : ∀ k, c ≠ k → decide (V.str (sgn (c :: r)) = V.str ⟨#[k]⟩) = false := fun k h => no k (by simpa using h)
  have hnx := next c r rfl
  have hil : i + (r.length + 1) = z.length := by simp at hdl; omega
  have hc := hall c (by simp)
  have hp1 : pA (n + 1) (c :: r) = if c = 49 then some (.on, r) else if c = 48 then some (.off, r) else if c = 114 then pD .relay r else if c = 98 then pD .button r
    else if c = 33 then pN (pA n) r else if c = 40 then pJ (pA n) r else none := rfl
  by_cases c49 : c = 49
  · subst c49
    refine ⟨_, rfl, rfl, _, rfl, iteTh (yes 49 rfl) (iteT ?_)⟩
    refine ⟨(by show 1 ≤ sizeLine; decide), fun p1 hq1 => ⟨(by show 1 ≤ sizeLine; decide), fun p2 hq2 => ⟨(by show 2 ≤ sizeLine; decide), fun p3 hq3 => ?_⟩⟩⟩
    have n1 := Same.new hq1 (.tup [.str "off"])
    have n2 := Same.new hq2 (.tup [.str "on"])
    have n3 := Same.new hq3 (.lst [.ref p1, .ref p2])
    refine ⟨_, rfl, rfl, .inr ⟨_, rfl, p3, _, _, _, rfl, rfl, SqL.of upd_same, pick_t (yes 49 rfl), _, rfl, _, _, rfl, rfl, (by show 3 ≤ sizeLine; decide), fun t ht => ?_⟩⟩
    exact fin .on r _ _ _ _ t rfl ((n1.trans n2).trans n3) ht ⟨p2, rfl, n3 _ _ upd_same⟩ (by omega) rfl
  by_cases c48 : c = 48
  · subst c48
    refine ⟨_, rfl, rfl, _, rfl, iteFh (no 49 c49) ⟨_, rfl, rfl, _, rfl, iteTh (yes 48 rfl) ?_⟩⟩
    refine ⟨(by show 1 ≤ sizeLine; decide), fun p1 hq1 => ⟨(by show 1 ≤ sizeLine; decide), fun p2 hq2 => ⟨(by show 2 ≤ sizeLine; decide), fun p3 hq3 => ?_⟩⟩⟩
    have n1 := Same.new hq1 (.tup [.str "off"])
    have n2 := Same.new hq2 (.tup [.str "on"])
    have n3 := Same.new hq3 (.lst [.ref p1, .ref p2])
    refine ⟨_, rfl, rfl, .inr ⟨_, rfl, p3, _, _, _, rfl, rfl, SqL.of upd_same, pick_f (no 49 c49), _, rfl, _, _, rfl, rfl, (by show 3 ≤ sizeLine; decide), fun t ht => ?_⟩⟩
    exact fin .off r _ _ _ _ t rfl ((n1.trans n2).trans n3) ht ⟨p1, rfl, n3 _ _ (n2 _ _ upd_same)⟩ (by omega) rfl
  rw [if_neg c49, if_neg c48] at hp1
  refine ⟨_, rfl, rfl, _, rfl, iteFh (no 49 c49) ⟨_, rfl, rfl, _, rfl, iteFh (no 48 c48) ?_⟩⟩
  by_cases c114 : c = 114
  · refine ⟨_, rfl, rfl, _, rfl, iteTh (yes 114 c114) (iteT ?_)⟩
    subst c114
    cases r with
    | nil =>
      refine ⟨_, rfl, _, _, rfl, rfl, _, rfl, z, rfl, hzs, _, _, rfl, rfl, _, rfl, iteTh (decide_eq_true (by simp at hil; omega)) (iteT (qn rfl H (Same.refl _)))⟩
    | cons d r2 =>
    have hd128 := hall d (by simp)
    have hat : atI z.cps.toList ((i : Int) + 1) = some d := by
      have h1 : z.cps.toList[i + 1]? = some d := by
        have h2 : (z.cps.toList.drop (i + 1))[0]? = some d := by rw [hnx]; rfl
        rw [List.getElem?_drop] at h2
        exact h2
      exact atI_nat (j := i + 1) h1
    refine ⟨_, rfl, _, _, rfl, rfl, _, rfl, z, rfl, hzs, _, _, rfl, rfl, _, rfl, iteFh (decide_eq_false (by simp at hil; omega)) ?_⟩
    refine ⟨_, rfl, _, rfl, _, _, rfl, rfl, z, _, d, rfl, rfl, hzs, hat, _, _, rfl, rfl, ?_⟩
    have hpd : pA (n + 1) (114 :: d :: r2) = if 48 ≤ d ∧ d ≤ 57 then some (.relay ((d - 48 : Nat) : Int), r2) else none := rfl
    by_cases hdd : 48 ≤ d ∧ d ≤ 57
    · rw [if_pos hdd] at hpd
      refine ⟨_, rfl, iteFh (by rw [fig_in d hd128, decide_eq_true hdd]; rfl) ?_⟩
      refine ⟨(by show 2 ≤ sizeLine; decide), fun p3 hq3 => ?_⟩
      have n3 := Same.new hq3 (.lst [.str "relay", .str "button"])
      refine ⟨_, rfl, rfl, .inr ⟨_, rfl, p3, _, _, _, rfl, rfl, SqL.of upd_same, pick_f (no 98 (by decide)), rfl, _, rfl, _, rfl, _, _, rfl, rfl, z, _, d, rfl, rfl, hzs, hat, _, _, d - 48, [], rfl, rfl, fig_at d (by omega) hdd.1, ?_⟩⟩
      refine ⟨(by show 2 ≤ sizeLine; decide), fun p4 hq4 => ?_⟩
      have n4 := Same.new hq4 (.tup [.str "relay", .int ((d - 48 : Nat) : Int)])
      refine ⟨_, rfl, _, _, rfl, rfl, (by show 3 ≤ sizeLine; decide), fun t ht => ?_⟩
      exact fin _ r2 _ _ _ _ t hpd (n3.trans n4) ht ⟨p4, rfl, upd_same⟩ (by simp at hil; omega) rfl
    · rw [if_neg hdd] at hpd
      exact ⟨_, rfl, iteTh (by rw [fig_in d hd128, decide_eq_false hdd]; rfl) (qn hpd H (Same.refl _))⟩
  rw [if_neg c114] at hp1
  refine ⟨_, rfl, rfl, _, rfl, iteFh (no 114 c114) ?_⟩
  by_cases c98 : c = 98
  · refine ⟨_, rfl, rfl, _, rfl, iteTh (yes 98 c98) ?_⟩
    subst c98
    cases r with
    | nil =>
      refine ⟨_, rfl, _, _, rfl, rfl, _, rfl, z, rfl, hzs, _, _, rfl, rfl, _, rfl, iteTh (decide_eq_true (by simp at hil; omega)) (iteT (qn rfl H (Same.refl _)))⟩
    | cons d r2 =>
    have hd128 := hall d (by simp)
    have hat : atI z.cps.toList ((i : Int) + 1) = some d := by
      have h1 : z.cps.toList[i + 1]? = some d := by
        have h2 : (z.cps.toList.drop (i + 1))[0]? = some d := by rw [hnx]; rfl
        rw [List.getElem?_drop] at h2
        exact h2
      exact atI_nat (j := i + 1) h1
    refine ⟨_, rfl, _, _, rfl, rfl, _, rfl, z, rfl, hzs, _, _, rfl, rfl, _, rfl, iteFh (decide_eq_false (by simp at hil; omega)) ?_⟩
    refine ⟨_, rfl, _, rfl, _, _, rfl, rfl, z, _, d, rfl, rfl, hzs, hat, _, _, rfl, rfl, ?_⟩
    have hpd : pA (n + 1) (98 :: d :: r2) = if 48 ≤ d ∧ d ≤ 57 then some (.button ((d - 48 : Nat) : Int), r2) else none := rfl
    by_cases hdd : 48 ≤ d ∧ d ≤ 57
    · rw [if_pos hdd] at hpd
      refine ⟨_, rfl, iteFh (by rw [fig_in d hd128, decide_eq_true hdd]; rfl) ?_⟩
      refine ⟨(by show 2 ≤ sizeLine; decide), fun p3 hq3 => ?_⟩
      have n3 := Same.new hq3 (.lst [.str "relay", .str "button"])
      refine ⟨_, rfl, rfl, .inr ⟨_, rfl, p3, _, _, _, rfl, rfl, SqL.of upd_same, pick_t (yes 98 rfl), rfl, _, rfl, _, rfl, _, _, rfl, rfl, z, _, d, rfl, rfl, hzs, hat, _, _, d - 48, [], rfl, rfl, fig_at d (by omega) hdd.1, ?_⟩⟩
      refine ⟨(by show 2 ≤ sizeLine; decide), fun p4 hq4 => ?_⟩
      have n4 := Same.new hq4 (.tup [.str "button", .int ((d - 48 : Nat) : Int)])
      refine ⟨_, rfl, _, _, rfl, rfl, (by show 3 ≤ sizeLine; decide), fun t ht => ?_⟩
      exact fin _ r2 _ _ _ _ t hpd (n3.trans n4) ht ⟨p4, rfl, upd_same⟩ (by simp at hil; omega) rfl
    · rw [if_neg hdd] at hpd
      exact ⟨_, rfl, iteTh (by rw [fig_in d hd128, decide_eq_false hdd]; rfl) (qn hpd H (Same.refl _))⟩
  rw [if_neg c98] at hp1
  refine ⟨_, rfl, rfl, _, rfl, iteFh (no 98 c98) ?_⟩
  have hrl : r.length + 1 ≤ z.length := by omega
  by_cases c33 : c = 33
  · rw [if_pos c33] at hp1
    have hor : opn r < n := by
      rw [opn_cons, if_pos (.inl c33)] at ho
      omega
    refine ⟨_, rfl, rfl, _, rfl, iteTh (yes 33 c33) ?_⟩
    refine ⟨_, rfl, _, rfl, _, _, rfl, rfl, z, i + 1, rfl, hz, hzl, by omega, by rw [hnx]; exact hor, fun h1 H1 s1 => ?_, fun a r1 h1 t1 v1 H1 s1 ht1 hw1 => ?_⟩
    · rw [hnx] at h1
      refine ⟨_, rfl, _, rfl, iteTh (decide_eq_true rfl) (qn ?_ H1 s1)⟩
      rw [hp1, pN, h1]
    · rw [hnx] at h1
      have hpd : pA (n + 1) (c :: r) = some (.nt a, r1) := by rw [hp1, pN, h1]
      refine ⟨_, rfl, _, rfl, iteFh (decide_eq_false (fun z => by cases z)) ?_⟩
      refine ⟨_, rfl, t1, _, _, _, rfl, rfl, SqT.of ht1, at0 _ _, (by show 2 ≤ sizeLine; decide), fun p4 hq4 => ?_⟩
      have n4 := Same.new hq4 (.tup [.str "not", v1])
      refine ⟨_, rfl, t1, _, _, _, rfl, rfl, SqT.of (n4 _ _ ht1), at1 _ _ _, _, rfl, t1, _, _, _, rfl, rfl, SqT.of (n4 _ _ ht1), at2 _ _ _ _, _, _, rfl, rfl, (by show 3 ≤ sizeLine; decide), fun t ht => ?_⟩
      exact fin _ r1 _ _ _ _ t hpd (s1.trans n4) ht ⟨p4, v1, rfl, upd_same, WAt.mono n4.tup hw1⟩ rfl (by show ((a.depth : Nat) : Int) + 1 = ((a.depth + 1 : Nat) : Int); omega)
  rw [if_neg c33] at hp1
  refine ⟨_, rfl, rfl, _, rfl, iteFh (no 33 c33) ?_⟩
  by_cases c40 : c = 40
  case neg =>
    rw [if_neg c40] at hp1
    exact ⟨_, rfl, rfl, _, rfl, iteTh (congrArg not (no 40 c40)) (qn hp1 H (Same.refl _))⟩
  rw [if_pos c40] at hp1
  have hor : opn r < n := by
    rw [opn_cons, if_pos (.inr c40)] at ho
    omega
  refine ⟨_, rfl, rfl, _, rfl, iteFh (congrArg not (yes 40 c40)) ?_⟩
  refine ⟨_, rfl, _, rfl, _, _, rfl, rfl, z, i + 1, rfl, hz, hzl, by omega, by rw [hnx]; exact hor, fun h1 H1 s1 => ?_, fun a r1 h1 t1 v1 H1 s1 ht1 hw1 => ?_⟩
  · rw [hnx] at h1
    refine ⟨_, rfl, _, rfl, iteTh (decide_eq_true rfl) (iteT (qn ?_ H1 s1))⟩
    rw [hp1, pJ, h1]
  rw [hnx] at h1
  refine ⟨_, rfl, _, rfl, iteFh (decide_eq_false (fun z => by cases z)) ?_⟩
  have hsig1 := (pA_sig _ _ _ _ h1).1
  obtain ⟨dr1, lr1⟩ := drop_end (l := z.cps.toList) (i := i + 1) (s := sig a) (r := r1) (by rw [hnx]; exact hsig1)
  rw [hlen] at dr1 lr1
  have mem1 : ∀ x ∈ r1, x < 128 := fun x hx => hall x (List.mem_cons_of_mem _ (by rw [hsig1]; exact List.mem_append_right _ hx))
  refine ⟨_, rfl, _, rfl, t1, _, _, _, rfl, rfl, SqT.of ht1, at1 _ _ _, _, rfl, _, rfl, t1, _, _, _, rfl, rfl, SqT.of ht1, at1 _ _ _, _, _, rfl, rfl, _, rfl, z, rfl, hzs, ?_⟩
  rw [slice_one (i := z.length - r1.length) (by omega), dr1]
  refine ⟨(by show 2 ≤ sizeLine; decide), fun ca hca => ?_⟩
  have n2 := Same.new hca (.tup [.str "&", .str "|"])
  have b1 : ∀ d, PyData.eqv (PyData.str "&") d = PyData.eqv (.str ⟨#[38]⟩) d := fun _ => rfl
  have b2 : ∀ d, PyData.eqv (PyData.str "|") d = PyData.eqv (.str ⟨#[124]⟩) d := fun _ => rfl
  refine ⟨.str (sgn r1), [.str "&", .str "|"], .str _, .tuple (SqT.of upd_same) (.cons (.str _) (.cons (.str _) .nil)), sgn_lay mem1, ?_, ?_, _, rfl, ite2 (fun c2 => ?_) (fun c2 => ?_)⟩
  · rw [lay_cons, lay_cons, lay_nil]
    have e1 : (PyData.str "&").canLay0 = true := lay_sign (c := 38) (by decide)
    have e2 : (PyData.str "|").canLay0 = true := lay_sign (c := 124) (by decide)
    rw [e1, e2]
    rfl
  · decide
  · simp only [List.any_cons, List.any_nil, b1, b2, sgn_eqv] at c2
    refine qn ?_ _ (s1.trans n2)
    rw [hp1, pJ, h1]
    cases r1 with
    | nil => rfl
    | cons j r2 =>
      simp at c2
      show (if j = 38 ∨ j = 124 then _ else _) = _
      rw [if_neg (by omega)]
  simp only [List.any_cons, List.any_nil, b1, b2, sgn_eqv] at c2
  obtain ⟨j, r2, rfl, hj⟩ : ∃ j r2, r1 = j :: r2 ∧ (j = 38 ∨ j = 124) := by
    cases r1 with
    | nil => exact absurd rfl c2
    | cons j r2 =>
      simp at c2
      exact ⟨j, r2, rfl, by omega⟩
  have ht1 := n2 _ _ ht1
  have hw1 := WAt.mono n2.tup hw1
  have s2 := s1.trans n2
  generalize upd H1 ca (.tup [.str "&", .str "|"]) = H2 at ht1 hw1 s2
  have hl2 : (j :: r2).length = r2.length + 1 := rfl
  have dr2 : z.cps.toList.drop (z.length - (j :: r2).length + 1) = r2 := by
    rw [← List.drop_drop, dr1]
    rfl
  have ho2 : opn r2 < n := by
    have : opn r = opn (sig a) + opn (j :: r2) := by rw [hsig1, opn_app]
    rw [opn_cons] at this
    omega
  have hp2 : pA (n + 1) (c :: r) = pB (pA n) a j r2 := by
    rw [hp1, pJ, h1]
    exact if_pos hj
  refine ⟨_, rfl, _, rfl, t1, _, _, _, rfl, rfl, SqT.of ht1, at1 _ _ _, _, _, rfl, rfl, z, z.length - (j :: r2).length + 1, rfl, hz, hzl, by omega, by rw [dr2]; exact ho2, fun h3 H3 s3 => ?_, fun b r3 h3 t3 v3 H3 s3 ht3 hw3 => ?_⟩
  · rw [dr2] at h3
    refine ⟨_, rfl, _, rfl, iteTh (decide_eq_true rfl) (iteT (qn ?_ H3 (s2.trans s3)))⟩
    rw [hp2, pB, h3]
  rw [dr2] at h3
  have hsig3 := (pA_sig _ _ _ _ h3).1
  obtain ⟨dr3, lr3⟩ := drop_end (l := z.cps.toList) (i := z.length - (j :: r2).length + 1) (s := sig b) (r := r3) (by rw [dr2]; exact hsig3)
  rw [hlen] at dr3 lr3
  refine ⟨_, rfl, _, rfl, iteFh (decide_eq_false (fun z => by cases z)) ?_⟩
  refine ⟨_, rfl, _, rfl, t3, _, _, _, rfl, rfl, SqT.of ht3, at1 _ _ _, _, rfl, _, rfl, t3, _, _, _, rfl, rfl, SqT.of ht3, at1 _ _ _, _, _, rfl, rfl, _, rfl, z, rfl, hzs, ?_⟩
  rw [slice_one (i := z.length - r3.length) (by omega), dr3]
  have hcl : decide (V.str (sgn r3) = V.str ⟨#[41]⟩) = decide (r3.head? = some 41) := sgn_is r3 41
  by_cases h41 : r3.head? = some 41
  case neg =>
    refine ⟨rfl, _, rfl, iteTh (congrArg not (hcl.trans (decide_eq_false h41))) (qn ?_ H3 (s2.trans s3))⟩
    rw [hp2, pB, h3]
    cases r3 with
    | nil => rfl
    | cons x r4 =>
      have hx : x ≠ 41 := by simpa using h41
      show (match some (b, x :: r4) with | some (b, 41 :: r4) => some (joined j a b, r4) | _ => none) = none
      split
      · next e => cases e; exact absurd rfl hx
      · rfl
  refine ⟨rfl, _, rfl, iteFh (congrArg not (hcl.trans (decide_eq_true h41))) ?_⟩
  obtain ⟨r4, rfl⟩ : ∃ r4, r3 = 41 :: r4 := by
    cases r3 with
    | nil => cases h41
    | cons x r4 => exact ⟨r4, by rw [show x = 41 by simpa using h41]⟩
  have hp3 : pA (n + 1) (c :: r) = some (joined j a b, r4) := by rw [hp2, pB, h3]; rfl
  have hatj : atI z.cps.toList (((z.length - (j :: r2).length : Nat) : Int)) = some j := by
    have h2 : (z.cps.toList.drop (z.length - (j :: r2).length))[0]? = some j := by rw [dr1]; rfl
    rw [List.getElem?_drop] at h2
    exact atI_nat h2
  have hl4 : (41 :: r4).length = r4.length + 1 := rfl
  have ht13 := s3 _ _ ht1
  refine ⟨(by show 2 ≤ sizeLine; decide), fun p5 hq5 => ?_⟩
  have n5 := Same.new hq5 (.lst [.str "or", .str "and"])
  have ht15 := n5 _ _ ht13
  have ht35 := n5 _ _ ht3
  have hw15 := WAt.mono (s3.trans n5).tup hw1
  have hw35 := WAt.mono n5.tup hw3
  have s5 := (s2.trans s3).trans n5
  have tail : ∀ (nm : Str), (∀ (H6 : Hp) (y : Addr), H6 y = some (.tup [.str nm, v1, v3]) → WAt H6 a v1 → WAt H6 b v3 → WAt H6 (joined j a b) (.ref y)) → ∀ (H5 : Hp), Same H H5 → H5 t1 = some (.tup [v1, .int ((z.length - (j :: r2).length : Nat) : Int), .int (a.depth : Nat)]) → H5 t3 = some (.tup [v3, .int ((z.length - (41 :: r4).length : Nat) : Int), .int (b.depth : Nat)]) → WAt H5 a v1 → WAt H5 b v3 →
      ∀ p6, H5 p6 = none → ∀ t, upd H5 p6 (.tup [.str nm, v1, v3]) t = none → Q (.ref t) (upd (upd H5 p6 (.tup [.str nm, v1, v3])) t (.tup [.ref p6, .int (((z.length - (41 :: r4).length : Nat) : Int) + 1), .int (1 + (if ((b.depth : Nat) : Int) > ((a.depth : Nat) : Int) then ((b.depth : Nat) : Int) else ((a.depth : Nat) : Int)))])) := fun nm hnm H5 z1 z2 z3 z4 z5 p6 hp6 t ht => by
    have n6 := Same.new hp6 (.tup [.str nm, v1, v3])
    refine fin _ r4 _ _ _ _ t hp3 (z1.trans n6) ht (hnm _ p6 upd_same (WAt.mono n6.tup z4) (WAt.mono n6.tup z5)) (by omega) ?_
    have : (joined j a b).depth = max a.depth b.depth + 1 := by
      unfold joined
      split <;> rfl
    rw [this]
    split <;> omega
  rcases hj with rfl | rfl
  · refine ⟨_, rfl, _, rfl, t1, _, _, _, rfl, rfl, SqT.of ht15, at1 _ _ _, z, _, 38, rfl, rfl, hzs, hatj, rfl, .inr ⟨_, rfl, p5, _, _, _, rfl, rfl, SqL.of upd_same, pick_t (by decide +kernel), ?_⟩⟩
    refine ⟨_, rfl, _, rfl, t1, _, _, _, rfl, rfl, SqT.of ht15, at0 _ _, _, rfl, t3, _, _, _, rfl, rfl, SqT.of ht35, at0 _ _, (by show 3 ≤ sizeLine; decide), fun p6 hq6 => ?_⟩
    have n6 := Same.new hq6 (.tup [.str "and", v1, v3])
    refine ⟨_, rfl, t3, _, _, _, rfl, rfl, SqT.of (n6 _ _ ht35), at1 _ _ _, _, _, rfl, rfl, _, rfl, t1, _, _, _, rfl, rfl, SqT.of (n6 _ _ ht15), at2 _ _ _ _, _, rfl, t3, _, _, _, rfl, rfl, SqT.of (n6 _ _ ht35), at2 _ _ _ _, _, _, rfl, _, _, rfl, rfl, (by show 3 ≤ sizeLine; decide), fun t ht => ?_⟩
    exact tail "and" (fun H6 y hy x1 x2 => ⟨y, v1, v3, rfl, hy, x1, x2⟩) _ s5 ht15 ht35 hw15 hw35 p6 hq6 t ht
  · refine ⟨_, rfl, _, rfl, t1, _, _, _, rfl, rfl, SqT.of ht15, at1 _ _ _, z, _, 124, rfl, rfl, hzs, hatj, rfl, .inr ⟨_, rfl, p5, _, _, _, rfl, rfl, SqL.of upd_same, pick_f (by decide +kernel), ?_⟩⟩
    refine ⟨_, rfl, _, rfl, t1, _, _, _, rfl, rfl, SqT.of ht15, at0 _ _, _, rfl, t3, _, _, _, rfl, rfl, SqT.of ht35, at0 _ _, (by show 3 ≤ sizeLine; decide), fun p6 hq6 => ?_⟩
    have n6 := Same.new hq6 (.tup [.str "or", v1, v3])
    refine ⟨_, rfl, t3, _, _, _, rfl, rfl, SqT.of (n6 _ _ ht35), at1 _ _ _, _, _, rfl, rfl, _, rfl, t1, _, _, _, rfl, rfl, SqT.of (n6 _ _ ht15), at2 _ _ _ _, _, rfl, t3, _, _, _, rfl, rfl, SqT.of (n6 _ _ ht35), at2 _ _ _ _, _, _, rfl, _, _, rfl, rfl, (by show 3 ≤ sizeLine; decide), fun t ht => ?_⟩
    exact tail "or" (fun H6 y hy x1 x2 => ⟨y, v1, v3, rfl, hy, x1, x2⟩) _ s5 ht15 ht35 hw15 hw35 p6 hq6 t ht
theorem ok_at (F : Fun K "_law_at" "_law_at" sLAt f fd) (b : Binds K fd ["text", "at"] []) (m : mg "_law_at" = some (.ref f)) (n_int : mg "int" = none) (n_len : mg "len" = none) (n_max : mg "max" = none) : ∀ n : Nat, FnOk P w K mg base CX0 (n + 1) f fd ["text", "at"] (spAt n)
  | 0 => no_calls fun vs H Q E h => by
    obtain ⟨_, _, _, _, _, _, ho, _⟩ := h
    exact absurd ho (Nat.not_lt_zero _)
  | n + 1 => step_at F ⟨f, fd, ok_at F b m n_int n_len n_max n, b, F.kp, m⟩ n_int n_len n_max
end
end RR

end
section
set_option Elab.async false
set_option maxHeartbeats 4000000
set_option linter.all false
set_option maxRecDepth 100000
namespace RR
open PySem L2
section
variable {P : Program} {w : World} {K : PySem.W.Frag} {mg : Str → Option Value} {base : Heap} {f : Addr} {fd : FuncData}
def spLaw (K : PySem.W.Frag) : Sp := fun vs H Q _ => ∃ (a : Addr) (ns : List Int), vs = [.ref a] ∧ SqL K H a (ns.map V.int) ∧ ns.length ≤ 63 ∧ ∀ H', Q (.bl true) H'
theorem ok_law (F : Fun K "law" "law" sLaw f fd) (d_law_cell_at : Callee P w K mg base "_law_cell_at" 1 ["script", "k"] (spCell K)) (d_law_pick : Callee P w K mg base "_law_pick" 2 ["script", "k"] (spPick K)) (d_law_word : Callee P w K mg base "_law_word" 12 ["cell", "k", "deep", "relays", "buttons"] (spWord 10))
    (d_law_text : Callee P w K mg base "_law_text" 9 ["word"] (spTxt 8)) (d_law_odd : Callee P w K mg base "_law_odd" 1 ["cell"] spOdd) (d_law_due : Callee P w K mg base "_law_due" 102 ["text"] (spDueR K)) (d_law_told : Callee P w K mg base "_law_told" 13 ["text"] (spToldR K)) (d_law_refused : Callee P w K mg base "_law_refused" 1 ["marks", "which"] spRefused) (d_law_is_word : Callee P w K mg base "_law_is_word" 10 ["found"] (spIsWord 8))
    (n_range : mg "range" = none) (n_list : mg "list" = none) (n_len : mg "len" = none) (n_isinstance : mg "isinstance" = none) (n_all : mg "all" = none) (k_il : PySem.W.kitOne K (.type "int") (.type "list") = some false) : FnOk P w K mg base CX0 103 f fd ["script"] (spLaw K) := by
  have S : FnScope ["script", "cell", "words", "at", "text", "way", "put", "due", "told"] ["script"] (defScope sLaw) := ⟨rfl, rfl, rfl, by decide +kernel, rfl, by decide +kernel, by decide +kernel⟩
  refine F.ok S (fun vs H Q E h => ?_) (fun cdv A outer s H vs Q E hr h => ?_)
  · obtain ⟨a, ns, rfl, _⟩ := h
    rfl
  obtain ⟨a, ns, rfl, hS, _, q⟩ := h
  refine ⟨_, (pss_cons (ps_set (i := 1) S.nd rfl (Or.inl rfl) (pe_callD d_law_cell_at hr (by omega) rfl (pa_cons (pv 0) (pa_cons pe_int pa_nil))))
    (pss_cons (ps_setC (i := 2) (ys := ["script"]) (ix := [0]) (.of S {}) rfl S.nd rfl rfl (pi_range1 rfl n_range (pa_cons (pe_op op_add pe_int (pe_op op_mod (pv 1) pe_int)) pa_nil)) (fun _ _ _ _ => pts_nil) (fun cl s3 H3 fp => (pe_callD d_law_text hr (by omega) rfl (pa_cons (pe_callD d_law_word hr (by omega) rfl (pa_cons (pe_callD d_law_pick hr (by omega) rfl (pa_cons (pv 1) (pa_cons (pe_op op_add pe_int (pv 0)) pa_nil))) (pa_cons (pv 0) (pa_cons pe_int (pa_cons pe_int (pa_cons pe_int pa_nil)))))) pa_nil))))
    (pss_cons (ps_join (ps_if (pt_cmpR op_eq (pe_op op_mod (pe_op op_fdiv (pv 1) pe_int) pe_int) pe_int (nomark _)) (pss_cons (ps_set (i := 3) S.nd rfl (Or.inl rfl) (pe_op op_mod (pe_callD d_law_cell_at hr (by omega) rfl (pa_cons (pv 0) (pa_cons pe_int pa_nil))) (pe_callB (call_len_seqK (K := K) rfl) rfl n_len PySem.boot_len (pa_cons (pv 2) pa_nil))))
    (pss_one (ps_asg (pe_op op_add_str (pe_bm PySem.F.plainAttrs_str PySem.F.slot_str_join PySem.F.type_str_join (mt_join (K := K) rfl) pe_str (pa_cons (pe_comp (ys := []) (ix := []) (.of S {}) rfl (pi_range1 rfl n_range (pa_cons (pe_op op_add pe_int (pe_op op_mod (pe_op op_fdiv (pv 1) pe_int) pe_int)) pa_nil)) (fun _ _ _ _ => pts_nil) (fun cl s3 H3 fp => pe_str)) pa_nil)) (pe_ix (ix_listK (K := K) rfl) (pv 2) (pv 3) (fun _ _ => rfl))) (pg_sub (pv 2) (pv 3) set_list)))) pss_nil))
    (pss_cons (ps_set (i := 4) S.nd rfl (Or.inl rfl) (pe_bm PySem.F.plainAttrs_str PySem.F.slot_str_join PySem.F.type_str_join (mt_join (K := K) rfl) pe_str (pa_cons (pv 2) pa_nil)))
    (pss_cons (ps_set (i := 5) S.nd rfl (Or.inl rfl) (pe_op op_mod (pe_callD d_law_cell_at hr (by omega) rfl (pa_cons (pv 0) (pa_cons pe_int pa_nil))) pe_int))
    (pss_cons (ps_set (i := 3) S.nd rfl (Or.inl rfl) (pe_op op_mod (pe_callD d_law_cell_at hr (by omega) rfl (pa_cons (pv 0) (pa_cons pe_int pa_nil))) (pe_op op_add (pe_callB call_len_str rfl n_len PySem.boot_len (pa_cons (pv 4) pa_nil)) pe_int)))
    (pss_cons (ps_set (i := 6) S.nd rfl (Or.inl rfl) (pe_ix ix_str pe_str (pe_op op_mod (pe_callD d_law_cell_at hr (by omega) rfl (pa_cons (pv 0) (pa_cons pe_int pa_nil))) pe_int) (fun _ _ => rfl)))
    (pss_cons (ps_join (ps_if (pt_cmpR op_lt (pv 5) pe_int (nomark _)) (pss_one (ps_set (i := 4) S.nd rfl (Or.inl rfl) (pe_op op_add_str (pe_op op_add_str (pe_sliceS (pv 4) po_none (po_some (pv 3))) (pv 6)) (pe_sliceS (pv 4) (po_some (pv 3)) po_none)))) (pss_one (ps_if (pt_cmpR op_lt (pv 5) pe_int (nomark _)) (pss_one (ps_set (i := 4) S.nd rfl (Or.inl rfl) (pe_op op_add_str (pe_op op_add_str (pe_sliceS (pv 4) po_none (po_some (pv 3))) (pv 6)) (pe_sliceS (pv 4) (po_some (pe_op op_add (pv 3) pe_int)) po_none)))) (pss_one (ps_if (pt_cmpR op_lt (pv 5) pe_int (nomark _)) (pss_one (ps_set (i := 4) S.nd rfl (Or.inl rfl) (pe_op op_add_str (pe_sliceS (pv 4) po_none (po_some (pv 3))) (pe_sliceS (pv 4) (po_some (pe_op op_add (pv 3) pe_int)) po_none)))) (pss_one (ps_if (pt_cmpR op_eq (pv 5) pe_int (nomark _)) (pss_one (ps_set (i := 4) S.nd rfl (Or.inl rfl) (pe_callD d_law_odd hr (by omega) rfl (pa_cons (pe_callD d_law_cell_at hr (by omega) rfl (pa_cons (pv 0) (pa_cons pe_int pa_nil))) pa_nil)))) pss_nil))))))))
    (pss_cons (ps_set (i := 7) S.nd rfl (Or.inl rfl) (pe_callD d_law_due hr (by omega) rfl (pa_cons (pv 4) pa_nil)))
    (pss_cons (ps_set (i := 8) S.nd rfl (Or.inl rfl) (pe_callD d_law_told hr (by omega) rfl (pa_cons (pv 4) pa_nil)))
    (pss_cons (ps_if (pt_not (pt_val (pe_callB (call_isinst (K := K) rfl) rfl n_isinstance PyProof.Rows.boot_isinstance (pa_cons (pv 7) (pa_cons (pe_bltn (v := .ty "list") rfl n_list PyProof.Rows.boot_list rfl) pa_nil))))) (pss_one (ps_ret (pe_callD d_law_refused hr (by omega) rfl (pa_cons (pe_ix (ix_tupK (K := K) rfl) (pv 8) pe_int (fun _ _ => rfl)) (pa_cons (pv 7) pa_nil))))) pss_nil)
    (pss_cons (ps_if (PW.pt (pw_or (pt_cmpR (op_neD (K := K) rfl hr.units) (pe_ix (ix_tupK (K := K) rfl) (pv 8) pe_int (fun _ _ => rfl)) (pe_lst pa_nil) (nomark _)) (pw_or (pt_not (pt_val (pe_callB (call_isinst (K := K) rfl) rfl n_isinstance PyProof.Rows.boot_isinstance (pa_cons (pe_ix (ix_tupK (K := K) rfl) (pv 8) pe_int (fun _ _ => rfl)) (pa_cons (pe_bltn (v := .ty "list") rfl n_list PyProof.Rows.boot_list rfl) pa_nil))))) (pw_or1 (pt_cmpR (op_neD (K := K) rfl hr.units) (pe_ix (ix_tupK (K := K) rfl) (pv 8) pe_int (fun _ _ => rfl)) (pv 7) (nomark _)))))) (pss_one (ps_ret pe_bl)) pss_nil)
    (pss_one (ps_ret (pe_callB (call_allB (K := K) rfl rfl) rfl n_all PyProof.Rows.boot_all (pa_cons (pe_comp (ys := []) (ix := []) (.of S {}) rfl (pi_list (pe_ix (ix_tupK (K := K) rfl) (pv 8) pe_int (fun _ _ => rfl))) (fun _ _ _ _ => pts_nil) (fun cl s3 H3 fp => (pe_callD d_law_is_word hr (by omega) rfl (pa_cons (pv 0) pa_nil)))) pa_nil)))))))))))))))), ?_⟩
  refine ⟨_, rfl, a, ns, 0, rfl, hS, by decide, ?_⟩
  generalize cellAt ns 0 = cell
  have m1 := Int.emod_nonneg cell (show (4 : Int) ≠ 0 by decide)
  have m2 := Int.emod_lt_of_pos cell (show (0 : Int) < 4 by decide)
  obtain ⟨n, en⟩ : ∃ n : Nat, 1 + cell % 4 = (n : Int) := ⟨(1 + cell % 4).toNat, by omega⟩
  refine ⟨_, rfl, _, _, rfl, rfl, (by dsimp only; decide), _, _, rfl, rfl, (n : Int), (by show [V.int (1 + cell % 4)] = _; rw [en]), by omega, by omega, ?_⟩
  refine body_rng (by exact sz (by omega)) (fun i y H => ∃ z, y = .str z ∧ ST z 77 7) (fun _ _ _ _ t h => h) (fun i H' R' hi hS' hR' => ?_) (fun D us H1 hDn s1 hD hlen hG => ?_)
  · have e0 : (0 : Int) + (i : Int) = (i : Int) := by omega
    rw [e0]
    refine ⟨_, rfl, _, rfl, _, _, rfl, rfl, a, ns, 5 + i, rfl, hS'.seq hS, by omega, ?_⟩
    refine ⟨_, rfl, _, _, 10, 10, 4, rfl, by decide, by decide, by decide, fun v H2 s2 hw => ?_⟩
    have h1 : (lword (pick ns (5 + i)) 10 10 4 i).ok 10 10 := lword_ok (by decide) (by decide) _ _
    have h2 := lword_depth (cell := pick ns (5 + i)) (R := 10) (B := 10) 4 i
    exact ⟨v, _, rfl, hw, h1, by omega, Nat.le_refl _, fun H3 s3 => hR' _ _ (s2.trans s3) ⟨_, rfl, txt_st h1 (by omega)⟩⟩
  rw [Int.toNat_natCast] at hlen
  obtain ⟨ss, ess, hss⟩ : ∃ ss : List Str, us = ss.map V.str ∧ ∀ z ∈ ss, ST z 77 7 := strs_of hG
  subst ess
  rw [List.length_map] at hlen
  clear hG
  -- one of the words with nots ahead of it
  refine ⟨fun σ H' => ∃ (ss' : List Str) (o : Option V), σ = [some (.ref a), some (.int cell), some (.ref D), o, none, none, none, none, none] ∧ Same H H' ∧ H' D = some (.lst (ss'.map V.str)) ∧ ss'.length = n ∧ ∀ z ∈ ss', ST z 88 18, ?_, ?_⟩
  · refine ⟨_, rfl, _, _, rfl, rfl, ⟨by decide, by decide⟩, _, _, rfl, rfl, (by dsimp only; decide), rfl, _, rfl, ite2 (fun c => ?_) (fun c => ?_)⟩
    · refine ⟨_, rfl, a, ns, 1, rfl, s1.seq hS, by decide, _, rfl, D, _, rfl, .inl (SqL.of hD), _, _, rfl, rfl, (by show (0 : Int) < _; rw [List.length_map]; omega), ?_⟩
      obtain ⟨j, ej, hj⟩ : ∃ j : Nat, cellAt ns 1 % (((ss.map V.str).length : Nat) : Int) = (j : Int) ∧ j < ss.length := by
        have h0 : (0 : Int) < (((ss.map V.str).length : Nat) : Int) := by rw [List.length_map]; omega
        have h1 := Int.emod_nonneg (cellAt ns 1) (show (((ss.map V.str).length : Nat) : Int) ≠ 0 by omega)
        have h2 := Int.emod_lt_of_pos (cellAt ns 1) h0
        rw [List.length_map] at h1 h2 ⊢
        exact ⟨(cellAt ns 1 % ((ss.length : Nat) : Int)).toNat, by omega, by omega⟩
      dsimp only
      rw [ej]
      have m3 := Int.emod_nonneg (cell / 20) (show (8 : Int) ≠ 0 by decide)
      have m4 := Int.emod_lt_of_pos (cell / 20) (show (0 : Int) < 8 by decide)
      obtain ⟨m, em⟩ : ∃ m : Nat, 4 + cell / 20 % 8 = (m : Int) := ⟨(4 + cell / 20 % 8).toNat, by omega⟩
      have hm : m < 12 := by omega
      refine ⟨rfl, _, rfl, _, _, rfl, rfl, ⟨by decide, by decide⟩, _, _, rfl, rfl, (by dsimp only; decide), _, _, rfl, rfl, (m : Int), (by show [V.int (4 + cell / 20 % 8)] = _; rw [em]), by omega, by omega, ?_⟩
      refine body_rng (by exact sz (by omega)) (fun i y H => y = .str "!") (fun _ _ _ _ t h => h) (fun i H' R' hi hS' hR' => hR' _ _ (Same.refl _) rfl) (fun l2 us2 H2 hl2 s2 hL2 hlen2 hG2 => ?_)
      rw [Int.toNat_natCast] at hlen2
      have e2 : us2 = (List.replicate m ("!" : Str)).map V.str := list_ext (by rw [hlen2]; simp) fun i y hy => by
        have hi : i < m := by have := (List.getElem?_eq_some_iff.mp hy).1; omega
        rw [hG2 i y hy]
        simp [hi]
      have hb := bangs_st hm
      have hbl := ST.len' hb
      have hz : ss[j]? = some ss[j] := List.getElem?_eq_getElem hj
      have hzs := hss _ (List.getElem_mem hj)
      generalize ss[j] = old at hz hzs
      have hol := ST.len' hzs
      refine ⟨"", l2, List.replicate m "!", rfl, rfl, SqL.of (by rw [← e2]; exact hL2), sz (by omega), bangs_short m hm, ?_⟩
      have hD2 := s2 _ _ hD
      refine ⟨_, rfl, _, rfl, D, _, _, .str old, rfl, rfl, SqL.of hD2, atI_nat (by rw [List.getElem?_map, hz]; rfl), _, _, rfl, rfl, sz (by omega), ?_⟩
      refine ⟨_, rfl, _, rfl, D, _, _, j, rfl, rfl, hD2, ixN_nat (by rw [List.length_map]; exact hj), ?_⟩
      have hDn' : H D = none := by
        cases e : H D with
        | none => rfl
        | some o => rw [e] at hDn; cases hDn
      refine ⟨ss.set j (Builtin.Str.glued "" (List.replicate m "!") ++ old), _, rfl, fun b o e => ?_, ?_, ?_, fun z hz' => ?_⟩
      · have hb : b ≠ D := fun e2 => by rw [e2, hDn'] at e; cases e
        rw [upd_ne hb]
        exact s2 _ _ (s1 _ _ e)
      · rw [upd_same, List.map_set]
      · rw [List.length_set]; exact hlen
      · rcases List.mem_or_eq_of_mem_set hz' with e | e
        · exact LT.mono (hss z e) (by decide) (by decide)
        · rw [e]
          exact LT.mono (ST.add hb hzs) (by decide) (by decide)
    · exact ⟨ss, none, rfl, s1, hD, hlen, fun z hz => LT.mono (hss z hz) (by decide) (by decide)⟩
  clear hss hD
  rintro σ H2 ⟨ss', o, rfl, s2, hD2, hln, hss⟩
  -- the text
  have hT0 := ST.glued hss
  have hlen9 := ST.len' hT0
  have hn4 : n ≤ 4 := by omega
  have hT : ST (Builtin.Str.glued ⟨#[59]⟩ ss') 356 72 := LT.mono hT0 (by rw [hln]; omega) (by rw [hln]; omega)
  have hTl := ST.len' hT
  have hb88 : ∀ x ∈ ss', x.length ≤ 88 := fun x hx => ST.len' (hss x hx)
  refine ⟨rfl, _, rfl, ⟨#[59]⟩, D, ss', rfl, rfl, SqL.of hD2, sz (by omega), not_long hb88 (by rw [hln]; omega), ?_⟩
  generalize Builtin.Str.glued ⟨#[59]⟩ ss' = z at hT hTl
  have hS2 : SqL K H2 a (ns.map V.int) := s2.seq hS
  have hzs : z.length ≤ sizeLine := sz (by omega)
  refine ⟨_, rfl, a, ns, 2, rfl, hS2, by decide, _, _, rfl, rfl, (by dsimp only; decide), ?_⟩
  dsimp only
  generalize cellAt ns 2 % 10 = way
  refine ⟨_, rfl, a, ns, 3, rfl, hS2, by decide, _, rfl, z, rfl, hzs, _, _, rfl, rfl, _, _, rfl, rfl, (by show (0 : Int) < ((z.length : Nat) : Int) + 1; omega), ?_⟩
  dsimp only
  have a0 := Int.emod_nonneg (cellAt ns 3) (show ((z.length : Nat) : Int) + 1 ≠ 0 by omega)
  have a1 := Int.emod_lt_of_pos (cellAt ns 3) (show (0 : Int) < ((z.length : Nat) : Int) + 1 by omega)
  have a2 : cellAt ns 3 % (((z.length : Nat) : Int) + 1) ≤ ((z.length : Nat) : Int) := by omega
  generalize cellAt ns 3 % (((z.length : Nat) : Int) + 1) = at_ at a0 a1 a2
  -- put
  obtain ⟨j, ej, hj⟩ : ∃ j : Nat, cellAt ns 4 % 16 = (j : Int) ∧ j < 16 := by
    have h1 := Int.emod_nonneg (cellAt ns 4) (show (16 : Int) ≠ 0 by decide)
    have h2 := Int.emod_lt_of_pos (cellAt ns 4) (show (0 : Int) < 16 by decide)
    exact ⟨(cellAt ns 4 % 16).toNat, by omega, by omega⟩
  obtain ⟨cp, hcp, hc128⟩ := put_at j hj
  refine ⟨_, rfl, a, ns, 4, rfl, hS2, by decide, _, _, rfl, rfl, (by dsimp only; decide), putTx, cellAt ns 4 % 16, cp, rfl, rfl, (by decide +kernel), by rw [ej]; exact atI_nat hcp, ?_⟩
  have hP : ST (⟨#[cp]⟩ : Str) 1 1 := LT.one hc128
  have hPl := ST.len' hP
  have hTo := ST.to hT a0 a2
  have hco := cut_op hT a0 a2
  have hPo := hP.op
  have hTol := ST.len' hTo
  have hFr := ST.from hT a0
  have hFrl := ST.len' hFr
  have hFr1 := ST.from hT (i := at_ + 1) (by omega)
  have hFr1l := ST.len' hFr1
  refine ⟨fun σ H' => ∃ (z' : Str) (o5 o6 o7 : Option V), σ = [some (.ref a), some (.int cell), some (.ref D), o5, some (.str z'), o6, o7, none, none] ∧ Same H H' ∧ GT z', ?_, ?_⟩
  · refine ⟨_, rfl, _, _, rfl, rfl, _, rfl, ite2 (fun c => ?_) (fun c => ?_)⟩
    · refine ⟨_, rfl, _, rfl, _, rfl, z, rfl, hzs, _, rfl, _, _, rfl, rfl, sz (by omega), ?_⟩
      have h1 := ST.add hTo hP
      have h1l := ST.len' h1
      refine ⟨_, rfl, _, rfl, _, rfl, z, rfl, hzs, _, _, rfl, rfl, sz (by omega), ?_⟩
      exact ⟨_, _, _, _, rfl, s2, ST.gt' (ST.add h1 hFr) (by decide) (by rw [opn_add, opn_add]; omega)⟩
    refine ⟨_, rfl, _, _, rfl, rfl, _, rfl, ite2 (fun c => ?_) (fun c => ?_)⟩
    · refine ⟨_, rfl, _, rfl, _, rfl, z, rfl, hzs, _, rfl, _, _, rfl, rfl, sz (by omega), ?_⟩
      have h1 := ST.add hTo hP
      have h1l := ST.len' h1
      refine ⟨_, rfl, _, rfl, _, _, rfl, rfl, _, rfl, z, rfl, hzs, _, _, rfl, rfl, sz (by omega), ?_⟩
      exact ⟨_, _, _, _, rfl, s2, ST.gt' (ST.add h1 hFr1) (by decide) (by rw [opn_add, opn_add]; omega)⟩
    refine ⟨_, rfl, _, _, rfl, rfl, _, rfl, ite2 (fun c => ?_) (fun c => ?_)⟩
    · refine ⟨_, rfl, _, rfl, _, rfl, z, rfl, hzs, _, rfl, _, rfl, _, _, rfl, rfl, _, rfl, z, rfl, hzs, _, _, rfl, rfl, sz (by omega), ?_⟩
      exact ⟨_, _, _, _, rfl, s2, ST.gt' (ST.add hTo hFr1) (by decide) (by rw [opn_add]; omega)⟩
    refine ⟨_, rfl, rfl, _, rfl, ite2 (fun c => ?_) (fun c => ?_)⟩
    · refine ⟨_, rfl, a, ns, 4, rfl, hS2, by decide, _, rfl, fun z' H3 s3 g3 => ?_⟩
      exact ⟨z', _, _, _, rfl, s2.trans s3, g3⟩
    · exact ⟨z, _, _, _, rfl, s2, ST.gt hT (by decide) (by decide)⟩
  rintro σ H3 ⟨z', o5, o6, o7, rfl, s3, g⟩
  refine ⟨_, rfl, z', rfl, g, ?_⟩
  cases ho : outOf (cuts z') with
  | inl k =>
    intro H4 s4
    refine ⟨_, rfl, z', rfl, g, fun p v m bs H5 s5 hp hm hmatch => ?_⟩
    rw [ho] at hmatch
    have hmatch : bs = marksOf k := hmatch
    subst hmatch
    refine ⟨_, rfl, _, _, _, false, rfl, TyOf.int _, k_il, _, rfl, iteTh rfl ?_⟩
    exact ⟨_, rfl, p, _, _, _, rfl, rfl, SqT.of hp, at1 _ _ _, _, rfl, m, k, rfl, hm, fun H6 s6 => q _⟩
  | inr ws =>
    intro Dd usd H4 s4 hDd hWd
    refine ⟨_, rfl, z', rfl, g, fun p v m bs H5 s5 hp hm hmatch => ?_⟩
    rw [ho] at hmatch
    have hmatch : bs = [] ∧ (∀ wd ∈ ws, wd.depth ≤ 8) ∧ ∃ D us, v = .ref D ∧ H5 D = some (.lst us) ∧ WsAt H5 ws us := hmatch
    obtain ⟨rfl, hd8, B, usB, rfl, hB, hWB⟩ := hmatch
    have hDd5 := s5 _ _ hDd
    have hWd5 := hWd.mono s5.tup
    refine ⟨_, rfl, _, _, _, true, rfl, TyOf.lst hDd5, rfl, _, rfl, iteFh rfl ?_⟩
    have lay : (PyData.list (ws.map Wd.data)).canLay0 = true := by
      rw [lay_lst]
      exact datas_lay _
    have dep : (PyData.list (ws.map Wd.data)).depth ≤ 64 := by
      have h1 := datas_depth hd8
      simp only [PyData.depth]
      omega
    have eq : PyData.eqv (.list (ws.map Wd.data)) (.list (ws.map Wd.data)) = true := SeqAt.eqv_refl _ lay
    refine ⟨_, rfl, p, _, _, _, rfl, rfl, SqT.of hp, at1 _ _ _, (by show 0 ≤ sizeLine; decide), fun l7 hl7 => ?_⟩
    have n7 := Same.new hl7 (.lst [])
    have e2 : PyData.eqv (.list []) (.list []) = true := eqv_nils (ws := []) rfl
    refine ⟨.list [], .list [], .list (SqL.of (n7 _ _ hm)) .nil, .list (SqL.of upd_same) .nil, (by rw [lay_lst]; exact lay_nil), (by rw [lay_lst]; exact lay_nil), .inl (by simp [PyData.depth, PyData.depthAll]), _, rfl, iteFh (by rw [e2]; rfl) ?_⟩
    have hp7 := n7 _ _ hp
    have hB7 := n7 _ _ hB
    have hWB7 := hWB.mono n7.tup
    have hDd7 := n7 _ _ hDd5
    have hWd7 := hWd5.mono n7.tup
    refine ⟨_, rfl, p, _, _, _, rfl, rfl, SqT.of hp7, at0 _ _, _, _, _, true, rfl, TyOf.lst hB7, rfl, _, rfl, iteFh rfl ?_⟩
    refine ⟨_, rfl, p, _, _, _, rfl, rfl, SqT.of hp7, at0 _ _, _, rfl, .list (ws.map Wd.data), .list (ws.map Wd.data), .list (SqL.of hB7) (wsAt_datas hWB7), .list (SqL.of hDd7) (wsAt_datas hWd7), lay, lay, .inl dep, _, rfl, iteFh (by rw [eq]; rfl) ?_⟩
    have hlb := hWB7.1
    refine ⟨_, rfl, p, _, _, _, rfl, rfl, SqT.of hp7, at0 _ _, B, rfl, ⟨usB, SqL.of hB7⟩, ?_⟩
    have hwl : ws.length ≤ 902 := by
      have h1 := PyProof.Rows.split_le z' ⟨#[59]⟩
      have h2 := g.len
      unfold outOf at ho
      cases e : allW (cuts z') with
      | none => rw [e] at ho; cases ho
      | some ws2 =>
        rw [e] at ho
        have ho : (if ws2.any (fun w => decide (8 < w.depth)) = true then Sum.inl 1 else Sum.inr ws2) = Sum.inr ws := ho
        split at ho
        · cases ho
        · cases ho
          have h3 := congrArg List.length (allW_map e)
          rw [List.length_map, List.length_map] at h3
          have h4 : (cuts z').length ≤ z'.length + 2 := h1
          omega
    refine body_list (SqL.of hB7) (sz (by omega)) (fun i y H => y = .bl true) (fun _ _ _ _ _ h => h) (fun i x H8 R hx s8 hR => ?_) (fun l8 us8 H8 l80 s8 h8 hlen8 hG8 => ?_)
    · obtain ⟨wd, w1, w2⟩ := hWB7.2 i x hx
      exact ⟨_, rfl, x, wd, rfl, w2.mono s8.tup, hd8 wd (List.mem_of_getElem? w1), fun H9 s9 => hR _ _ s9 rfl⟩
    have e8 : us8 = (List.replicate usB.length true).map V.bl := list_ext (by rw [hlen8]; simp) fun i y hy => by
      have hi : i < usB.length := by have := (List.getElem?_eq_some_iff.mp hy).1; omega
      rw [hG8 i y hy]
      simp [hi]
    refine ⟨l8, List.replicate usB.length true, rfl, SqL.of (by rw [← e8]; exact h8), ?_⟩
    have e : (List.replicate usB.length true).all id = true := by simp
    rw [e]
    exact q _
end
theorem all_mk {l : PySem.W.OpenLaw} {w : World} {K : PySem.W.Frag} {h : Heap} {mg : Str → Option Value} {fa f1 f2 f3 f4 f5 f6 f7 f8 f9 f10 f11 f12 f13 f14 f15 f16 f17 f18 f19 f20 f21 : Addr} {tk0 : Tok} {cc0 cc1 cc2 cc3 cc4 cc5 cc6 : Addr} {ggr gco gjo : Addr} {tkF : Tok} {tg0 tg1 tg2 tg3 : Tok} {etg : Nat} {tc0 tc1 tc2 tc3 : Tok} {etc : Nat} {tj0 tj1 tj2 tj3 : Tok} {etj : Nat} (X : K.In h) (G : h.Ns mainGlobals mg) (hfa : mg "law" = some (.ref fa))
    {od1 an1 od2 an2 od3 an3 od4 an4 od5 an5 od6 an6 od7 an7 od8 an8 od9 an9 od10 an10 od11 an11 od12 an12 od13 an13 od14 an14 od15 an15 od16 an16 od17 an17 od18 an18 od19 an19 od20 an20 od21 an21 : Option Addr} {sl1 sl2 sl3 sl4 sl5 sl6 sl7 sl8 sl9 sl10 sl11 sl12 sl13 sl14 sl15 sl16 sl17 sl18 sl19 sl20 sl21 : Array (Option Value)} {oc1 kV1 dc1 pm1 cd1 ct1 oc2 kV2 dc2 pm2 cd2 ct2 oc3 kV3 dc3 pm3 cd3 ct3 oc4 kV4 dc4 pm4 cd4 ct4 oc5 kV5 dc5 pm5 cd5 ct5 oc6 kV6 dc6 pm6 cd6 ct6 oc7 kV7 dc7 pm7 cd7 ct7 oc8 kV8 dc8 pm8 cd8 ct8 oc9 kV9 dc9 pm9 cd9 ct9 oc10 kV10 dc10 pm10 cd10 ct10 oc11 kV11 dc11 pm11 cd11 ct11 oc12 kV12 dc12 pm12 cd12 ct12 oc13 kV13 dc13 pm13 cd13 ct13 oc14 kV14 dc14 pm14 cd14 ct14 oc15 kV15 dc15 pm15 cd15 ct15 oc16 kV16 dc16 pm16 cd16 ct16 oc17 kV17 dc17 pm17 cd17 ct17 oc18 kV18 dc18 pm18 cd18 ct18 oc19 kV19 dc19 pm19 cd19 ct19 oc20 kV20 dc20 pm20 cd20 ct20 oc21 kV21 dc21 pm21 cd21 ct21 : Value}
    (a1 : PySem.W.nsIn K mainGlobals "parts" = some (some (.ref f1))) (l1 : K.lookup f1 = some ⟨oc1, od1, .func (PySem.W.fnOf "parts" "parts" (defArgs sParts) (defBody sParts) (defScope sParts) .none kV1 dc1 pm1 an1 cd1 ct1), sl1⟩) (c1 : PySem.W.codeIn K cd1 "parts" = true) (k1 : PySem.W.keepIn K (.ref f1) = true)
    (a2 : PySem.W.nsIn K mainGlobals "is_deeper" = some (some (.ref f2))) (l2 : K.lookup f2 = some ⟨oc2, od2, .func (PySem.W.fnOf "is_deeper" "is_deeper" (defArgs sIsDeeper) (defBody sIsDeeper) (defScope sIsDeeper) .none kV2 dc2 pm2 an2 cd2 ct2), sl2⟩) (c2 : PySem.W.codeIn K cd2 "is_deeper" = true) (k2 : PySem.W.keepIn K (.ref f2) = true)
    (a3 : PySem.W.nsIn K mainGlobals "read" = some (some (.ref f3))) (l3 : K.lookup f3 = some ⟨oc3, od3, .func (PySem.W.fnOf "read" "read" (defArgs sRead) (defBody sRead) (defScope sRead) .none kV3 dc3 pm3 an3 cd3 ct3), sl3⟩) (c3 : PySem.W.codeIn K cd3 "read" = true) (k3 : PySem.W.keepIn K (.ref f3) = true)
    (a4 : PySem.W.nsIn K mainGlobals "read_word" = some (some (.ref f4))) (l4 : K.lookup f4 = some ⟨oc4, od4, .func (PySem.W.fnOf "read_word" "read_word" (defArgs sReadWord) (defBody sReadWord) (defScope sReadWord) .none kV4 dc4 pm4 an4 cd4 ct4), sl4⟩) (c4 : PySem.W.codeIn K cd4 "read_word" = true) (k4 : PySem.W.keepIn K (.ref f4) = true)
    (a5 : PySem.W.nsIn K mainGlobals "take_sign" = some (some (.ref f5))) (l5 : K.lookup f5 = some ⟨oc5, od5, .func (PySem.W.fnOf "take_sign" "take_sign" (defArgs sTakeSign) (defBody sTakeSign) (defScope sTakeSign) .none kV5 dc5 pm5 an5 cd5 ct5), sl5⟩) (c5 : PySem.W.codeIn K cd5 "take_sign" = true) (k5 : PySem.W.keepIn K (.ref f5) = true)
    (a6 : PySem.W.nsIn K mainGlobals "put_word" = some (some (.ref f6))) (l6 : K.lookup f6 = some ⟨oc6, od6, .func (PySem.W.fnOf "put_word" "put_word" (defArgs sPutWord) (defBody sPutWord) (defScope sPutWord) .none kV6 dc6 pm6 an6 cd6 ct6), sl6⟩) (c6 : PySem.W.codeIn K cd6 "put_word" = true) (k6 : PySem.W.keepIn K (.ref f6) = true)
    (a7 : PySem.W.nsIn K mainGlobals "closed" = some (some (.ref f7))) (l7 : K.lookup f7 = some ⟨oc7, od7, .func (PySem.W.fnOf "closed" "closed" (defArgs sClosed) (defBody sClosed) (defScope sClosed) .none kV7 dc7 pm7 an7 cd7 ct7), sl7⟩) (c7 : PySem.W.codeIn K cd7 "closed" = true) (k7 : PySem.W.keepIn K (.ref f7) = true)
    (a8 : PySem.W.nsIn K mainGlobals "_law_cell_at" = some (some (.ref f8))) (l8 : K.lookup f8 = some ⟨oc8, od8, .func (PySem.W.fnOf "_law_cell_at" "_law_cell_at" (defArgs sCell) (defBody sCell) (defScope sCell) .none kV8 dc8 pm8 an8 cd8 ct8), sl8⟩) (c8 : PySem.W.codeIn K cd8 "_law_cell_at" = true) (k8 : PySem.W.keepIn K (.ref f8) = true)
    (a9 : PySem.W.nsIn K mainGlobals "_law_pick" = some (some (.ref f9))) (l9 : K.lookup f9 = some ⟨oc9, od9, .func (PySem.W.fnOf "_law_pick" "_law_pick" (defArgs sPick) (defBody sPick) (defScope sPick) .none kV9 dc9 pm9 an9 cd9 ct9), sl9⟩) (c9 : PySem.W.codeIn K cd9 "_law_pick" = true) (k9 : PySem.W.keepIn K (.ref f9) = true)
    (a10 : PySem.W.nsIn K mainGlobals "_law_whole" = some (some (.ref f10))) (l10 : K.lookup f10 = some ⟨oc10, od10, .func (PySem.W.fnOf "_law_whole" "_law_whole" (defArgs sLWhole) (defBody sLWhole) (defScope sLWhole) .none kV10 dc10 pm10 an10 cd10 ct10), sl10⟩) (c10 : PySem.W.codeIn K cd10 "_law_whole" = true) (k10 : PySem.W.keepIn K (.ref f10) = true)
    (a11 : PySem.W.nsIn K mainGlobals "_law_mix" = some (some (.ref f11))) (l11 : K.lookup f11 = some ⟨oc11, od11, .func (PySem.W.fnOf "_law_mix" "_law_mix" (defArgs sMix) (defBody sMix) (defScope sMix) .none kV11 dc11 pm11 an11 cd11 ct11), sl11⟩) (c11 : PySem.W.codeIn K cd11 "_law_mix" = true) (k11 : PySem.W.keepIn K (.ref f11) = true)
    (a12 : PySem.W.nsIn K mainGlobals "_law_leaf" = some (some (.ref f12))) (l12 : K.lookup f12 = some ⟨oc12, od12, .func (PySem.W.fnOf "_law_leaf" "_law_leaf" (defArgs sLeaf) (defBody sLeaf) (defScope sLeaf) .none kV12 dc12 pm12 an12 cd12 ct12), sl12⟩) (c12 : PySem.W.codeIn K cd12 "_law_leaf" = true) (k12 : PySem.W.keepIn K (.ref f12) = true)
    (a13 : PySem.W.nsIn K mainGlobals "_law_word" = some (some (.ref f13))) (l13 : K.lookup f13 = some ⟨oc13, od13, .func (PySem.W.fnOf "_law_word" "_law_word" (defArgs sWord) (defBody sWord) (defScope sWord) .none kV13 dc13 pm13 an13 cd13 ct13), sl13⟩) (c13 : PySem.W.codeIn K cd13 "_law_word" = true) (k13 : PySem.W.keepIn K (.ref f13) = true)
    (a14 : PySem.W.nsIn K mainGlobals "_law_text" = some (some (.ref f14))) (l14 : K.lookup f14 = some ⟨oc14, od14, .func (PySem.W.fnOf "_law_text" "_law_text" (defArgs sLText) (defBody sLText) (defScope sLText) .none kV14 dc14 pm14 an14 cd14 ct14), sl14⟩) (c14 : PySem.W.codeIn K cd14 "_law_text" = true) (k14 : PySem.W.keepIn K (.ref f14) = true)
    (a15 : PySem.W.nsIn K mainGlobals "_law_is_word" = some (some (.ref f15))) (l15 : K.lookup f15 = some ⟨oc15, od15, .func (PySem.W.fnOf "_law_is_word" "_law_is_word" (defArgs sLIsWord) (defBody sLIsWord) (defScope sLIsWord) .none kV15 dc15 pm15 an15 cd15 ct15), sl15⟩) (c15 : PySem.W.codeIn K cd15 "_law_is_word" = true) (k15 : PySem.W.keepIn K (.ref f15) = true)
    (a16 : PySem.W.nsIn K mainGlobals "_law_refused" = some (some (.ref f16))) (l16 : K.lookup f16 = some ⟨oc16, od16, .func (PySem.W.fnOf "_law_refused" "_law_refused" (defArgs sLRefused) (defBody sLRefused) (defScope sLRefused) .none kV16 dc16 pm16 an16 cd16 ct16), sl16⟩) (c16 : PySem.W.codeIn K cd16 "_law_refused" = true) (k16 : PySem.W.keepIn K (.ref f16) = true)
    (a17 : PySem.W.nsIn K mainGlobals "_law_told" = some (some (.ref f17))) (l17 : K.lookup f17 = some ⟨oc17, od17, .func (PySem.W.fnOf "_law_told" "_law_told" (defArgs sLTold) (defBody sLTold) (defScope sLTold) .none kV17 dc17 pm17 an17 cd17 ct17), sl17⟩) (c17 : PySem.W.codeIn K cd17 "_law_told" = true) (k17 : PySem.W.keepIn K (.ref f17) = true)
    (a18 : PySem.W.nsIn K mainGlobals "_law_at" = some (some (.ref f18))) (l18 : K.lookup f18 = some ⟨oc18, od18, .func (PySem.W.fnOf "_law_at" "_law_at" (defArgs sLAt) (defBody sLAt) (defScope sLAt) .none kV18 dc18 pm18 an18 cd18 ct18), sl18⟩) (c18 : PySem.W.codeIn K cd18 "_law_at" = true) (k18 : PySem.W.keepIn K (.ref f18) = true)
    (a19 : PySem.W.nsIn K mainGlobals "_law_due" = some (some (.ref f19))) (l19 : K.lookup f19 = some ⟨oc19, od19, .func (PySem.W.fnOf "_law_due" "_law_due" (defArgs sLDue) (defBody sLDue) (defScope sLDue) .none kV19 dc19 pm19 an19 cd19 ct19), sl19⟩) (c19 : PySem.W.codeIn K cd19 "_law_due" = true) (k19 : PySem.W.keepIn K (.ref f19) = true)
    (a20 : PySem.W.nsIn K mainGlobals "_law_odd" = some (some (.ref f20))) (l20 : K.lookup f20 = some ⟨oc20, od20, .func (PySem.W.fnOf "_law_odd" "_law_odd" (defArgs sLOdd) (defBody sLOdd) (defScope sLOdd) .none kV20 dc20 pm20 an20 cd20 ct20), sl20⟩) (c20 : PySem.W.codeIn K cd20 "_law_odd" = true) (k20 : PySem.W.keepIn K (.ref f20) = true)
    (a21 : PySem.W.nsIn K mainGlobals "law" = some (some (.ref f21))) (l21 : K.lookup f21 = some ⟨oc21, od21, .func (PySem.W.fnOf "law" "law" (defArgs sLaw) (defBody sLaw) (defScope sLaw) .none kV21 dc21 pm21 an21 cd21 ct21), sl21⟩) (c21 : PySem.W.codeIn K cd21 "law" = true) (k21 : PySem.W.keepIn K (.ref f21) = true)
    (z1 : PySem.W.nsIn K mainGlobals "len" = some none)
    (z2 : PySem.W.nsIn K mainGlobals "range" = some none)
    (z3 : PySem.W.nsIn K mainGlobals "tuple" = some none)
    (z4 : PySem.W.nsIn K mainGlobals "isinstance" = some none)
    (z5 : PySem.W.nsIn K mainGlobals "bool" = some none)
    (z6 : PySem.W.nsIn K mainGlobals "int" = some none)
    (z7 : PySem.W.nsIn K mainGlobals "all" = some none)
    (z8 : PySem.W.nsIn K mainGlobals "any" = some none)
    (z9 : PySem.W.nsIn K mainGlobals "list" = some none)
    (z10 : PySem.W.nsIn K mainGlobals "str" = some none)
    (z11 : PySem.W.nsIn K mainGlobals "max" = some none)
    (z12 : PySem.W.nsIn K mainGlobals "ValueError" = some none)
    (xa0 : PySem.W.nsIn K mainGlobals "TooMany" = some (some (.ref cc0)))
    (xe0 : PySem.W.excIn K cc0 VErr "ValueError.__new__" = true)
    (xga0 : PySem.W.findIn K (.ref cc0) "__getattribute__" = some (some (.builtin "BaseException.__getattribute__")))
    (xgt0 : PySem.W.findIn K (.ref cc0) "__getattr__" = some none)
    (xcl0 : PySem.W.findIn K (.ref cc0) "__class__" = some (some (.builtin "object.__class__")))
    (xob0 : PySem.W.mroIn K cc0 (.type "object") = some true)
    (xbe0 : PySem.W.mroIn K cc0 (.type "BaseException") = some true)
    (xa1 : PySem.W.nsIn K mainGlobals "Deep" = some (some (.ref cc1)))
    (xe1 : PySem.W.excIn K cc1 VErr "ValueError.__new__" = true)
    (xga1 : PySem.W.findIn K (.ref cc1) "__getattribute__" = some (some (.builtin "BaseException.__getattribute__")))
    (xgt1 : PySem.W.findIn K (.ref cc1) "__getattr__" = some none)
    (xcl1 : PySem.W.findIn K (.ref cc1) "__class__" = some (some (.builtin "object.__class__")))
    (xob1 : PySem.W.mroIn K cc1 (.type "object") = some true)
    (xbe1 : PySem.W.mroIn K cc1 (.type "BaseException") = some true)
    (xa2 : PySem.W.nsIn K mainGlobals "NoContact" = some (some (.ref cc2)))
    (xe2 : PySem.W.excIn K cc2 VErr "ValueError.__new__" = true)
    (xga2 : PySem.W.findIn K (.ref cc2) "__getattribute__" = some (some (.builtin "BaseException.__getattribute__")))
    (xgt2 : PySem.W.findIn K (.ref cc2) "__getattr__" = some none)
    (xcl2 : PySem.W.findIn K (.ref cc2) "__class__" = some (some (.builtin "object.__class__")))
    (xob2 : PySem.W.mroIn K cc2 (.type "object") = some true)
    (xbe2 : PySem.W.mroIn K cc2 (.type "BaseException") = some true)
    (xa3 : PySem.W.nsIn K mainGlobals "NoRelay" = some (some (.ref cc3)))
    (xe3 : PySem.W.excIn K cc3 VErr "ValueError.__new__" = true)
    (xga3 : PySem.W.findIn K (.ref cc3) "__getattribute__" = some (some (.builtin "BaseException.__getattribute__")))
    (xgt3 : PySem.W.findIn K (.ref cc3) "__getattr__" = some none)
    (xcl3 : PySem.W.findIn K (.ref cc3) "__class__" = some (some (.builtin "object.__class__")))
    (xob3 : PySem.W.mroIn K cc3 (.type "object") = some true)
    (xbe3 : PySem.W.mroIn K cc3 (.type "BaseException") = some true)
    (xa4 : PySem.W.nsIn K mainGlobals "Still" = some (some (.ref cc4)))
    (xe4 : PySem.W.excIn K cc4 VErr "ValueError.__new__" = true)
    (xga4 : PySem.W.findIn K (.ref cc4) "__getattribute__" = some (some (.builtin "BaseException.__getattribute__")))
    (xgt4 : PySem.W.findIn K (.ref cc4) "__getattr__" = some none)
    (xcl4 : PySem.W.findIn K (.ref cc4) "__class__" = some (some (.builtin "object.__class__")))
    (xob4 : PySem.W.mroIn K cc4 (.type "object") = some true)
    (xbe4 : PySem.W.mroIn K cc4 (.type "BaseException") = some true)
    (xa5 : PySem.W.nsIn K mainGlobals "NoNote" = some (some (.ref cc5)))
    (xe5 : PySem.W.excIn K cc5 VErr "ValueError.__new__" = true)
    (xga5 : PySem.W.findIn K (.ref cc5) "__getattribute__" = some (some (.builtin "BaseException.__getattribute__")))
    (xgt5 : PySem.W.findIn K (.ref cc5) "__getattr__" = some none)
    (xcl5 : PySem.W.findIn K (.ref cc5) "__class__" = some (some (.builtin "object.__class__")))
    (xob5 : PySem.W.mroIn K cc5 (.type "object") = some true)
    (xbe5 : PySem.W.mroIn K cc5 (.type "BaseException") = some true)
    (xa6 : PySem.W.nsIn K mainGlobals "RoomError" = some (some (.ref cc6)))
    (xe6 : PySem.W.excIn K cc6 VErr "ValueError.__new__" = true)
    (xga6 : PySem.W.findIn K (.ref cc6) "__getattribute__" = some (some (.builtin "BaseException.__getattribute__")))
    (xgt6 : PySem.W.findIn K (.ref cc6) "__getattr__" = some none)
    (xcl6 : PySem.W.findIn K (.ref cc6) "__class__" = some (some (.builtin "object.__class__")))
    (xob6 : PySem.W.mroIn K cc6 (.type "object") = some true)
    (xbe6 : PySem.W.mroIn K cc6 (.type "BaseException") = some true)
    (xgg : PySem.W.specialIn K (.builtin "object.__class__") "__get__" = some (some (.builtin "getset_descriptor.__get__")))
    (xtk : PySem.W.takesIn K (.builtin "object.__class__") = some true)
    (xm1 : PySem.W.mroIn K cc1 (.ref cc6) = some true)
    (xj1_0 : PySem.W.kitOne K (.ref cc1) (.ref cc0) = some false)
    (xj1_1 : PySem.W.kitOne K (.ref cc1) (.ref cc1) = some true)
    (xj1_2 : PySem.W.kitOne K (.ref cc1) (.ref cc2) = some false)
    (xj1_3 : PySem.W.kitOne K (.ref cc1) (.ref cc3) = some false)
    (xj1_4 : PySem.W.kitOne K (.ref cc1) (.ref cc4) = some false)
    (xj1_5 : PySem.W.kitOne K (.ref cc1) (.ref cc5) = some false)
    (xv1 : PySem.W.kitOne K (.ref cc1) (.type "ValueError") = some true)
    (xm5 : PySem.W.mroIn K cc5 (.ref cc6) = some true)
    (xj5_0 : PySem.W.kitOne K (.ref cc5) (.ref cc0) = some false)
    (xj5_1 : PySem.W.kitOne K (.ref cc5) (.ref cc1) = some false)
    (xj5_2 : PySem.W.kitOne K (.ref cc5) (.ref cc2) = some false)
    (xj5_3 : PySem.W.kitOne K (.ref cc5) (.ref cc3) = some false)
    (xj5_4 : PySem.W.kitOne K (.ref cc5) (.ref cc4) = some false)
    (xj5_5 : PySem.W.kitOne K (.ref cc5) (.ref cc5) = some true)
    (xv5 : PySem.W.kitOne K (.ref cc5) (.type "ValueError") = some true)
    (xc_MOST_DEPTH : PySem.W.nsIn K mainGlobals "MOST_DEPTH" = some (some (.int 8 tk0)))
    (k_ib : PySem.W.kitOne K (.type "int") (.type "bool") = some false)
    (k_il : PySem.W.kitOne K (.type "int") (.type "list") = some false)
    (gn_GROUNDS : PySem.W.nsIn K mainGlobals "GROUNDS" = some (some (.ref ggr)))
    (go_GROUNDS : K.lookup ggr = some (gObj w "1" "on" "0" "off" tg0 tg1 tg2 tg3 etg))
    (gs_GROUNDS : (ggr == sysModules) = false)
    (gn_CONTACTS : PySem.W.nsIn K mainGlobals "CONTACTS" = some (some (.ref gco)))
    (go_CONTACTS : K.lookup gco = some (gObj w "r" "relay" "b" "button" tc0 tc1 tc2 tc3 etc))
    (gs_CONTACTS : (gco == sysModules) = false)
    (gn_JOINTS : PySem.W.nsIn K mainGlobals "JOINTS" = some (some (.ref gjo)))
    (go_JOINTS : K.lookup gjo = some (gObj w "&" "and" "|" "or" tj0 tj1 tj2 tj3 etj))
    (gs_JOINTS : (gjo == sysModules) = false)
    (xc_FIGURES : PySem.W.nsIn K mainGlobals "FIGURES" = some (some (.str "0123456789" tkF)))
    : ∃ fd : FuncData, (∀ (s : Shared) (v : Value), BindsTo s fd ⟨[v], []⟩ [("script", v)]) ∧ ∀ base : Heap, K.In base → base.Ns mainGlobals mg → FnOk l.prog w K mg base CX0 103 fa fd ["script"] (spLaw K) := by
  have e := hfa.symm.trans (PySem.W.mg_of X G a21)
  cases e
  have F1 := fun_mk (st := sParts) l1 c1 k1
  have F2 := fun_mk (st := sIsDeeper) l2 c2 k2
  have F3 := fun_mk (st := sRead) l3 c3 k3
  have F4 := fun_mk (st := sReadWord) l4 c4 k4
  have F5 := fun_mk (st := sTakeSign) l5 c5 k5
  have F6 := fun_mk (st := sPutWord) l6 c6 k6
  have F7 := fun_mk (st := sClosed) l7 c7 k7
  have F8 := fun_mk (st := sCell) l8 c8 k8
  have F9 := fun_mk (st := sPick) l9 c9 k9
  have F10 := fun_mk (st := sLWhole) l10 c10 k10
  have F11 := fun_mk (st := sMix) l11 c11 k11
  have F12 := fun_mk (st := sLeaf) l12 c12 k12
  have F13 := fun_mk (st := sWord) l13 c13 k13
  have F14 := fun_mk (st := sLText) l14 c14 k14
  have F15 := fun_mk (st := sLIsWord) l15 c15 k15
  have F16 := fun_mk (st := sLRefused) l16 c16 k16
  have F17 := fun_mk (st := sLTold) l17 c17 k17
  have F18 := fun_mk (st := sLAt) l18 c18 k18
  have F19 := fun_mk (st := sLDue) l19 c19 k19
  have F20 := fun_mk (st := sLOdd) l20 c20 k20
  have F21 := fun_mk (st := sLaw) l21 c21 k21
  have b1 := F1.binds (ps := ["word"]) fun _ _ _ _ _ _ us hl => match us, hl with | [_], _ => rfl
  have m1 := PySem.W.mg_of X G a1
  have b2 := F2.binds (ps := ["word", "depth"]) fun _ _ _ _ _ _ us hl => match us, hl with | [_, _], _ => rfl
  have m2 := PySem.W.mg_of X G a2
  have b3 := F3.binds (ps := ["text"]) fun _ _ _ _ _ _ us hl => match us, hl with | [_], _ => rfl
  have m3 := PySem.W.mg_of X G a3
  have b4 := F4.binds (ps := ["note"]) fun _ _ _ _ _ _ us hl => match us, hl with | [_], _ => rfl
  have m4 := PySem.W.mg_of X G a4
  have b5 := F5.binds (ps := ["pile", "sign"]) fun _ _ _ _ _ _ us hl => match us, hl with | [_, _], _ => rfl
  have m5 := PySem.W.mg_of X G a5
  have b6 := F6.binds (ps := ["pile", "word"]) fun _ _ _ _ _ _ us hl => match us, hl with | [_, _], _ => rfl
  have m6 := PySem.W.mg_of X G a6
  have b7 := F7.binds (ps := ["pile"]) fun _ _ _ _ _ _ us hl => match us, hl with | [_], _ => rfl
  have m7 := PySem.W.mg_of X G a7
  have b8 := F8.binds (ps := ["script", "k"]) fun _ _ _ _ _ _ us hl => match us, hl with | [_, _], _ => rfl
  have m8 := PySem.W.mg_of X G a8
  have b9 := F9.binds (ps := ["script", "k"]) fun _ _ _ _ _ _ us hl => match us, hl with | [_, _], _ => rfl
  have m9 := PySem.W.mg_of X G a9
  have b10 := F10.binds (ps := ["x"]) fun _ _ _ _ _ _ us hl => match us, hl with | [_], _ => rfl
  have m10 := PySem.W.mg_of X G a10
  have b11 := F11.binds (ps := ["cell", "k"]) fun _ _ _ _ _ _ us hl => match us, hl with | [_, _], _ => rfl
  have m11 := PySem.W.mg_of X G a11
  have b12 := F12.binds (ps := ["mixed", "relays", "buttons"]) fun _ _ _ _ _ _ us hl => match us, hl with | [_, _, _], _ => rfl
  have m12 := PySem.W.mg_of X G a12
  have b13 := F13.binds (ps := ["cell", "k", "deep", "relays", "buttons"]) fun _ _ _ _ _ _ us hl => match us, hl with | [_, _, _, _, _], _ => rfl
  have m13 := PySem.W.mg_of X G a13
  have b14 := F14.binds (ps := ["word"]) fun _ _ _ _ _ _ us hl => match us, hl with | [_], _ => rfl
  have m14 := PySem.W.mg_of X G a14
  have b15 := F15.binds (ps := ["found"]) fun _ _ _ _ _ _ us hl => match us, hl with | [_], _ => rfl
  have m15 := PySem.W.mg_of X G a15
  have b16 := F16.binds (ps := ["marks", "which"]) fun _ _ _ _ _ _ us hl => match us, hl with | [_, _], _ => rfl
  have m16 := PySem.W.mg_of X G a16
  have b17 := F17.binds (ps := ["text"]) fun _ _ _ _ _ _ us hl => match us, hl with | [_], _ => rfl
  have m17 := PySem.W.mg_of X G a17
  have b18 := F18.binds (ps := ["text", "at"]) fun _ _ _ _ _ _ us hl => match us, hl with | [_, _], _ => rfl
  have m18 := PySem.W.mg_of X G a18
  have b19 := F19.binds (ps := ["text"]) fun _ _ _ _ _ _ us hl => match us, hl with | [_], _ => rfl
  have m19 := PySem.W.mg_of X G a19
  have b20 := F20.binds (ps := ["cell"]) fun _ _ _ _ _ _ us hl => match us, hl with | [_], _ => rfl
  have m20 := PySem.W.mg_of X G a20
  have b21 := F21.binds (ps := ["script"]) fun _ _ _ _ _ _ us hl => match us, hl with | [_], _ => rfl
  have m21 := PySem.W.mg_of X G a21
  have n_len := PySem.W.mg_none_of X G z1
  have n_range := PySem.W.mg_none_of X G z2
  have n_tuple := PySem.W.mg_none_of X G z3
  have n_isinstance := PySem.W.mg_none_of X G z4
  have n_bool := PySem.W.mg_none_of X G z5
  have n_int := PySem.W.mg_none_of X G z6
  have n_all := PySem.W.mg_none_of X G z7
  have n_any := PySem.W.mg_none_of X G z8
  have n_list := PySem.W.mg_none_of X G z9
  have n_str := PySem.W.mg_none_of X G z10
  have n_max := PySem.W.mg_none_of X G z11
  have n_ValueError := PySem.W.mg_none_of X G z12
  refine ⟨PySem.W.fnOf "law" "law" (defArgs sLaw) (defBody sLaw) (defScope sLaw) .none kV21 dc21 pm21 an21 cd21 ct21, fun s v => .of_eq rfl, fun base _ _ => ?_⟩
  have x_TooMany : ExcC K mg "TooMany" cc0 := ⟨PySem.W.mg_of X G xa0, xe0, ⟨xga0, xgt0, xcl0, xgg, xtk, xob0, xbe0⟩⟩
  have x_Deep : ExcC K mg "Deep" cc1 := ⟨PySem.W.mg_of X G xa1, xe1, ⟨xga1, xgt1, xcl1, xgg, xtk, xob1, xbe1⟩⟩
  have x_NoContact : ExcC K mg "NoContact" cc2 := ⟨PySem.W.mg_of X G xa2, xe2, ⟨xga2, xgt2, xcl2, xgg, xtk, xob2, xbe2⟩⟩
  have x_NoRelay : ExcC K mg "NoRelay" cc3 := ⟨PySem.W.mg_of X G xa3, xe3, ⟨xga3, xgt3, xcl3, xgg, xtk, xob3, xbe3⟩⟩
  have x_Still : ExcC K mg "Still" cc4 := ⟨PySem.W.mg_of X G xa4, xe4, ⟨xga4, xgt4, xcl4, xgg, xtk, xob4, xbe4⟩⟩
  have x_NoNote : ExcC K mg "NoNote" cc5 := ⟨PySem.W.mg_of X G xa5, xe5, ⟨xga5, xgt5, xcl5, xgg, xtk, xob5, xbe5⟩⟩
  have x_RoomError : ExcC K mg "RoomError" cc6 := ⟨PySem.W.mg_of X G xa6, xe6, ⟨xga6, xgt6, xcl6, xgg, xtk, xob6, xbe6⟩⟩
  have c_MOST_DEPTH := PySem.W.mg_of X G xc_MOST_DEPTH
  have km1 : MarkE K cc1 cc0 cc1 cc2 cc3 cc4 cc5 cc6 1 := ⟨xe1, x_Deep.get, xm1, xj1_0, xj1_1, xj1_2, xj1_3, xj1_4, xj1_5, xv1⟩
  have km5 : MarkE K cc5 cc0 cc1 cc2 cc3 cc4 cc5 cc6 5 := ⟨xe5, x_NoNote.get, xm5, xj5_0, xj5_1, xj5_2, xj5_3, xj5_4, xj5_5, xv5⟩
  have m_GROUNDS := PySem.W.mg_of X G gn_GROUNDS
  have gd_GROUNDS : GD K w ggr "1" "on" "0" "off" := ⟨⟨_, _, _, _, _, go_GROUNDS⟩, gs_GROUNDS, by decide⟩
  have m_CONTACTS := PySem.W.mg_of X G gn_CONTACTS
  have gd_CONTACTS : GD K w gco "r" "relay" "b" "button" := ⟨⟨_, _, _, _, _, go_CONTACTS⟩, gs_CONTACTS, by decide⟩
  have m_JOINTS := PySem.W.mg_of X G gn_JOINTS
  have gd_JOINTS : GD K w gjo "&" "and" "|" "or" := ⟨⟨_, _, _, _, _, go_JOINTS⟩, gs_JOINTS, by decide⟩
  have c_FIGURES := PySem.W.mg_of X G xc_FIGURES
  have C8 : Callee l.prog w K mg base "_law_cell_at" 1 ["script", "k"] (spCell K) := ⟨_, _, ok_cell F8 n_len, b8, k8, m8⟩
  have C9 : Callee l.prog w K mg base "_law_pick" 2 ["script", "k"] (spPick K) := ⟨_, _, ok_pick F9 C8 n_len, b9, k9, m9⟩
  have C11 : Callee l.prog w K mg base "_law_mix" 1 ["cell", "k"] spMix := ⟨_, _, ok_mix F11, b11, k11, m11⟩
  have C12 : Callee l.prog w K mg base "_law_leaf" 1 ["mixed", "relays", "buttons"] spLeaf := ⟨_, _, ok_leaf F12, b12, k12, m12⟩
  have C13 : Callee l.prog w K mg base "_law_word" 12 ["cell", "k", "deep", "relays", "buttons"] (spWord 10) := ⟨_, _, ok_word F13 b13 m13 C11 C12 10, b13, k13, m13⟩
  have C14 : Callee l.prog w K mg base "_law_text" 9 ["word"] (spTxt 8) := ⟨_, _, ok_ltext F14 b14 m14 n_str n_int 8, b14, k14, m14⟩
  have C6 : Callee l.prog w K mg base "put_word" 1 ["pile", "word"] (spPut K) := ⟨_, _, ok_put F6, b6, k6, m6⟩
  have C7 : CalleeX l.prog w K mg base "closed" 1 ["pile"] (spClosed K cc5) := ⟨_, _, ok_closed F7 n_len n_isinstance n_tuple x_NoNote gd_JOINTS m_JOINTS, b7, k7, m7⟩
  have C5 : CalleeX l.prog w K mg base "take_sign" 2 ["pile", "sign"] (spTake K cc5) := ⟨_, _, ok_take F5 C6 C7 c_FIGURES gd_GROUNDS m_GROUNDS gd_CONTACTS m_CONTACTS, b5, k5, m5⟩
  have C4 : CalleeX l.prog w K mg base "read_word" 3 ["note"] (spReadW K cc5) := ⟨_, _, ok_readw F4 C5 n_len n_isinstance n_tuple x_NoNote, b4, k4, m4⟩
  have C1 : Callee l.prog w K mg base "parts" 1 ["word"] spParts := ⟨_, _, ok_parts F1, b1, k1, m1⟩
  have C2 : Callee l.prog w K mg base "is_deeper" 11 ["word", "depth"] (spDeeper 9) := ⟨_, _, ok_deeper F2 b2 m2 C1 n_any 9, b2, k2, m2⟩
  have C3 : CalleeX l.prog w K mg base "read" 12 ["text"] (spRead K cc1 cc5) := ⟨_, _, ok_readx F3 C4 C2 n_any c_MOST_DEPTH x_Deep, b3, k3, m3⟩
  have C10 : Callee l.prog w K mg base "_law_whole" 1 ["x"] spWhole := ⟨_, _, ok_whole F10 n_isinstance n_int n_bool k_ib, b10, k10, m10⟩
  have C15 : Callee l.prog w K mg base "_law_is_word" 10 ["found"] (spIsWord 8) := ⟨_, _, ok_isword F15 b15 m15 C10 n_all n_len n_isinstance n_tuple 8, b15, k15, m15⟩
  have C16 : Callee l.prog w K mg base "_law_refused" 1 ["marks", "which"] spRefused := ⟨_, _, ok_refused F16 n_range, b16, k16, m16⟩
  have C17 : Callee l.prog w K mg base "_law_told" 13 ["text"] (spToldR K) := ⟨_, _, ok_toldr F17 C3 n_isinstance n_ValueError x_TooMany x_Deep x_NoContact x_NoRelay x_Still x_NoNote x_RoomError km1 km5, b17, k17, m17⟩
  have C18 : Callee l.prog w K mg base "_law_at" 101 ["text", "at"] (spAt 100) := ⟨_, _, ok_at F18 b18 m18 n_int n_len n_max 100, b18, k18, m18⟩
  have C19 : Callee l.prog w K mg base "_law_due" 102 ["text"] (spDueR K) := ⟨_, _, ok_duer F19 C18 n_len n_max, b19, k19, m19⟩
  have C20 : Callee l.prog w K mg base "_law_odd" 1 ["cell"] spOdd := ⟨_, _, ok_odd F20, b20, k20, m20⟩
  exact ok_law F21 C8 C9 C13 C14 C20 C19 C17 C16 C15 n_range n_list n_len n_isinstance n_all k_il
theorem walk {l : PySem.W.OpenLaw} {q : Program} {loose : List Str} {XP : (Str → Option Value) → Heap → Prop} {YP : World → Heap → Prop} {d : DefRec} {K : Params → PySem.W.Frag} (hn : l.most = some 63) (hdf : d.params.defaults = [])
    (hY : ∀ (w : World) (h : Heap), YP w h → (K w.params).In h)
    (F : ∀ (w : World) (mg : Str → Option Value) (fa : Addr) (h : Heap), (K w.params).In h → h.Ns mainGlobals mg → mg d.name = some (.ref fa) →
      ∃ fd : FuncData, (∀ (s : Shared) (u : Value), BindsTo s fd ⟨[u], []⟩ [("script", u)]) ∧ ∀ base : Heap, (K w.params).In base → base.Ns mainGlobals mg → FnOk l.prog w (K w.params) mg base CX0 103 fa fd ["script"] (spLaw (K w.params))) :
    PySem.W.WalkO q loose XP YP l.row.toRowW d [] (fun f vs => PySem.call f vs) :=
  L2.walk_of (n := 63) (k := 103) (x := "script") (CX := fun _ => CX0) (sp := fun w => spLaw (K w.params)) hn (by decide) hdf ⟨rfl, by decide, by decide⟩ hY F (fun _ _ a ns hl _ hS => ⟨a, ns, rfl, hS, hl, fun _ => rfl⟩) fun _ _ _ _ _ z => z
end RR
open PySem PySem.W PyProof.Rows
set_option maxRecDepth 100000 in
set_option maxHeartbeats 0 in
theorem PySem.Challenge.cw_relayroom_k14_read_holds : PySem.Challenge.rw_relayroom_k14_read.Holds := by
  w_on; o_law; k_head; (case hw => w_witness2)
  k_fill
  refine RR.walk (l := PySem.Challenge.rw_relayroom_k14_read) rfl rfl (fun w h Y => PySem.W.kIn_of Y) ?F
  case F =>
    intro w mg fa h KX G hmg
    refine' RR.all_mk KX G hmg ?a1 ?l1 ?c1 ?k1 ?a2 ?l2 ?c2 ?k2 ?a3 ?l3 ?c3 ?k3 ?a4 ?l4 ?c4 ?k4 ?a5 ?l5 ?c5 ?k5 ?a6 ?l6 ?c6 ?k6 ?a7 ?l7 ?c7 ?k7 ?a8 ?l8 ?c8 ?k8 ?a9 ?l9 ?c9 ?k9 ?a10 ?l10 ?c10 ?k10 ?a11 ?l11 ?c11 ?k11 ?a12 ?l12 ?c12 ?k12 ?a13 ?l13 ?c13 ?k13 ?a14 ?l14 ?c14 ?k14 ?a15 ?l15 ?c15 ?k15 ?a16 ?l16 ?c16 ?k16 ?a17 ?l17 ?c17 ?k17 ?a18 ?l18 ?c18 ?k18 ?a19 ?l19 ?c19 ?k19 ?a20 ?l20 ?c20 ?k20 ?a21 ?l21 ?c21 ?k21 ?z1 ?z2 ?z3 ?z4 ?z5 ?z6 ?z7 ?z8 ?z9 ?z10 ?z11 ?z12 ?xa0 ?xe0 ?xga0 ?xgt0 ?xcl0 ?xob0 ?xbe0 ?xa1 ?xe1 ?xga1 ?xgt1 ?xcl1 ?xob1 ?xbe1 ?xa2 ?xe2 ?xga2 ?xgt2 ?xcl2 ?xob2 ?xbe2 ?xa3 ?xe3 ?xga3 ?xgt3 ?xcl3 ?xob3 ?xbe3 ?xa4 ?xe4 ?xga4 ?xgt4 ?xcl4 ?xob4 ?xbe4 ?xa5 ?xe5 ?xga5 ?xgt5 ?xcl5 ?xob5 ?xbe5 ?xa6 ?xe6 ?xga6 ?xgt6 ?xcl6 ?xob6 ?xbe6 ?xgg ?xtk ?xm1 ?xj1_0 ?xj1_1 ?xj1_2 ?xj1_3 ?xj1_4 ?xj1_5 ?xv1 ?xm5 ?xj5_0 ?xj5_1 ?xj5_2 ?xj5_3 ?xj5_4 ?xj5_5 ?xv5 ?xc_MOST_DEPTH ?k_ib ?k_il ?gn_GROUNDS ?go_GROUNDS ?gs_GROUNDS ?gn_CONTACTS ?go_CONTACTS ?gs_CONTACTS ?gn_JOINTS ?go_JOINTS ?gs_JOINTS ?xc_FIGURES
    (case a1 => k_is); (case l1 => k_is); (case c1 => k_is); (case k1 => k_is)
    (case a2 => k_is); (case l2 => k_is); (case c2 => k_is); (case k2 => k_is)
    (case a3 => k_is); (case l3 => k_is); (case c3 => k_is); (case k3 => k_is)
    (case a4 => k_is); (case l4 => k_is); (case c4 => k_is); (case k4 => k_is)
    (case a5 => k_is); (case l5 => k_is); (case c5 => k_is); (case k5 => k_is)
    (case a6 => k_is); (case l6 => k_is); (case c6 => k_is); (case k6 => k_is)
    (case a7 => k_is); (case l7 => k_is); (case c7 => k_is); (case k7 => k_is)
    (case a8 => k_is); (case l8 => k_is); (case c8 => k_is); (case k8 => k_is)
    (case a9 => k_is); (case l9 => k_is); (case c9 => k_is); (case k9 => k_is)
    (case a10 => k_is); (case l10 => k_is); (case c10 => k_is); (case k10 => k_is)
    (case a11 => k_is); (case l11 => k_is); (case c11 => k_is); (case k11 => k_is)
    (case a12 => k_is); (case l12 => k_is); (case c12 => k_is); (case k12 => k_is)
    (case a13 => k_is); (case l13 => k_is); (case c13 => k_is); (case k13 => k_is)
    (case a14 => k_is); (case l14 => k_is); (case c14 => k_is); (case k14 => k_is)
    (case a15 => k_is); (case l15 => k_is); (case c15 => k_is); (case k15 => k_is)
    (case a16 => k_is); (case l16 => k_is); (case c16 => k_is); (case k16 => k_is)
    (case a17 => k_is); (case l17 => k_is); (case c17 => k_is); (case k17 => k_is)
    (case a18 => k_is); (case l18 => k_is); (case c18 => k_is); (case k18 => k_is)
    (case a19 => k_is); (case l19 => k_is); (case c19 => k_is); (case k19 => k_is)
    (case a20 => k_is); (case l20 => k_is); (case c20 => k_is); (case k20 => k_is)
    (case a21 => k_is); (case l21 => k_is); (case c21 => k_is); (case k21 => k_is)
    (case z1 => k_is)
    (case z2 => k_is)
    (case z3 => k_is)
    (case z4 => k_is)
    (case z5 => k_is)
    (case z6 => k_is)
    (case z7 => k_is)
    (case z8 => k_is)
    (case z9 => k_is)
    (case z10 => k_is)
    (case z11 => k_is)
    (case z12 => k_is)
    (case xa0 => k_is)
    (case xe0 => k_exc)
    (case xga0 => k_is)
    (case xgt0 => k_is)
    (case xcl0 => k_is)
    (case xob0 => k_is)
    (case xbe0 => k_is)
    (case xa1 => k_is)
    (case xe1 => k_exc)
    (case xga1 => k_is)
    (case xgt1 => k_is)
    (case xcl1 => k_is)
    (case xob1 => k_is)
    (case xbe1 => k_is)
    (case xa2 => k_is)
    (case xe2 => k_exc)
    (case xga2 => k_is)
    (case xgt2 => k_is)
    (case xcl2 => k_is)
    (case xob2 => k_is)
    (case xbe2 => k_is)
    (case xa3 => k_is)
    (case xe3 => k_exc)
    (case xga3 => k_is)
    (case xgt3 => k_is)
    (case xcl3 => k_is)
    (case xob3 => k_is)
    (case xbe3 => k_is)
    (case xa4 => k_is)
    (case xe4 => k_exc)
    (case xga4 => k_is)
    (case xgt4 => k_is)
    (case xcl4 => k_is)
    (case xob4 => k_is)
    (case xbe4 => k_is)
    (case xa5 => k_is)
    (case xe5 => k_exc)
    (case xga5 => k_is)
    (case xgt5 => k_is)
    (case xcl5 => k_is)
    (case xob5 => k_is)
    (case xbe5 => k_is)
    (case xa6 => k_is)
    (case xe6 => k_exc)
    (case xga6 => k_is)
    (case xgt6 => k_is)
    (case xcl6 => k_is)
    (case xob6 => k_is)
    (case xbe6 => k_is)
    (case xgg => k_is)
    (case xtk => k_is)
    (case xm1 => k_is)
    (case xj1_0 => kit_is)
    (case xj1_1 => kit_is)
    (case xj1_2 => kit_is)
    (case xj1_3 => kit_is)
    (case xj1_4 => kit_is)
    (case xj1_5 => kit_is)
    (case xv1 => kit_is)
    (case xm5 => k_is)
    (case xj5_0 => kit_is)
    (case xj5_1 => kit_is)
    (case xj5_2 => kit_is)
    (case xj5_3 => kit_is)
    (case xj5_4 => kit_is)
    (case xj5_5 => kit_is)
    (case xv5 => kit_is)
    (case xc_MOST_DEPTH => k_is)
    (case k_ib => kit_is)
    (case k_il => kit_is)
    (case gn_GROUNDS => k_is)
    (case go_GROUNDS => k_is)
    (case gs_GROUNDS => rfl)
    (case gn_CONTACTS => k_is)
    (case go_CONTACTS => k_is)
    (case gs_CONTACTS => rfl)
    (case gn_JOINTS => k_is)
    (case go_JOINTS => k_is)
    (case gs_JOINTS => rfl)
    (case xc_FIGURES => k_is)

end
