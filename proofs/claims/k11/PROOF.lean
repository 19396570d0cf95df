import PyProof.Rows.All
import Wide.All
import OpenK.AllK
import Wide.FinOn
import PyProof.TupleKey
import Lean
import PyProof.EqAt
import PyProof.EqKinds
import PyProof.TupleCall
import PyProof.NeData
import PyProof.NsDelKeeps
import PyProof.MinMaxWalk
import PyProof.WalkInts
import KE.KDictList
import PyProof.Rows.TupDisplay
import PyProof.ZipIter
import PyProof.Rows.SortRunsK
import KE.KSortTup
import PySem.Challenge.RW_relayroom_k11_whole_side_by_side
section
set_option Elab.async false
set_option linter.all false
set_option maxRecDepth 100000
namespace L2
open PySem PySem.Spec PyProof.Rows

noncomputable def bInt (b : Bool) : Int := if b = true then 1 else 0
noncomputable def bHash (b : Bool) : Int := reduceHash (bInt b)
theorem pyHash_bool {prog : Program} {w : World} {A : Around} {E : Value → Shared → Prop} {s : Shared} {b : Bool} {Q : Int → Shared → Prop} (h : Q (bHash b) { s with toks := s.toks + 1 }) :
    wpAny (model prog w) A (pyHash (.bool b)) Q E s := by
  refine PySem.W.pyHash_slot (T := "bool") rfl PySem.F.slot_bool_hash entry_int_hash (args_int_hash _) (beq_builtin_none _) (.inl rfl) ?_
  have body : ∀ n : Int, Q (reduceHash n) { s with toks := s.toks + 1 } → wpAny (model prog w) A.in1 (do ret (← mkInt n)) (fun fin s' => ∃ m t, fin = .done (.ret (.int m t)) ∧ Q (reduceHash m) s') E s := fun n hn => wpAny_bind (wpAny_mkInt (wpAny_pure ⟨_, _, rfl, hn⟩))
  cases b with
  | false => exact body 0 h
  | true => exact body 1 h
noncomputable def boolIs (k : Bool) : Value → Bool
  | .bool b => b == k
  | _ => false
theorem boolIs_shape {k : Bool} {v : Value} (h : boolIs k v = true) : v = .bool k := by
  cases v <;> simp_all [boolIs]
noncomputable def boolKind (prog : Program) (w : World) : PySem.KeyKind prog w Bool where
  is := boolIs
  hash := bHash
  inj := fun v a b ha hb => by
    have e1 := boolIs_shape ha
    have e2 := boolIs_shape hb
    rw [e1] at e2
    injection e2
  byValue := fun k v h => by rw [boolIs_shape h]; rfl
  pyHash := fun hv h => by rw [boolIs_shape hv]; exact pyHash_bool h
  eqBool := fun {A E s a b u v Q} hu hv h => by
    rw [boolIs_shape hu, boolIs_shape hv]
    refine SeqAt.EqAt.bool_bool a b _ _ _ _ ?_
    have : decide (a = b) = (a == b) := by cases a <;> cases b <;> rfl
    rw [← this]
    exact h
  «strs» := fun k x t v h => by have := boolIs_shape h; cases this

noncomputable abbrev Key := Sum Bool Str
noncomputable def keyIs : Key → Value → Bool
  | .inl k, v => boolIs k v
  | .inr x, v => Value.isStrOf x v
noncomputable def keyH (w : World) : Key → Int
  | .inl k => bHash k
  | .inr x => hashStr w x
theorem keyIs_shape {k : Key} {v : Value} (h : keyIs k v = true) : (∃ b, k = Sum.inl b ∧ v = Value.bool b) ∨ (∃ x t, k = Sum.inr x ∧ v = Value.str x t) := by
  cases k with
  | inl b => exact .inl ⟨b, rfl, boolIs_shape h⟩
  | inr x => obtain ⟨t, e⟩ := Value.isStrOf_shape (x := x) (v := v) h; exact .inr ⟨x, t, rfl, e⟩
noncomputable def mixKind (prog : Program) (w : World) : PySem.KeyKind prog w Key where
  is := keyIs
  hash := keyH w
  inj := fun v a b ha hb => by
    rcases keyIs_shape ha with ⟨i, rfl, rfl⟩ | ⟨x, t, rfl, rfl⟩ <;> rcases keyIs_shape hb with ⟨j, rfl, e⟩ | ⟨y, u, rfl, e⟩
    · injection e with e; rw [e]
    · cases e
    · cases e
    · injection e with e _; rw [e]
  byValue := fun k v h => by
    rcases keyIs_shape h with ⟨i, rfl, rfl⟩ | ⟨x, t, rfl, rfl⟩ <;> rfl
  pyHash := fun hv h => by
    rcases keyIs_shape hv with ⟨i, rfl, rfl⟩ | ⟨x, t, rfl, rfl⟩
    · exact pyHash_bool h
    · exact wpAny_pyHash_str h
  eqBool := fun hu hv h => by
    rcases keyIs_shape hu with ⟨i, rfl, rfl⟩ | ⟨x, t, rfl, rfl⟩ <;> rcases keyIs_shape hv with ⟨j, rfl, rfl⟩ | ⟨y, u, rfl, rfl⟩
    · refine SeqAt.EqAt.bool_bool i j _ _ _ _ ?_
      have e : decide ((Sum.inl i : Key) = Sum.inl j) = (i == j) := by cases i <;> cases j <;> decide
      rw [← e]; exact h
    · refine SeqAt.EqAt.bool_str i y u _ _ _ _ ?_
      rw [decide_eq_false (fun z => nomatch z)] at h; exact h
    · refine SeqAt.EqAt.str_bool x t j _ _ _ _ ?_
      rw [decide_eq_false (fun z => nomatch z)] at h; exact h
    · have e : decide ((Sum.inr x : Key) = Sum.inr y) = decide (x = y) := by
        by_cases c : x = y
        · rw [decide_eq_true c, decide_eq_true (by rw [c])]
        · rw [decide_eq_false c, decide_eq_false (fun z => c (Sum.inr.inj z))]
      rw [e] at h; exact wpAny_eqBool_str h
  «strs» := fun k x t v h => by
    rcases keyIs_shape h with ⟨i, rfl, e⟩ | ⟨y, u, rfl, e⟩
    · cases e
    · injection e with e1 _
      subst e1
      cases v <;> rfl
theorem mixKind_int (prog : Program) (w : World) (i : Bool) : (mixKind prog w).is (.inl i) (.bool i) = true := by show boolIs i (.bool i) = true; simp [boolIs]
theorem mixKind_str (prog : Program) (w : World) (x : Str) (t : Tok) : (mixKind prog w).is (.inr x) (.str x t) = true := by show Value.isStrOf x (.str x t) = true; simp [Value.isStrOf]

end L2

namespace L2
open PySem PySem.Spec PyProof.Rows

inductive V where
  | non | bl (b : Bool) | int (i : Int) | str (x : Str) | byt (b : Array UInt8) | flt (b : UInt64) | ref (a : Addr) | ty (n : String)
  deriving DecidableEq

noncomputable def RelV : V → Value → Prop
  | .non, u => u = Value.none
  | .bl b, u => u = Value.bool b
  | .int i, u => ∃ t, u = Value.int i t
  | .str x, u => ∃ t, u = Value.str x t
  | .byt b, u => ∃ t, u = Value.bytes b t
  | .flt b, u => ∃ t, u = Value.float b t
  | .ref a, u => u = Value.ref a
  | .ty n, u => u = Value.type n

noncomputable abbrev Vals : List V → List Value → Prop := Paired RelV
theorem Vals.length {xs : List V} {us : List Value} (r : Vals xs us) : xs.length = us.length := Paired.length r
theorem Vals.get : ∀ {xs : List V} {us : List Value} {i : Nat} {x : V}, Vals xs us → xs[i]? = some x → ∃ u, us[i]? = some u ∧ RelV x u
  | _, _, _, _, .nil, e => by simp at e
  | _, _, 0, _, .cons r _, e => by simp at e; subst e; exact ⟨_, rfl, r⟩
  | _, _, i + 1, x, .cons _ t, e => by
    obtain ⟨u, h1, h2⟩ := Vals.get (i := i) (x := x) t (by simpa using e)
    exact ⟨u, by simpa using h1, h2⟩
theorem Vals.append : ∀ {xs ys : List V} {us ws : List Value}, Vals xs us → Vals ys ws → Vals (xs ++ ys) (us ++ ws)
  | _, _, _, _, .nil, s => s
  | _, _, _, _, .cons r t, s => .cons r (Vals.append t s)
theorem Vals.take : ∀ {xs : List V} {us : List Value} (n : Nat), Vals xs us → Vals (xs.take n) (us.take n)
  | _, _, 0, _ => .nil
  | _, _, _ + 1, .nil => .nil
  | _, _, n + 1, .cons r t => .cons r (Vals.take n t)
theorem Vals.drop : ∀ {xs : List V} {us : List Value} (n : Nat), Vals xs us → Vals (xs.drop n) (us.drop n)
  | _, _, 0, r => r
  | _, _, _ + 1, .nil => .nil
  | _, _, n + 1, .cons _ t => Vals.drop n t

noncomputable def RelO : Option V → Option Value → Prop
  | some v, some u => RelV v u
  | none, none => True
  | _, _ => False
noncomputable def KV {κ : Type} : List (κ × V) → List (κ × Value) → Prop := Paired fun (p : κ × V) (q : κ × Value) => p.1 = q.1 ∧ RelV p.2 q.2

noncomputable def kV : Key → V
  | .inl i => .bl i
  | .inr x => .str x

inductive HO where
  /-- a list -/
  | lst (xs : List V)
  /-- a tuple (never changes) -/
  | tup (xs : List V)
  /-- a dict whose keys are ints and texts; one whose keys are tuples of ints and texts (the empty one is both) -/
  | dK (kvs : List (Key × V)) | dT (kvs : List (List Key × V))
  /-- a set of ints: its members, its size -/
  | set (S : Int → Bool) (n : Nat)
  /-- an instance of the class at C, its dict at dx, its attributes -/
  | ins (C dx : Addr) (fs : List (Str × V))
  /-- the dict of the instance at x -/
  | own (x : Addr)
  /-- the dict of an exception -/
  | xd (fs : List (Str × V))
  /-- a bound method, f of x -/
  | met (f x : Addr)
  /-- a range object lo, lo + 1, .. below hi -/
  | rng (lo hi : Int)
  /-- a thing that is known to the object (the script; a dict while a loop walks it): read, never written while it is so -/
  | frz (o : Obj) (u : HO)
  /-- a code object's table -/
  | tbl (ps : Array Value)
  /-- any other thing, by what is true of its one object (a def of one's own: SetO a S n := HO.ext fun h => ..) -/
  | ext (φ : Heap → Prop)

noncomputable abbrev Hp := Addr → Option HO
noncomputable def upd (H : Hp) (a : Addr) (o : HO) : Hp := fun b => if b = a then some o else H b
theorem upd_same {H : Hp} {a : Addr} {o : HO} : upd H a o a = some o := by unfold upd; rw [if_pos rfl]
theorem upd_ne {H : Hp} {a b : Addr} {o : HO} (h : b ≠ a) : upd H a o b = H b := by unfold upd; rw [if_neg h]
theorem ne_of {H : Hp} {a b : Addr} {o u : HO} (h : H a = some o) (h' : H b = some u) (d : o ≠ u) : a ≠ b := by
  intro e; subst e; rw [h] at h'; exact d (Option.some.inj h')
theorem ne_of_none {H : Hp} {a b : Addr} {o : HO} (h : H a = some o) (h' : H b = none) : a ≠ b := by
  intro e; subst e; rw [h] at h'; cases h'

section
variable (P : Program) (w : World)
noncomputable def ObjOk (H : Hp) (h : Heap) (a : Addr) : HO → Prop
  | .lst xs => xs.length ≤ sizeLine ∧ ∃ (its : List Value) (n : Nat), Vals xs its ∧ h.get? a = some { cls := .type "list", data := .seq its.toArray n }
  | .tup xs => xs.length ≤ sizeLine ∧ ∃ its : List Value, Vals xs its ∧ IsTup h a its.toArray
  | .dK kvs => kvs.length ≤ sizeLine ∧ (a == sysModules) = false ∧ ∃ vs, KV kvs vs ∧ h.DictOf (mixKind P w) a vs
  | .dT kvs => kvs.length ≤ sizeLine ∧ (a == sysModules) = false ∧ ∃ xs : List (List Key × Addr × Value),
      Paired (fun (p : List Key × V) (q : List Key × Addr × Value) => p.1 = q.1 ∧ H q.2.1 = some (.tup (p.1.map kV)) ∧ RelV p.2 q.2.2) kvs xs ∧
      ∃ o es ep, h.get? a = some o ∧ o.ExactDict ∧ o.data = .dict es ep ∧ es.toList = xs.map (entryOfKey (tupleKind (mixKind P w))) ∧ (xs.map (·.1)).Nodup
  | .set S n => h.SetOf (intKind P w) a S n
  | .ins C dx fs => H dx = some (.own a) ∧ fs.length ≤ 1000 ∧ dx ≠ a ∧ h.get? a = some (PySem.W.instObj C dx) ∧
      ∃ mA, h.Ns1 dx mA ∧ (∀ f, RelO (fs.lookup f) (mA f)) ∧ PySem.Within mA (fs.map (·.1))
  | .own _ => ∃ o, h.get? a = some o
  | .xd fs => ∃ mA, h.Ns1 a mA ∧ ∀ f, RelO (fs.lookup f) (mA f)
  | .rng lo hi => ∃ t u v, h.get? a = some { cls := .type "range", data := .fields #[.int lo t, .int hi u, .int 1 v] }
  | .frz o u => h.get? a = some o ∧ ObjOk H h a u
  | .tbl ps => h.get? a = some { cls := .none, data := .fields ps }
  | .met f x => h.get? a = some (PySem.W.methodObj (.ref f) (.ref x))
  | .ext φ => φ h ∧ (∃ o, h.get? a = some o) ∧ ∀ h1 h2 : Heap, φ h1 → (∀ o, h1.get? a = some o → h2.get? a = some o) → φ h2
noncomputable def HOk (H : Hp) (h : Heap) : Prop := ∀ a o, H a = some o → ObjOk P w H h a o
end

section
variable {P : Program} {w : World} {H H' : Hp} {h h' : Heap} {a : Addr} {o : HO}
theorem ObjOk.lt (x : ObjOk P w H h a o) : a < h.objs.size := by
  cases o with
  | lst xs => obtain ⟨_, _, _, _, e⟩ := x; exact Heap.lt_size e
  | tup xs => obtain ⟨_, _, _, p⟩ := x; exact p.lt
  | dK kvs => obtain ⟨_, _, _, _, o, _, _, e, _⟩ := x; exact Heap.lt_size e
  | dT kvs => obtain ⟨_, _, _, _, o, _, _, e, _⟩ := x; exact Heap.lt_size e
  | set S n => obtain ⟨o, _, _, _, e, _⟩ := x; exact Heap.lt_size e
  | ins C dx fs => obtain ⟨_, _, _, e, _⟩ := x; exact Heap.lt_size e
  | own y => obtain ⟨_, e⟩ := x; exact Heap.lt_size e
  | xd fs => obtain ⟨_, ⟨_, _, _, e, _⟩, _⟩ := x; exact Heap.lt_size e
  | rng lo hi => obtain ⟨_, _, _, e⟩ := x; exact Heap.lt_size e
  | frz ob u => obtain ⟨e, _⟩ := x; exact Heap.lt_size e
  | tbl ps => exact Heap.lt_size (show h.get? a = some _ from x)
  | met f y => exact Heap.lt_size (show h.get? a = some _ from x)
  | ext φ => obtain ⟨_, ⟨_, e⟩, _⟩ := x; exact Heap.lt_size e
theorem Paired.mapP {α β : Type} {F G : α → β → Prop} : ∀ {l₁ : List α} {l₂ : List β}, Paired F l₁ l₂ → (∀ a b, F a b → G a b) → Paired G l₁ l₂
  | _, _, .nil, _ => .nil
  | _, _, .cons r t, f => .cons (f _ _ r) (Paired.mapP t f)
theorem ObjOk.stay (x : ObjOk P w H h a o) (k : ∀ b u, (b = a ∨ H b = some (.own a)) → h.get? b = some u → h'.get? b = some u)
    (ho : ∀ b, H b = some (.own a) → H' b = some (.own a)) (ht : ∀ b xs, H b = some (.tup xs) → H' b = some (.tup xs)) : ObjOk P w H' h' a o := by
  induction o with
  | lst xs => obtain ⟨z, its, n, r, e⟩ := x; exact ⟨z, its, n, r, k _ _ (.inl rfl) e⟩
  | tup xs => obtain ⟨z, its, r, ob, e, c⟩ := x; exact ⟨z, its, r, ob, k _ _ (.inl rfl) e, c⟩
  | dK kvs => obtain ⟨z, y, vs, r, ob, es, ep, e, c⟩ := x; exact ⟨z, y, vs, r, ob, es, ep, k _ _ (.inl rfl) e, c⟩
  | dT kvs =>
    obtain ⟨z, y, xs, r, ob, es, ep, e, c⟩ := x
    exact ⟨z, y, xs, Paired.mapP r fun p q z => ⟨z.1, ht _ _ z.2.1, z.2.2⟩, ob, es, ep, k _ _ (.inl rfl) e, c⟩
  | set S n => obtain ⟨ob, es, ep, t, e, c⟩ := x; exact ⟨ob, es, ep, t, k _ _ (.inl rfl) e, c⟩
  | ins C dx fs =>
    obtain ⟨d, z, ne, e, mA, ⟨od, es, ep, e2, c⟩, r⟩ := x
    exact ⟨ho _ d, z, ne, k _ _ (.inl rfl) e, mA, ⟨od, es, ep, k _ _ (.inr d) e2, c⟩, r⟩
  | own y => obtain ⟨ob, e⟩ := x; exact ⟨ob, k _ _ (.inl rfl) e⟩
  | xd fs => obtain ⟨mA, ⟨od, es, ep, e, c⟩, r⟩ := x; exact ⟨mA, ⟨od, es, ep, k _ _ (.inl rfl) e, c⟩, r⟩
  | rng lo hi => obtain ⟨t, u, v, e⟩ := x; exact ⟨t, u, v, k _ _ (.inl rfl) e⟩
  | frz ob u ih => obtain ⟨e, q⟩ := x; exact ⟨k _ _ (.inl rfl) e, ih q⟩
  | tbl ps =>
    have e : h.get? a = some { cls := .none, data := .fields ps } := x
    show h'.get? a = some { cls := .none, data := .fields ps }
    exact k a _ (.inl rfl) e
  | met f y =>
    have e : h.get? a = some (PySem.W.methodObj (.ref f) (.ref y)) := x
    show h'.get? a = some (PySem.W.methodObj (.ref f) (.ref y))
    exact k a _ (.inl rfl) e
  | ext φ => obtain ⟨p, ⟨o, e⟩, st⟩ := x; exact ⟨st _ _ p fun o q => k _ _ (.inl rfl) q, ⟨o, k _ _ (.inl rfl) e⟩, st⟩
theorem HOk.lt (x : HOk P w H h) (e : H a = some o) : a < h.objs.size := (x a o e).lt
theorem HOk.fresh (x : HOk P w H h) (e : h.objs.size ≤ a) : H a = none := by
  cases q : H a with
  | none => rfl
  | some u => exact absurd (Nat.lt_of_lt_of_le (x.lt q) e) (Nat.lt_irrefl _)
theorem HOk.kept (x : HOk P w H h) (k : ∀ b u, h.get? b = some u → h'.get? b = some u) : HOk P w H h' := fun a o e =>
  (x a o e).stay (fun b u _ q => k b u q) (fun _ q => q) fun _ _ q => q
theorem HOk.laid (x : HOk P w H h) (k : ∀ b u, h.get? b = some u → h'.get? b = some u) (hp : h.objs.size ≤ a) (new : ObjOk P w (upd H a o) h' a o) : HOk P w (upd H a o) h' := fun b u e => by
  have hn := x.fresh hp
  by_cases hb : b = a
  · subst hb; rw [upd_same] at e; cases e; exact new
  · rw [upd_ne hb] at e
    exact (x b u e).stay (fun c v _ q => k c v q) (fun c q => by rw [upd_ne (ne_of_none q hn)]; exact q) fun c xs q => by rw [upd_ne (ne_of_none q hn)]; exact q
end

noncomputable def Rd (H : Hp) (a : Addr) (u : HO) : Prop := H a = some u ∨ ∃ o, H a = some (.frz o u)
theorem Rd.ok {P : Program} {w : World} {H : Hp} {h : Heap} {a : Addr} {u : HO} (r : Rd H a u) (x : HOk P w H h) : ObjOk P w H h a u := by
  rcases r with r | ⟨o, r⟩
  · exact x a u r
  · obtain ⟨_, q⟩ := x a _ r
    exact q
noncomputable def Mut : Option HO → Prop
  | some (.lst _) => True
  | some (.dK _) => True
  | some (.dT _) => True
  | some (.set _ _) => True
  | some (.ins _ _ _) => True
  | some (.ext _) => True
  | _ => False
section
variable {P : Program} {w : World} {H : Hp} {h h' : Heap} {x e : Addr} {o' : HO}
theorem HOk.write (ok : HOk P w H h) (mu : Mut (H x)) (he : e = x ∨ H e = some (.own x)) (k : ∀ b u, b ≠ e → h.get? b = some u → h'.get? b = some u) (heo : ∃ u, h'.get? e = some u)
    (new : ObjOk P w (upd H x o') h' x o') : HOk P w (upd H x o') h' := fun b u q => by
  have nown : ∀ c y, H c = some (.own y) → c ≠ x := fun c y r z => by subst z; rw [r] at mu; exact mu
  have ntup : ∀ c xs, H c = some (.tup xs) → c ≠ x := fun c xs r z => by subst z; rw [r] at mu; exact mu
  by_cases hb : b = x
  · subst hb; rw [upd_same] at q; cases q; exact new
  · rw [upd_ne hb] at q
    by_cases hbe : b = e
    · have q' : H b = some (.own x) := by
        rcases he with z | z
        · exact absurd (hbe.trans z) hb
        · rw [hbe]; exact z
      rw [q] at q'; cases q'
      obtain ⟨v, hv⟩ := heo
      exact ⟨v, by rw [hbe]; exact hv⟩
    · refine (ok b u q).stay (fun c v hc r => k c v ?_ r) (fun c r => by rw [upd_ne (nown c b r)]; exact r) fun c xs r => by rw [upd_ne (ntup c xs r)]; exact r
      rcases hc with rfl | hc
      · exact hbe
      · rintro rfl
        rcases he with z | z
        · exact nown c b hc z
        · rw [hc] at z; cases z; exact hb rfl
end

structure Un (fs ex : List Addr) (H H' : Hp) (h h' : Heap) : Prop where
  keep : ∀ b o, h.get? b = some o → H b = none → b ∉ fs → b ∉ ex → h'.get? b = some o
  slot : ∀ b o, h.get? b = some o → H b = none → b ∈ fs → b ∉ ex → ∃ sl, h'.get? b = some { o with slots := sl }
  free : ∀ b o, h.get? b = some o → H b = none → b ∉ ex → H' b = none
  there : ∀ b o, h.get? b = some o → b ∉ ex → ∃ o', h'.get? b = some o'
  tups : ∀ b xs, H b = some (.tup xs) → H' b = some (.tup xs)
  frzs : ∀ b o u, H b = some (.frz o u) → H' b = some (.frz o u)
  tbls : ∀ b ps, H b = some (.tbl ps) → ∃ more, H' b = some (.tbl (ps ++ more))
section
variable {fs fs' ex ex' : List Addr} {H H1 H2 : Hp} {h h1 h2 h' : Heap} {a x e : Addr} {o : HO}
theorem Un.any (u : Un fs ex H H1 h h1) {b : Addr} {ob : Obj} (q : h.get? b = some ob) (n : H b = none) (hx : b ∉ ex) : ∃ sl, h1.get? b = some { ob with slots := sl } := by
  by_cases hb : b ∈ fs
  · exact u.slot b ob q n hb hx
  · exact ⟨ob.slots, u.keep b ob q n hb hx⟩
theorem Un.kept (k : ∀ b u, h.get? b = some u → h'.get? b = some u) : Un fs ex H H h h' :=
  ⟨fun b ob q _ _ _ => k b ob q, fun b ob q _ _ _ => ⟨ob.slots, k b ob q⟩, fun _ _ _ n _ => n, fun b ob q _ => ⟨ob, k b ob q⟩, fun _ _ q => q, fun _ _ _ q => q, fun _ ps q => ⟨#[], by rw [q]; simp⟩⟩
theorem Un.refl : Un fs ex H H h h := Un.kept fun _ _ q => q
theorem Un.laid (k : ∀ b u, h.get? b = some u → h'.get? b = some u) (hp : h.objs.size ≤ a) (hn : H a = none) : Un fs ex H (upd H a o) h h' where
  keep := fun b u q _ _ _ => k b u q
  slot := fun b u q _ _ _ => ⟨u.slots, k b u q⟩
  free := fun b u q n _ => by rw [upd_ne (Nat.ne_of_lt (Nat.lt_of_lt_of_le (Heap.lt_size q) hp))]; exact n
  there := fun b u q _ => ⟨u, k b u q⟩
  tups := fun b xs q => by rw [upd_ne (ne_of_none q hn)]; exact q
  frzs := fun b u xs q => by rw [upd_ne (ne_of_none q hn)]; exact q
  tbls := fun b ps q => ⟨#[], by rw [upd_ne (ne_of_none q hn), q]; simp⟩
theorem Un.write (mu : Mut (H x)) (he : e = x ∨ H e = some (.own x)) (k : ∀ b u, b ≠ e → h.get? b = some u → h'.get? b = some u) (heo : ∃ u, h'.get? e = some u) : Un fs ex H (upd H x o) h h' := by
  have hx : ∀ b, H b = none → b ≠ x := fun b n z => by subst z; rw [n] at mu; exact mu
  have hb : ∀ b, H b = none → b ≠ e := fun b n z => by
    subst z
    rcases he with r | r
    · exact hx b n r
    · rw [n] at r; cases r
  have hm : ∀ b u, H b = some u → ¬ Mut (some u) → b ≠ x := fun b u q nm z => by subst z; rw [q] at mu; exact nm mu
  refine ⟨fun b u q n _ _ => k b u (hb b n) q, fun b u q n _ _ => ⟨u.slots, k b u (hb b n) q⟩, fun b u q n _ => by rw [upd_ne (hx b n)]; exact n, fun b u q _ => ?_,
    fun b xs q => by rw [upd_ne (hm b _ q fun z => z)]; exact q, fun b u xs q => by rw [upd_ne (hm b _ q fun z => z)]; exact q, fun b ps q => ⟨#[], by rw [upd_ne (hm b _ q fun z => z), q]; simp⟩⟩
  by_cases hbe : b = e
  · subst hbe; exact heo
  · exact ⟨u, k b u hbe q⟩
end

noncomputable def trk (h : Heap) (H : Hp) : List Addr := (List.range h.objs.size).filter fun a => (H a).isSome
noncomputable def hidT (h : Heap) (H : Hp) : Heap := PySem.W.hideAll h (trk h H)
theorem hidT_size (h : Heap) (H : Hp) : (hidT h H).objs.size = h.objs.size := PySem.W.hideAll_size _ _
theorem hidT_get {h : Heap} {H : Hp} {b : Addr} {o : Obj} (e : h.get? b = some o) (n : H b = none) : (hidT h H).get? b = some o :=
  PySem.W.hideAll_get _ e fun hm => by
    have q : (H b).isSome = true := (List.mem_filter.mp hm).2
    rw [n] at q; simp at q
theorem of_hidT {h : Heap} {H : Hp} {b : Addr} {o : Obj} (e : (hidT h H).get? b = some o) : h.get? b = some o ∧ H b = none := by
  have e' : h.get? b = some o := PySem.W.of_hideAll (trk h H) e
  refine ⟨e', ?_⟩
  cases q : H b with
  | none => rfl
  | some x =>
    have hm : b ∈ trk h H := List.mem_filter.mpr ⟨List.mem_range.mpr (Heap.lt_size e'), by simp [q]⟩
    have z : (hidT h H).get? b = none := PySem.W.hideAll_none (trk h H) hm
    rw [z] at e; cases e

noncomputable def allNews (g h : Heap) (L : Addr) : List (Addr × Obj) := (List.range h.objs.size).filterMap fun a => if a = L ∨ (g.get? a).isSome = true then none else (h.get? a).map fun o => (a, o)
noncomputable def rest (g h : Heap) (L d : Addr) : List (Addr × Obj) := (allNews g h L).filter fun p => decide (p.1 ≠ d)
end L2

namespace L2
open PySem PySem.Spec PyProof.Rows

structure Mod (K : PySem.W.Frag) (mg : Str → Option Value) (base : Heap) : Prop where
  kin : K.In base
  glob : base.Ns mainGlobals mg
  blt : ∃ mb, base.Ns builtinsNs mb ∧ ∀ x : Str, x ≠ "__name__" → mb x = bootBuiltins x
  nolimit : base.NoLimit

structure Cx where
  prog : Program
  w : World
  K : PySem.W.Frag
  mg : Str → Option Value
  base : Heap
  A : Around
  N : List Str
  s₀ : Shared
  H₀ : Hp
  env : Env
  outer : List Env
  stack : List Env
  ex : List Addr
  fn : Str → Bool
  calm : Bool
  pn : List (Addr × Obj)
  xe : Value → Shared → Prop
noncomputable def frs (l : List Env) : List Addr := l.filterMap (·.frame)
noncomputable abbrev Cx.fs (X : Cx) : List Addr := frs X.outer

noncomputable def Vis (sc : Scope) (x : Str) : Prop := sc.names.lookup x = some .local ∨ sc.names.lookup x = some .cell ∨ sc.names.lookup x = some .free
noncomputable def Loc (sc : Scope) (x : Str) : Prop := sc.names.lookup x = some .local ∨ sc.names.lookup x = some .cell
noncomputable def Look (env : Env) (h : Heap) (m : Str → Option Value) (x : Str) (u : Value) : Prop :=
  (env.kindOf x = some .local ∧ m x = some u) ∨ ((env.kindOf x = some .cell ∨ env.kindOf x = some .free) ∧ ∃ c, env.cells.lookup x = some c ∧ h.IsCell c (some u))

structure Cx.Ok (X : Cx) : Prop where
  mod : Mod X.K X.mg X.base
  kind : X.env.scope.kind = .function
  glob : X.env.globals = mainGlobals
  blt : X.env.builtins = builtinsNs
  above : X.s₀.heap.objs.size ≤ X.env.locals
  inj : ∀ x y c, X.env.cells.lookup x = some c → X.env.cells.lookup y = some c → x = y
  has : ∀ x, (X.env.kindOf x = some .cell ∨ X.env.kindOf x = some .free) → ∃ c, X.env.cells.lookup x = some c
  cab : ∀ x c, X.fn x = true → X.env.cells.lookup x = some c → X.s₀.heap.objs.size ≤ c
  hd : X.calm = true → X.A.handled = none
  frames : X.A.frames = some X.stack
  stk : X.stack = X.outer ∨ (X.stack = X.env :: X.outer ∧ X.env.frame = some X.env.locals)
  exf : ∀ b ∈ X.ex, b ≠ X.env.locals ∧ ∀ x c, X.env.cells.lookup x = some c → c ≠ b
  bs : ∀ b o, X.base.get? b = some o → X.s₀.heap.get? b = some o ∧ X.H₀ b = none
  bsz : X.base.objs.size ≤ X.s₀.heap.objs.size
  noex : ∀ b o, X.base.get? b = some o → b ∉ X.ex
  exfs : ∀ b ∈ X.ex, b ∉ X.fs
  funs : X.s₀.heap.FunFrames X.base X.outer
  frf : ∀ b ∈ X.fs, X.H₀ b = none

structure Inv (X : Cx) (pins : List (Addr × Obj)) (σ : List (Option V)) (H : Hp) (s : Shared) : Prop where
  ok : X.Ok
  os : s.os = X.s₀.os
  bare : AllBare s.gens
  base : Un X.fs X.ex X.H₀ H X.s₀.heap s.heap
  loc : ∃ m, s.heap.Ns X.env.locals m ∧ ∀ (i : Nat) (x : Str) (v : V), X.N[i]? = some x → σ[i]? = some (some v) → Vis X.env.scope x → ∃ u, RelV v u ∧ Look X.env s.heap m x u
  cell : ∀ x c, X.env.cells.lookup x = some c → ∃ v, s.heap.IsCell c v
  free : H X.env.locals = none
  freeC : ∀ x c, X.env.cells.lookup x = some c → H c = none
  pin : ∀ p ∈ X.pn ++ pins, s.heap.get? p.1 = some p.2 ∧ H p.1 = none ∧ p.1 ≠ X.env.locals ∧ p.1 ∉ X.fs ∧ ∀ v, p.2.data ≠ .cell v
  hok : HOk X.prog X.w H s.heap
  len : σ.length = X.N.length

section
variable {X : Cx} {pins : List (Addr × Obj)} {σ : List (Option V)} {H H' : Hp} {s : Shared} {h' : Heap}

theorem Cx.Ok.nofr (ok : X.Ok) {b : Addr} {o : Obj} (e : X.base.get? b = some o) : b ∉ X.fs := fun hb => by
  have := (ok.funs.mem hb).1
  rw [e] at this; cases this
theorem Inv.bs (I : Inv X pins σ H s) : ∀ b o, X.base.get? b = some o → s.heap.get? b = some o ∧ H b = none := fun b o e =>
  ⟨I.base.keep b o (I.ok.bs b o e).1 (I.ok.bs b o e).2 (I.ok.nofr e) (I.ok.noex b o e), I.base.free b o (I.ok.bs b o e).1 (I.ok.bs b o e).2 (I.ok.noex b o e)⟩
theorem Inv.bk (I : Inv X pins σ H s) : ∀ b o, X.base.get? b = some o → s.heap.get? b = some o := fun b o e => (I.bs b o e).1
theorem Inv.mod (I : Inv X pins σ H s) : Mod X.K X.mg X.base := I.ok.mod
theorem Inv.kIn (I : Inv X pins σ H s) : X.K.In s.heap := I.ok.mod.kin.keeps I.bk
theorem Inv.lt (I : Inv X pins σ H s) : X.env.locals < s.heap.objs.size := let ⟨_, hn, _⟩ := I.loc; hn.lt
theorem Inv.sz (I : Inv X pins σ H s) : X.s₀.heap.objs.size ≤ s.heap.objs.size := Nat.le_trans I.ok.above (Nat.le_of_lt I.lt)
theorem Inv.nofs (I : Inv X pins σ H s) {a : Addr} (h : s.heap.objs.size ≤ a) : a ∉ X.fs := fun hb => by
  obtain ⟨_, o, ho, _⟩ := I.ok.funs.mem hb
  exact absurd (Nat.lt_of_lt_of_le (Heap.lt_size ho) (Nat.le_trans I.sz h)) (Nat.lt_irrefl _)
theorem Inv.cne (I : Inv X pins σ H s) : ∀ x c, X.env.cells.lookup x = some c → c ≠ X.env.locals := fun x c e z => by
  obtain ⟨v, o, ho, hd⟩ := I.cell x c e
  obtain ⟨m, ⟨o', es, ep, ho', hd', _⟩, _⟩ := I.loc
  rw [z, ho'] at ho; cases ho; rw [hd'] at hd; cases hd
theorem Inv.funs (I : Inv X pins σ H s) : s.heap.FunFrames X.base X.outer := by
  have all : ∀ (l : List Env), (∀ b ∈ frs l, b ∈ X.fs) → X.s₀.heap.FunFrames X.base l → s.heap.FunFrames X.base l := by
    intro l
    induction l with
    | nil => intro _ _; trivial
    | cons env r ih =>
      intro hs hl
      obtain ⟨hk, ⟨L, o, hf, hn, ho, hd⟩, hr⟩ := hl
      have hL : L ∈ X.fs := hs L (by unfold frs; rw [List.filterMap_cons, hf]; exact List.mem_cons_self)
      obtain ⟨sl, e⟩ := I.base.slot L o ho (I.ok.frf L hL) hL fun z => I.ok.exfs L z hL
      exact ⟨hk, ⟨L, _, hf, hn, e, hd⟩, ih (fun b hb => hs b (by unfold frs; rw [List.filterMap_cons, hf]; exact List.mem_cons_of_mem _ hb)) hr⟩
  exact all X.outer (fun _ hb => hb) I.ok.funs

theorem Inv.stack (I : Inv X pins σ H s) : s.heap.FunFrames X.base X.stack := by
  rcases I.ok.stk with e | ⟨e, hf⟩
  · rw [e]; exact I.funs
  · rw [e]
    obtain ⟨m, hn, _⟩ := I.loc
    refine .cons (by rw [I.ok.kind]; decide) hf hn ?_ I.funs
    exact Heap.get?_none_of_le (Nat.le_trans I.ok.bsz I.ok.above)
theorem Inv.stkSub (I : Inv X pins σ H s) : ∀ b ∈ frs X.stack, b ∈ X.env.locals :: X.fs := fun b hb => by
  rcases I.ok.stk with e | ⟨e, hf⟩
  · rw [e] at hb; exact List.mem_cons_of_mem _ hb
  · rw [e] at hb
    unfold frs at hb
    rw [List.filterMap_cons, hf] at hb
    exact hb
theorem Inv.stkFree (I : Inv X pins σ H s) : ∀ b ∈ frs X.stack, H b = none := fun b hb => by
  rcases List.mem_cons.mp (I.stkSub b hb) with e | hb
  · rw [e]; exact I.free
  · obtain ⟨_, o, ho, _⟩ := I.ok.funs.mem hb
    exact I.base.free b o ho (I.ok.frf b hb) fun z => I.ok.exfs b z hb

theorem Inv.step {g' : Array GenState} {t' : Nat} {d' : Drawn} {ch : List Addr} (I : Inv X pins σ H s)
    (hch : ∀ b ∈ ch, (b ∈ X.ex ∨ X.s₀.heap.objs.size ≤ b) ∧ b ≠ X.env.locals ∧ (∀ x c, X.env.cells.lookup x = some c → c ≠ b) ∧ ∀ p ∈ X.pn ++ pins, p.1 ≠ b)
    (keep : ∀ b o, b ≠ X.env.locals → b ∉ X.fs → b ∉ ch → s.heap.get? b = some o → H b = none → h'.get? b = some o)
    (slot : ∀ b o, b ≠ X.env.locals → b ∈ X.fs → b ∉ ch → s.heap.get? b = some o → H b = none → ∃ sl, h'.get? b = some { o with slots := sl }) (free : ∀ b o, b ∉ ch → s.heap.get? b = some o → H b = none → H' b = none)
    (there : ∀ b o, b ∉ ch → s.heap.get? b = some o → ∃ o', h'.get? b = some o')
    (tups : ∀ b xs, H b = some (.tup xs) → H' b = some (.tup xs)) (frzs : ∀ b o u, H b = some (.frz o u) → H' b = some (.frz o u)) (tbls : ∀ b ps, H b = some (.tbl ps) → ∃ more, H' b = some (.tbl (ps ++ more)))
    (ns : ∀ m, s.heap.Ns X.env.locals m → h'.Ns X.env.locals m) (hok : HOk X.prog X.w H' h') (hg : AllBare g') :
    Inv X pins σ H' { s with heap := h', gens := g', drawn := d', toks := t' } := by
  have neL : ∀ b o, X.s₀.heap.get? b = some o → b ≠ X.env.locals := fun b o e => Nat.ne_of_lt (Nat.lt_of_lt_of_le (Heap.lt_size e) I.ok.above)
  have neC : ∀ b o, X.s₀.heap.get? b = some o → b ∉ X.ex → b ∉ ch := fun b o e hx hb => by
    rcases (hch b hb).1 with z | z
    · exact hx z
    · exact absurd (Nat.lt_of_lt_of_le (Heap.lt_size e) z) (Nat.lt_irrefl _)
  have cellK : ∀ x c, X.env.cells.lookup x = some c → ∀ v, s.heap.IsCell c v → h'.IsCell c v := fun x c e v ⟨o, ho, hd⟩ => by
    have nch : c ∉ ch := fun z => (hch c z).2.2.1 x c e rfl
    by_cases hc : c ∈ X.fs
    · obtain ⟨sl, q⟩ := slot c o (I.cne x c e) hc nch ho (I.freeC x c e)
      exact ⟨_, q, hd⟩
    · exact ⟨o, keep c o (I.cne x c e) hc nch ho (I.freeC x c e), hd⟩
  refine ⟨I.ok, I.os, hg, ⟨fun b o e n hb hx => ?_, fun b o e n hb hx => ?_, fun b o e n hx => ?_, fun b o e hx => ?_, fun b xs e => tups b xs (I.base.tups b xs e), fun b o xs e => frzs b o xs (I.base.frzs b o xs e), fun b ps e => ?_⟩, ?_, fun x c e => ?_, ?_, fun x c e => ?_, fun p hp => ?_, hok, I.len⟩
  · exact keep b o (neL b o e) hb (neC b o e hx) (I.base.keep b o e n hb hx) (I.base.free b o e n hx)
  · obtain ⟨sl, e1⟩ := I.base.slot b o e n hb hx
    obtain ⟨sl', e2⟩ := slot b _ (neL b o e) hb (neC b o e hx) e1 (I.base.free b o e n hx)
    exact ⟨sl', e2⟩
  · obtain ⟨o', e1⟩ := I.base.there b o e hx
    exact free b o' (neC b o e hx) e1 (I.base.free b o e n hx)
  · obtain ⟨o', e1⟩ := I.base.there b o e hx
    exact there b o' (neC b o e hx) e1
  · obtain ⟨m1, e1⟩ := I.base.tbls b ps e
    obtain ⟨m2, e2⟩ := tbls b _ e1
    exact ⟨m1 ++ m2, by rw [e2, Array.append_assoc]⟩
  · obtain ⟨m, hn, hl⟩ := I.loc
    refine ⟨m, ns m hn, fun i x v e1 e2 e3 => ?_⟩
    obtain ⟨u, r, l⟩ := hl i x v e1 e2 e3
    refine ⟨u, r, ?_⟩
    rcases l with l | ⟨k, c, e, z⟩
    · exact .inl l
    · exact .inr ⟨k, c, e, cellK x c e _ z⟩
  · obtain ⟨v, z⟩ := I.cell x c e
    exact ⟨v, cellK x c e v z⟩
  · obtain ⟨m, ⟨o, _, _, ho, _⟩, _⟩ := I.loc
    exact free _ o (fun z => (hch _ z).2.1 rfl) ho I.free
  · obtain ⟨v, o, ho, hd⟩ := I.cell x c e
    exact free c o (fun z => (hch c z).2.2.1 x c e rfl) ho (I.freeC x c e)
  · obtain ⟨e, n, ne, nf, d⟩ := I.pin p hp
    have nch : p.1 ∉ ch := fun z => (hch p.1 z).2.2.2 p hp rfl
    exact ⟨keep p.1 p.2 ne nf nch e n, free p.1 p.2 nch e n, ne, nf, d⟩
theorem Inv.un {t' : Nat} (I : Inv X pins σ H s) (u : Un X.fs [] H H' s.heap h') (hok : HOk X.prog X.w H' h') : Inv X pins σ H' { s with heap := h', toks := t' } := by
  obtain ⟨m, ⟨o, es, ep, ho, r⟩, _⟩ := id I.loc
  obtain ⟨sl, hL⟩ := u.any ho I.free (by simp)
  exact I.step (g' := s.gens) (d' := s.drawn) (ch := []) (fun _ z => nomatch z) (fun b o _ hb _ e n => u.keep b o e n hb (by simp)) (fun b o _ hb _ e n => u.slot b o e n hb (by simp)) (fun b o _ e n => u.free b o e n (by simp)) (fun b o _ e => u.there b o e (by simp)) u.tups u.frzs u.tbls (fun m' hm => by
    obtain ⟨o', es', ep', ho', r'⟩ := hm
    rw [ho] at ho'; cases ho'
    exact ⟨_, es', ep', hL, r'⟩) hok I.bare
theorem Inv.call {g' : Array GenState} {t' : Nat} {d' : Drawn} {ch : List Addr} (I : Inv X pins σ H s) (u : Un (frs X.stack) ch H H' s.heap h') (hok : HOk X.prog X.w H' h') (hg : AllBare g')
    (hch : ∀ b ∈ ch, (b ∈ X.ex ∨ X.s₀.heap.objs.size ≤ b) ∧ b ≠ X.env.locals ∧ (∀ x c, X.env.cells.lookup x = some c → c ≠ b) ∧ ∀ p ∈ X.pn ++ pins, p.1 ≠ b) :
    Inv X pins σ H' { s with heap := h', gens := g', drawn := d', toks := t' } := by
  obtain ⟨m, ⟨o, es, ep, ho, r⟩, _⟩ := id I.loc
  obtain ⟨sl, hL⟩ := u.any ho I.free fun z => (hch _ z).2.1 rfl
  exact I.step (ch := ch) hch (fun b o hL hb hc e n => u.keep b o e n (fun z => (List.mem_cons.mp (I.stkSub b z)).elim hL hb) hc) (fun b o _ _ hc e n => u.any e n hc) (fun b o hc e n => u.free b o e n hc) (fun b o hc e => u.there b o e hc) u.tups u.frzs u.tbls (fun m' hm => by
    obtain ⟨o', es', ep', ho', r'⟩ := hm
    rw [ho] at ho'; cases ho'
    exact ⟨_, es', ep', hL, r'⟩) hok hg
theorem Inv.turned {t' : Nat} {it : Addr} (I : Inv X pins σ H s) (k : ∀ b o, b ≠ it → s.heap.get? b = some o → h'.get? b = some o) (hn : H it = none) (hL : it ≠ X.env.locals)
    (h1 : it ∈ X.ex ∨ X.s₀.heap.objs.size ≤ it) (h2 : ∀ x c, X.env.cells.lookup x = some c → c ≠ it) (h3 : ∀ p ∈ X.pn ++ pins, p.1 ≠ it) : Inv X pins σ H { s with heap := h', toks := t' } := by
  have nit : ∀ b u, H b = some u → b ≠ it := fun b u e z => by rw [z, hn] at e; cases e
  refine I.step (g' := s.gens) (d' := s.drawn) (ch := [it]) (fun b hb => ?_) (fun b o _ _ hc e _ => k b o (fun z => hc (by simp [z])) e) (fun b o _ _ hc e _ => ⟨o.slots, k b o (fun z => hc (by simp [z])) e⟩) (fun _ _ _ _ n => n)
    (fun b o hc e => ⟨o, k b o (fun z => hc (by simp [z])) e⟩) (fun _ _ e => e) (fun _ _ _ e => e) (fun b ps e => ⟨#[], by rw [e]; simp⟩) (fun m hm => ?_) (fun b u e => ?_) I.bare
  · have e : b = it := by simpa using hb
    subst e
    exact ⟨h1, hL, h2, h3⟩
  · obtain ⟨o, es, ep, ho, r⟩ := hm
    exact ⟨o, es, ep, k _ o (Ne.symm hL) ho, r⟩
  · refine (I.hok b u e).stay (fun c v hc q => k c v ?_ q) (fun _ q => q) fun _ _ q => q
    rcases hc with z | z
    · rw [z]; exact nit b u e
    · exact nit c _ z
theorem Inv.tok (I : Inv X pins σ H s) (t : Nat) : Inv X pins σ H { s with toks := t } := I.un (h' := s.heap) (t' := t) Un.refl I.hok
theorem Inv.kept {t' : Nat} (I : Inv X pins σ H s) (k : ∀ b u, s.heap.get? b = some u → h'.get? b = some u) : Inv X pins σ H { s with heap := h', toks := t' } := I.un (Un.kept k) (I.hok.kept k)
theorem Inv.laid {a : Addr} {o : HO} {t' : Nat} (I : Inv X pins σ H s) (k : ∀ b u, s.heap.get? b = some u → h'.get? b = some u) (hp : s.heap.objs.size ≤ a) (new : ObjOk X.prog X.w (upd H a o) h' a o) :
    Inv X pins σ (upd H a o) { s with heap := h', toks := t' } := I.un (Un.laid k hp (I.hok.fresh hp)) (I.hok.laid k hp new)
theorem Inv.write {x e : Addr} {o : HO} {t' : Nat} (I : Inv X pins σ H s) (mu : Mut (H x)) (he : e = x ∨ H e = some (.own x)) (k : ∀ b u, b ≠ e → s.heap.get? b = some u → h'.get? b = some u) (heo : ∃ u, h'.get? e = some u)
    (new : ObjOk X.prog X.w (upd H x o) h' x o) : Inv X pins σ (upd H x o) { s with heap := h', toks := t' } := I.un (Un.write mu he k heo) (I.hok.write mu he k heo new)
theorem Inv.pins_of {pins' : List (Addr × Obj)} (I : Inv X pins σ H s) (h : ∀ p ∈ pins', s.heap.get? p.1 = some p.2 ∧ H p.1 = none ∧ p.1 ≠ X.env.locals ∧ p.1 ∉ X.fs ∧ ∀ v, p.2.data ≠ .cell v) : Inv X pins' σ H s :=
  ⟨I.ok, I.os, I.bare, I.base, I.loc, I.cell, I.free, I.freeC, fun p hp => (List.mem_append.mp hp).elim (fun z => I.pin p (List.mem_append_left _ z)) (h p), I.hok, I.len⟩

theorem nodup_ix {N : List Str} (hN : N.Nodup) {i j : Nat} {x : Str} (a : N[i]? = some x) (b : N[j]? = some x) : i = j := by
  obtain ⟨h1, e1⟩ := List.getElem?_eq_some_iff.mp a
  obtain ⟨h2, e2⟩ := List.getElem?_eq_some_iff.mp b
  exact (List.getElem_inj hN).mp (e1.trans e2.symm)

theorem store_ok2 {M : Model} {A : Around} {E : Value → Shared → Prop} {i : Nat} {x : Str} {v : V} {u : Value} {Q : Unit → Shared → Prop} (I : Inv X pins σ H s) (hN : X.N.Nodup) (hi : X.N[i]? = some x) (hx : Loc X.env.scope x) (r : RelV v u)
    (h : ∀ s', Inv X pins (σ.set i (some v)) H s' → (∃ a, Heap.SameBut a s.heap s'.heap ∧ (a = X.env.locals ∨ X.env.cells.lookup x = some a)) → Q () s') (hf : X.fn x = true ∨ X.env.scope.names.lookup x = some .local := by first | exact .inl rfl | exact .inr rfl | assumption) : wpAny M A (storeName X.env x u) Q E s := by
  obtain ⟨m, hn, hl⟩ := id I.loc
  have hcls : (X.env.scope.kind == .class || (X.env.scope.kind == .module && X.env.locals != X.env.globals)) = false := by rw [I.ok.kind]; rfl
  have hiσ : i < σ.length := by rw [I.len]; exact (List.getElem?_eq_some_iff.mp hi).1
  have cne := I.cne
  have tracked : ∀ {a : Addr} {h' : Heap}, (∃ o, s.heap.get? a = some o ∧ H a = none) → Heap.SameBut a s.heap h' → HOk X.prog X.w H h' := fun {a h'} ha hs b ob e => by
    obtain ⟨_, _, hfree⟩ := ha
    refine (I.hok b ob e).stay (fun c w' hc q => (hs.2 c ?_).trans q) (fun _ q => q) fun _ _ q => q
    rintro rfl
    rcases hc with rfl | hc
    · rw [hfree] at e; cases e
    · rw [hfree] at hc; cases hc
  rcases hx with hk | hk
  · refine wpAny_storeName_local hk hn (fun h' hn' hs => ?_) hcls
    obtain ⟨oL, _, _, hoL, _⟩ := id hn
    refine h _ ⟨I.ok, I.os, I.bare, ⟨fun b o e n hb hx => ?_, fun b o e n hb hx => ?_, I.base.free, fun b o e hx => ?_, I.base.tups, I.base.frzs, I.base.tbls⟩, ⟨_, hn', fun j y v' e1 e2 e3 => ?_⟩, fun y c e => ?_, I.free, I.freeC, fun p hp => ?_, tracked ⟨oL, hoL, I.free⟩ hs, by simpa using I.len⟩ ⟨_, hs, .inl rfl⟩
    · exact (hs.2 b (Nat.ne_of_lt (Nat.lt_of_lt_of_le (Heap.lt_size e) I.ok.above))).trans (I.base.keep b o e n hb hx)
    · obtain ⟨sl, e1⟩ := I.base.slot b o e n hb hx
      exact ⟨sl, (hs.2 b (Nat.ne_of_lt (Nat.lt_of_lt_of_le (Heap.lt_size e) I.ok.above))).trans e1⟩
    · obtain ⟨o', e1⟩ := I.base.there b o e hx
      exact ⟨o', (hs.2 b (Nat.ne_of_lt (Nat.lt_of_lt_of_le (Heap.lt_size e) I.ok.above))).trans e1⟩
    · by_cases hj : j = i
      · subst hj
        rw [hi] at e1; cases e1
        rw [List.getElem?_set_self hiσ] at e2
        cases e2
        exact ⟨u, r, .inl ⟨hk, by simp⟩⟩
      · rw [List.getElem?_set_ne (Ne.symm hj)] at e2
        obtain ⟨u', r', q⟩ := hl j y v' e1 e2 e3
        refine ⟨u', r', ?_⟩
        rcases q with ⟨k, e⟩ | ⟨k, c, e, z⟩
        · refine .inl ⟨k, ?_⟩
          have : y ≠ x := fun e => hj (nodup_ix hN e1 (e ▸ hi))
          simp [this, e]
        · exact .inr ⟨k, c, e, z.sameBut hs (cne y c e)⟩
    · obtain ⟨w', z⟩ := I.cell y c e
      exact ⟨w', z.sameBut hs (cne y c e)⟩
    · obtain ⟨e, n, ne, nf, d⟩ := I.pin p hp
      exact ⟨(hs.2 p.1 ne).trans e, n, ne, nf, d⟩
  · have hfn : X.fn x = true := by
      rcases hf with z | z
      · exact z
      · rw [z] at hk; cases hk
    obtain ⟨c, hc⟩ := I.ok.has x (.inl hk)
    obtain ⟨w', z⟩ := I.cell x c hc
    refine wpAny_storeName_cell I.ok.kind hk hc z (fun h' hc' hs => ?_)
    obtain ⟨oc, hoc, hocd⟩ := id z
    refine h { s with heap := h' } ⟨I.ok, I.os, I.bare, ⟨fun b o e n hb hx => ?_, fun b o e n hb hx => ?_, I.base.free, fun b o e hx => ?_, I.base.tups, I.base.frzs, I.base.tbls⟩, ⟨m, hn.sameBut hs (Ne.symm (cne x c hc)), fun j y v' e1 e2 e3 => ?_⟩, fun y c' e => ?_, I.free, I.freeC, fun p hp => ?_, tracked ⟨oc, hoc, I.freeC x c hc⟩ hs, by simpa using I.len⟩ ⟨c, hs, .inr hc⟩
    · exact (hs.2 b (Nat.ne_of_lt (Nat.lt_of_lt_of_le (Heap.lt_size e) (I.ok.cab x c hfn hc)))).trans (I.base.keep b o e n hb hx)
    · obtain ⟨sl, e1⟩ := I.base.slot b o e n hb hx
      exact ⟨sl, (hs.2 b (Nat.ne_of_lt (Nat.lt_of_lt_of_le (Heap.lt_size e) (I.ok.cab x c hfn hc)))).trans e1⟩
    · obtain ⟨o', e1⟩ := I.base.there b o e hx
      exact ⟨o', (hs.2 b (Nat.ne_of_lt (Nat.lt_of_lt_of_le (Heap.lt_size e) (I.ok.cab x c hfn hc)))).trans e1⟩
    · by_cases hj : j = i
      · subst hj
        rw [hi] at e1; cases e1
        rw [List.getElem?_set_self hiσ] at e2
        cases e2
        exact ⟨u, r, .inr ⟨.inl hk, c, hc, hc'⟩⟩
      · rw [List.getElem?_set_ne (Ne.symm hj)] at e2
        obtain ⟨u', r', q⟩ := hl j y v' e1 e2 e3
        refine ⟨u', r', ?_⟩
        rcases q with q | ⟨k, c', e, z'⟩
        · exact .inl q
        · refine .inr ⟨k, c', e, z'.sameBut hs ?_⟩
          rintro rfl
          exact hj (nodup_ix hN e1 (I.ok.inj _ _ _ e hc ▸ hi))
    · by_cases hcc : c' = c
      · subst hcc; exact ⟨_, hc'⟩
      · obtain ⟨w2, z2⟩ := I.cell y c' e
        exact ⟨w2, z2.sameBut hs hcc⟩
    · obtain ⟨e, n, ne, nf, d⟩ := I.pin p hp
      refine ⟨(hs.2 p.1 ?_).trans e, n, ne, nf, d⟩
      intro q
      rw [q, hoc] at e
      have q' : oc = p.2 := Option.some.inj e
      exact d w' (by rw [← q']; exact hocd)
theorem store_ok {M : Model} {A : Around} {E : Value → Shared → Prop} {i : Nat} {x : Str} {v : V} {u : Value} {Q : Unit → Shared → Prop} (I : Inv X pins σ H s) (hN : X.N.Nodup) (hi : X.N[i]? = some x) (hx : Loc X.env.scope x) (r : RelV v u)
    (h : ∀ s', Inv X pins (σ.set i (some v)) H s' → Q () s') (hf : X.fn x = true ∨ X.env.scope.names.lookup x = some .local := by first | exact .inl rfl | exact .inr rfl | assumption) : wpAny M A (storeName X.env x u) Q E s :=
  store_ok2 I hN hi hx r (fun s' I' _ => h s' I') hf
theorem Inv.call' {s' : Shared} {ch : List Addr} (I : Inv X pins σ H s) (ho : s'.os = s.os) (u : Un (frs X.stack) ch H H' s.heap s'.heap) (hok : HOk X.prog X.w H' s'.heap) (hg : AllBare s'.gens)
    (hch : ∀ b ∈ ch, (b ∈ X.ex ∨ X.s₀.heap.objs.size ≤ b) ∧ b ≠ X.env.locals ∧ (∀ x c, X.env.cells.lookup x = some c → c ≠ b) ∧ ∀ p ∈ X.pn ++ pins, p.1 ≠ b) : Inv X pins σ H' s' := by
  obtain ⟨h', g', d', t', o'⟩ := s'
  have e : o' = s.os := ho
  subst e
  exact I.call (g' := g') (t' := t') (d' := d') u hok hg hch
end

noncomputable abbrev XK := Value → Option Addr → Hp → Prop
noncomputable abbrev St := List (Option V)
noncomputable abbrev VK := V → Hp → Prop
noncomputable abbrev TE := St → Hp → VK → Prop
noncomputable abbrev TT := St → Hp → (Bool → Hp → Prop) → Prop
noncomputable abbrev TA := St → Hp → (List V → Hp → Prop) → Prop
structure Ends where
  nx : St → Hp → Prop
  rt : VK
  bk : St → Hp → Prop := fun _ _ => False
  ct : St → Hp → Prop := fun _ _ => False
noncomputable abbrev TS := Ends → St → Hp → Prop

noncomputable def EP (X : Cx) (pins : List (Addr × Obj)) (σ : St) (Q : VK) (u : Value) (s' : Shared) : Prop := ∃ v H', Inv X pins σ H' s' ∧ RelV v u ∧ Q v H'
noncomputable def TP (X : Cx) (pins : List (Addr × Obj)) (σ : St) (Q : Bool → Hp → Prop) (b : Bool) (s' : Shared) : Prop := ∃ H', Inv X pins σ H' s' ∧ Q b H'
noncomputable def AP (X : Cx) (pins : List (Addr × Obj)) (σ : St) (Q : List V → Hp → Prop) (us : List Value) (s' : Shared) : Prop := ∃ vs H', Inv X pins σ H' s' ∧ Vals vs us ∧ Q vs H'
noncomputable def SP (X : Cx) (pins : List (Addr × Obj)) (D : Ends) (f : Flow) (s' : Shared) : Prop :=
  match f with
  | .next => ∃ σ' H', Inv X pins σ' H' s' ∧ D.nx σ' H'
  | .brk => ∃ σ' H', Inv X pins σ' H' s' ∧ D.bk σ' H'
  | .cont => ∃ σ' H', Inv X pins σ' H' s' ∧ D.ct σ' H'
  | .ret u => ∃ v σ' H', Inv X pins σ' H' s' ∧ RelV v u ∧ D.rt v H'

noncomputable def PE (X : Cx) (e : Expr) (t : TE) : Prop :=
  ∀ (pins : List (Addr × Obj)) (s : Shared) (σ : St) (H : Hp) (Q : VK), Inv X pins σ H s → t σ H Q → wpAny (model X.prog X.w) X.A (eval e X.env) (EP X pins σ Q) X.xe s
noncomputable def PT (X : Cx) (e : Expr) (t : TT) : Prop :=
  ∀ (pins : List (Addr × Obj)) (s : Shared) (σ : St) (H : Hp) (Q : Bool → Hp → Prop), Inv X pins σ H s → t σ H Q → wpAny (model X.prog X.w) X.A (isTrue e X.env (eval e X.env)) (TP X pins σ Q) X.xe s
noncomputable def PW (X : Cx) (e : Expr) (t : TT) : Prop :=
  ∀ (whole : Sem Value) (pins : List (Addr × Obj)) (s : Shared) (σ : St) (H : Hp) (Q : Bool → Hp → Prop), Inv X pins σ H s → t σ H Q → wpAny (model X.prog X.w) X.A (isTrue e X.env whole) (TP X pins σ Q) X.xe s
theorem PW.pt {X : Cx} {e : Expr} {t : TT} (h : PW X e t) : PT X e t := h _
noncomputable def PA (X : Cx) (es : List Expr) (t : TA) : Prop :=
  ∀ (pos : Pos) (pins : List (Addr × Obj)) (s : Shared) (σ : St) (H : Hp) (Q : List V → Hp → Prop), Inv X pins σ H s → t σ H Q → wpAny (model X.prog X.w) X.A (spliced (backTo pos (starEach es X.env))) (AP X pins σ Q) X.xe s
noncomputable def PS (X : Cx) (st : Stmt) (t : TS) : Prop :=
  ∀ (pins : List (Addr × Obj)) (s : Shared) (σ : St) (H : Hp) (D : Ends), Inv X pins σ H s → t D σ H → wpAny (model X.prog X.w) X.A (exec st X.env) (SP X pins D) X.xe s
noncomputable def PSs (X : Cx) (st : List Stmt) (t : TS) : Prop :=
  ∀ (pins : List (Addr × Obj)) (s : Shared) (σ : St) (H : Hp) (D : Ends), Inv X pins σ H s → t D σ H → wpAny (model X.prog X.w) X.A (execs st X.env) (SP X pins D) X.xe s
theorem thn {α : Type} {t : Sem α} {Q Q' : α → Shared → Prop} {M : Model} {A : Around} {E : Value → Shared → Prop} {s : Shared} (h : wpAny M A t Q E s) (hQ : ∀ a s, Q a s → Q' a s) : wpAny M A t Q' E s := wpAny_mono h hQ fun _ _ x => x
end L2

namespace L2
open PySem PySem.Spec PyProof.Rows
section
variable {X : Cx}


inductive I_tVar (i : Nat) (σ : St) (H : Hp) (Q : VK) : Prop
  | mk : ∀ v, (σ[i]? = some (some v)) → (Q v H) → I_tVar i σ H Q
noncomputable def tVar (i : Nat) : TE := fun σ H Q => I_tVar i σ H Q
noncomputable def tC (v : V) : TE := fun _ H Q => Q v H
theorem pe_var {i : Nat} {x : Str} {pos : Pos} (hN : X.N[i]? = some x) (hv : Vis X.env.scope x) (hd : (x == ("__debug__" : Str)) = false := by decide) (hcd : (x == ("__classdict__" : Str)) = false := by decide) : PE X (.Name x pos) (tVar i) := by
  intro pins s σ H Q I h
  obtain ⟨v, e, h⟩ := h
  obtain ⟨m, hn, hl⟩ := I.loc
  obtain ⟨u, r, l⟩ := hl i x v hN e hv
  have fin : EP X pins σ Q u s := ⟨v, H, I, r, h⟩
  rcases l with ⟨hk, hm⟩ | ⟨hk, c, hc, hcell⟩
  · exact wpAny_Name (wpAny_loadName_local I.ok.kind hk hn hm fin) hd
  · rcases hk with hk | hk
    · exact wpAny_Name (wpAny_loadName_cell I.ok.kind hk hc hcell fin) hd
    · exact wpAny_Name (wpAny_loadName_free I.ok.kind hk hc hcell fin hcd) hd
theorem pe_int {i j pos} : PE X (.Constant (.int i) j pos) (tC (.int i)) := fun _ _ _ H _ I h => wpAny_Constant_int ⟨.int i, H, I.tok _, ⟨_, rfl⟩, h⟩
theorem pe_bl {b j pos} : PE X (.Constant (.bool b) j pos) (tC (.bl b)) := fun _ _ _ H _ I h => Constant_bool ⟨.bl b, H, I, rfl, h⟩
theorem pe_non {j pos} : PE X (.Constant .none j pos) (tC .non) := fun _ _ _ H _ I h => Constant_none ⟨.non, H, I, rfl, h⟩
theorem pe_str {x j pos} : PE X (.Constant (.str x) j pos) (tC (.str x)) := fun _ _ _ H _ I h => Calls.Constant_str ⟨.str x, H, I.tok _, ⟨_, rfl⟩, h⟩

noncomputable def Gl (X : Cx) (x : Str) : Prop := X.env.kindOf x = some .globalImplicit
theorem ld_glob {E : Value → Shared → Prop} {pins : List (Addr × Obj)} {s : Shared} {σ : St} {H : Hp} {x : Str} {u : Value} {pos : Pos} {Q : Value → Shared → Prop} (I : Inv X pins σ H s) (hg : Gl X x) (hm : X.mg x = some u) (h : Q u s)
    (hd : (x == ("__debug__" : Str)) = false := by decide) : wpAny (model X.prog X.w) X.A (eval (.Name x pos) X.env) Q E s :=
  Calls.Name_function_global I.ok.kind hg (Calls.loadGlobal_global (by rw [I.ok.glob]; exact I.mod.glob.keeps I.bk) hm h) hd
theorem ld_blt {E : Value → Shared → Prop} {pins : List (Addr × Obj)} {s : Shared} {σ : St} {H : Hp} {x : Str} {u : Value} {pos : Pos} {Q : Value → Shared → Prop} (I : Inv X pins σ H s) (hg : Gl X x) (hm : X.mg x = none) (hv : bootBuiltins x = some u) (h : Q u s)
    (hn : x ≠ "__name__" := by decide) (hd : (x == ("__debug__" : Str)) = false := by decide) : wpAny (model X.prog X.w) X.A (eval (.Name x pos) X.env) Q E s := by
  obtain ⟨mb, h1, h2⟩ := I.mod.blt
  exact Calls.Name_function_global I.ok.kind hg (Calls.loadGlobal_builtin (by rw [I.ok.glob]; exact I.mod.glob.keeps I.bk) hm (by rw [I.ok.blt]; exact h1.keeps I.bk) ((h2 x hn).trans hv) h) hd
theorem pe_glob {x : Str} {v : V} {u : Value} {pos : Pos} (hg : Gl X x) (hm : X.mg x = some u) (r : RelV v u) (hd : (x == ("__debug__" : Str)) = false := by decide) : PE X (.Name x pos) (tC v) :=
  fun _ _ _ H _ I h => ld_glob I hg hm ⟨v, H, I, r, h⟩ hd
theorem pe_bltn {x : Str} {v : V} {u : Value} {pos : Pos} (hg : Gl X x) (hm : X.mg x = none) (hv : bootBuiltins x = some u) (r : RelV v u) (hn : x ≠ "__name__" := by decide) (hd : (x == ("__debug__" : Str)) = false := by decide) : PE X (.Name x pos) (tC v) :=
  fun _ _ _ H _ I h => ld_blt I hg hm hv ⟨v, H, I, r, h⟩ hn hd

noncomputable def t2I (ta tb : TE) (k : Int → Int → Hp → Prop) : St → Hp → Prop := fun σ H => ta σ H fun x H1 => tb σ H1 fun y H2 => ∃ i j, x = .int i ∧ y = .int j ∧ k i j H2
noncomputable def tAdd (ta tb : TE) : TE := fun σ H Q => t2I ta tb (fun i j H2 => Q (.int (i + j)) H2) σ H
noncomputable def tSub (ta tb : TE) : TE := fun σ H Q => t2I ta tb (fun i j H2 => Q (.int (i - j)) H2) σ H
noncomputable def tMul (ta tb : TE) : TE := fun σ H Q => t2I ta tb (fun i j H2 => (-(2 ^ 64) < i ∧ i < 2 ^ 64) ∧ Q (.int (i * j)) H2) σ H
variable {a b : Expr} {ta tb : TE} {pos : Pos}

noncomputable def PC (X : Cx) (op : CmpOp) (a b : Expr) (t : TE) : Prop :=
  ∀ (pins : List (Addr × Obj)) (s : Shared) (σ : St) (H : Hp) (Q : VK), Inv X pins σ H s → t σ H Q →
    wpAny (model X.prog X.w) X.A (eval a X.env) (fun v s₁ => wpAny (model X.prog X.w) X.A (eval b X.env) (fun u s₂ => wpAny (model X.prog X.w) X.A (compareOp op v u) (EP X pins σ Q) X.xe s₂) X.xe s₁) X.xe s
noncomputable def tCmp (p : Int → Int → Bool) (ta tb : TE) : TE := fun σ H Q => t2I ta tb (fun i j H2 => Q (.bl (p i j)) H2) σ H
noncomputable abbrev tLt : TE → TE → TE := tCmp fun i j => decide (i < j)
noncomputable abbrev tLe : TE → TE → TE := tCmp fun i j => decide (i ≤ j)
noncomputable abbrev tGt : TE → TE → TE := tCmp fun i j => decide (j < i)
noncomputable abbrev tGe : TE → TE → TE := tCmp fun i j => decide (j ≤ i)
noncomputable abbrev tEqI : TE → TE → TE := tCmp fun i j => decide (i = j)
noncomputable abbrev tNeI : TE → TE → TE := tCmp fun i j => !decide (i = j)
noncomputable def tIsN (ta : TE) : TE := fun σ H Q => ta σ H fun x H1 => Q (.bl (decide (x = .non))) H1
noncomputable def tNotN (ta : TE) : TE := fun σ H Q => ta σ H fun x H1 => Q (.bl (!decide (x = .non))) H1
inductive I_tB (x : V) (H1 : Hp) (Q : Bool → Hp → Prop) : Prop
  | mk : ∀ c, (x = .bl c) → (Q c H1) → I_tB x H1 Q
noncomputable def tB (t : TE) : TT := fun σ H Q => t σ H fun x H1 => I_tB x H1 Q
theorem pe_cmp {op : CmpOp} {t : TE} (h : PC X op a b t) (h1 : behindInMarks op b = false := by first | exact nobehind _ (by decide) (by decide) | rfl) : PE X (.Compare a [op] [b] pos) t := fun pins s σ H Q I hw => wpAny_Compare1 (h pins s σ H Q I hw) h1
theorem pt_cmp {op : CmpOp} {t : TE} (h : PC X op a b t) (h1 : behindInMarks op b = false := by first | exact nobehind _ (by decide) (by decide) | rfl) : PT X (.Compare a [op] [b] pos) (tB t) := by
  intro pins s σ H Q I hw
  refine wpAny_isTrue_Compare1 (thn (h pins s σ H _ I hw) fun v s1 h1 => thn h1 fun u s2 h2 => thn h2 fun c s3 ⟨x, H1, I1, r1, q1⟩ => ?_) h1
  obtain ⟨d, rfl, q⟩ := q1
  cases r1
  exact wpAny_truthy_bool ⟨H1, I1, q⟩
theorem pt_val {e : Expr} {t : TE} (h : PE X e t) (he : ∀ whole, isTrue e X.env whole = (do let v ← whole; standAt e.pos; holding [v] (truthy v)) := by intro _; rfl) : PT X e (tB t) := by
  intro pins s σ H Q I hw
  refine isTrue_plain (thn (h pins s σ H _ I hw) fun v s1 ⟨x, H1, I1, r1, q1⟩ => ?_) (he _)
  obtain ⟨d, rfl, q⟩ := q1
  cases r1
  exact wpAny_truthy_bool ⟨H1, I1, q⟩

variable {tA tB' : TT} {rest : List Expr}
noncomputable def tAnd (t u : TT) : TT := fun σ H Q => t σ H fun c H1 => if c = true then u σ H1 Q else Q false H1
noncomputable def tOr (t u : TT) : TT := fun σ H Q => t σ H fun c H1 => if c = true then Q true H1 else u σ H1 Q
noncomputable def tNot (t : TT) : TT := fun σ H Q => t σ H fun c H1 => Q (!c) H1
theorem pw_and1 (ha : PT X a tA) : PW X (.BoolOp .And [a] pos) tA := by
  intro wh pins s σ H Q I h
  refine isTrue_and (thn (ha pins s σ H Q I h) fun c s1 e => ?_)
  cases c with
  | true => exact isTrue_and_nil e
  | false => exact e
theorem pw_or1 (ha : PT X a tA) : PW X (.BoolOp .Or [a] pos) tA := by
  intro wh pins s σ H Q I h
  refine isTrue_or (thn (ha pins s σ H Q I h) fun c s1 e => ?_)
  cases c with
  | false => exact isTrue_or_nil e
  | true => exact e
theorem pw_and (ha : PT X a tA) (hb : PW X (.BoolOp .And (b :: rest) pos) tB') : PW X (.BoolOp .And (a :: b :: rest) pos) (tAnd tA tB') := by
  intro wh pins s σ H Q I h
  refine isTrue_and (thn (ha pins s σ H _ I h) fun c s1 ⟨H1, I1, q1⟩ => ?_)
  cases c with
  | true => exact hb wh pins s1 σ H1 Q I1 q1
  | false => exact ⟨H1, I1, q1⟩
theorem pw_or (ha : PT X a tA) (hb : PW X (.BoolOp .Or (b :: rest) pos) tB') : PW X (.BoolOp .Or (a :: b :: rest) pos) (tOr tA tB') := by
  intro wh pins s σ H Q I h
  refine isTrue_or (thn (ha pins s σ H _ I h) fun c s1 ⟨H1, I1, q1⟩ => ?_)
  cases c with
  | true => exact ⟨H1, I1, q1⟩
  | false => exact hb wh pins s1 σ H1 Q I1 q1
theorem pt_not (ha : PT X a tA) : PT X (.UnaryOp .Not a pos) (tNot tA) := by
  intro pins s σ H Q I h
  exact isTrue_not (ha pins s σ H (fun c H1 => Q (!c) H1) I h)
noncomputable def tAndV (ta tb : TE) : TE := fun σ H Q => ta σ H fun x H1 => ∃ c, x = .bl c ∧ if c = true then tb σ H1 Q else Q (.bl false) H1
noncomputable def tOrV (ta tb : TE) : TE := fun σ H Q => ta σ H fun x H1 => ∃ c, x = .bl c ∧ if c = true then Q (.bl true) H1 else tb σ H1 Q
noncomputable def tNotV (ta : TE) : TE := fun σ H Q => ta σ H fun x H1 => ∃ c, x = .bl c ∧ Q (.bl (!c)) H1
theorem pe_one {op} {t : TE} (h : PE X a t) : PE X (.BoolOp op [a] pos) t := fun pins s σ H Q I hw => BoolOp_one (h pins s σ H Q I hw)
theorem pe_and (ha : PE X a ta) (hb : PE X (.BoolOp .And (b :: rest) pos) tb) : PE X (.BoolOp .And (a :: b :: rest) pos) (tAndV ta tb) := by
  intro pins s σ H Q I h
  refine BoolOp_and (thn (ha pins s σ H _ I h) fun v s1 ⟨x, H1, I1, r1, q1⟩ => ?_)
  obtain ⟨c, rfl, q1⟩ := q1
  cases r1
  refine wpAny_truthy_bool ?_
  cases c with
  | true => exact hb pins s1 σ H1 Q I1 q1
  | false => exact ⟨.bl false, H1, I1, rfl, q1⟩
theorem pe_or (ha : PE X a ta) (hb : PE X (.BoolOp .Or (b :: rest) pos) tb) : PE X (.BoolOp .Or (a :: b :: rest) pos) (tOrV ta tb) := by
  intro pins s σ H Q I h
  refine BoolOp_or (thn (ha pins s σ H _ I h) fun v s1 ⟨x, H1, I1, r1, q1⟩ => ?_)
  obtain ⟨c, rfl, q1⟩ := q1
  cases r1
  refine wpAny_truthy_bool ?_
  cases c with
  | false => exact hb pins s1 σ H1 Q I1 q1
  | true => exact ⟨.bl true, H1, I1, rfl, q1⟩
theorem pe_not (ha : PE X a ta) : PE X (.UnaryOp .Not a pos) (tNotV ta) := by
  intro pins s σ H Q I h
  refine UnaryOp_ (thn (ha pins s σ H _ I h) fun v s1 ⟨x, H1, I1, r1, q1⟩ => ?_)
  obtain ⟨c, rfl, q1⟩ := q1
  cases r1
  exact not_of (wpAny_truthy_bool ⟨.bl (!c), H1, I1, rfl, q1⟩)
noncomputable def tIf (t : TT) (ta tb : TE) : TE := fun σ H Q => t σ H fun c H1 => if c = true then ta σ H1 Q else tb σ H1 Q
end
end L2

namespace L2
open PySem PySem.Spec PyProof.Rows

noncomputable def SqL (K : PySem.W.Frag) (H : Hp) (a : Addr) (xs : List V) : Prop :=
  Rd H a (.lst xs) ∨
    ∃ (o : Obj) (its : Array Value) (n : Nat), K.lookup a = some o ∧ o.cls = .type "list" ∧ o.dict = none ∧ o.data = .seq its n ∧ its.size ≤ sizeLine ∧ Vals xs its.toList
noncomputable def SqT (K : PySem.W.Frag) (H : Hp) (a : Addr) (xs : List V) : Prop :=
  Rd H a (.tup xs) ∨
    ∃ (o : Obj) (its : Array Value) (n : Nat), K.lookup a = some o ∧ o.cls = .type "tuple" ∧ o.data = .seq its n ∧ its.size ≤ sizeLine ∧ Vals xs its.toList
noncomputable def absV : Value → Option V
  | .none => some .non
  | .bool b => some (.bl b)
  | .int i _ => some (.int i)
  | .str x _ => some (.str x)
  | .bytes b _ => some (.byt b)
  | .float b _ => some (.flt b)
  | .ref a => some (.ref a)
  | .type n => some (.ty n)
  | _ => none
theorem RelV.abs {x : V} {u : Value} (r : RelV x u) : absV u = some x := by
  cases x with
  | non => cases r; rfl
  | bl _ => cases r; rfl
  | int _ => obtain ⟨t, rfl⟩ := r; rfl
  | str _ => obtain ⟨t, rfl⟩ := r; rfl
  | byt _ => obtain ⟨t, rfl⟩ := r; rfl
  | flt _ => obtain ⟨t, rfl⟩ := r; rfl
  | ref _ => cases r; rfl
  | ty _ => cases r; rfl
theorem RelV.inj {x y : V} {u : Value} (r : RelV x u) (q : RelV y u) : x = y := Option.some.inj (r.abs.symm.trans q.abs)
theorem Vals.inj : ∀ {xs ys : List V} {us : List Value}, Vals xs us → Vals ys us → xs = ys
  | _, _, _, .nil, .nil => rfl
  | _, _, _, .cons r t, .cons r' t' => by rw [r.inj r', Vals.inj t t']
section
variable {X : Cx} {pins : List (Addr × Obj)} {σ : St} {H : Hp} {s : Shared} {a : Addr} {xs ys : List V}
theorem SqL.of {K : PySem.W.Frag} (h : H a = some (.lst xs)) : SqL K H a xs := .inl (.inl h)
theorem SqT.of {K : PySem.W.Frag} (h : H a = some (.tup xs)) : SqT K H a xs := .inl (.inl h)
theorem Inv.list (I : Inv X pins σ H s) (h : SqL X.K H a xs) : ∃ its : List Value, Vals xs its ∧ PlainL s.heap a its.toArray ∧ xs.length ≤ sizeLine := by
  rcases h with h | ⟨o, its, n, hk, hc, hd, hs, hz, r⟩
  · obtain ⟨z, its, n, r, e⟩ := h.ok I.hok
    exact ⟨its, r, ⟨_, n, e, rfl, rfl, rfl⟩, z⟩
  · refine ⟨its.toList, r, ⟨o, n, I.kIn a o hk, hc, hd, by simpa using hs⟩, ?_⟩
    have e := r.length
    simp only [Array.length_toList] at e
    lia
theorem Inv.tuple (I : Inv X pins σ H s) (h : SqT X.K H a xs) : ∃ its : List Value, Vals xs its ∧ IsTup s.heap a its.toArray ∧ xs.length ≤ sizeLine := by
  rcases h with h | ⟨o, its, n, hk, hc, hs, hz, r⟩
  · obtain ⟨z, its, r, p⟩ := h.ok I.hok
    exact ⟨its, r, p, z⟩
  · refine ⟨its.toList, r, ⟨o, I.kIn a o hk, hc, n, by simpa using hs⟩, ?_⟩
    have e := r.length
    simp only [Array.length_toList] at e
    lia
theorem Inv.list_inj (I : Inv X pins σ H s) (h : SqL X.K H a xs) (h' : SqL X.K H a ys) : xs = ys := by
  obtain ⟨its, r, ⟨o, n, e, _, _, d⟩, _⟩ := I.list h
  obtain ⟨its', r', ⟨o', n', e', _, _, d'⟩, _⟩ := I.list h'
  rw [e] at e'; cases e'
  rw [d] at d'
  injection d' with d1 _
  have : its = its' := by simpa using congrArg Array.toList d1
  subst this
  exact r.inj r'
theorem Inv.tuple_inj (I : Inv X pins σ H s) (h : SqT X.K H a xs) (h' : SqT X.K H a ys) : xs = ys := by
  obtain ⟨its, r, ⟨o, e, _, n, d⟩, _⟩ := I.tuple h
  obtain ⟨its', r', ⟨o', e', _, n', d'⟩, _⟩ := I.tuple h'
  rw [e] at e'; cases e'
  rw [d] at d'
  injection d' with d1 _
  have : its = its' := by simpa using congrArg Array.toList d1
  subst this
  exact r.inj r'
end

noncomputable abbrev Cx.wish (X : Cx) (E : Value → Shared → Prop) : Cx := { X with xe := E }
noncomputable abbrev Cx.nox (X : Cx) : Cx := X.wish fun _ _ => False
theorem Cx.Ok.wish {X : Cx} (ok : X.Ok) (E : Value → Shared → Prop) : (X.wish E).Ok :=
  ⟨ok.mod, ok.kind, ok.glob, ok.blt, ok.above, ok.inj, ok.has, ok.cab, ok.hd, ok.frames, ok.stk, ok.exf, ok.bs, ok.bsz, ok.noex, ok.exfs, ok.funs, ok.frf⟩
theorem Cx.Ok.unwish {X : Cx} {E : Value → Shared → Prop} (ok : (X.wish E).Ok) : X.Ok :=
  ⟨ok.mod, ok.kind, ok.glob, ok.blt, ok.above, ok.inj, ok.has, ok.cab, ok.hd, ok.frames, ok.stk, ok.exf, ok.bs, ok.bsz, ok.noex, ok.exfs, ok.funs, ok.frf⟩
section
variable {X : Cx} {pins : List (Addr × Obj)} {σ : St} {H : Hp} {s : Shared} {E : Value → Shared → Prop}
theorem Inv.wish (I : Inv X pins σ H s) (E : Value → Shared → Prop) : Inv (X.wish E) pins σ H s := ⟨I.ok.wish E, I.os, I.bare, I.base, I.loc, I.cell, I.free, I.freeC, I.pin, I.hok, I.len⟩
theorem Inv.unwish (I : Inv (X.wish E) pins σ H s) : Inv X pins σ H s := ⟨I.ok.unwish, I.os, I.bare, I.base, I.loc, I.cell, I.free, I.freeC, I.pin, I.hok, I.len⟩
theorem SP.unwish {D : Ends} {f : Flow} {s' : Shared} (h : SP (X.wish E) pins D f s') : SP X pins D f s' := by
  cases f with
  | next => obtain ⟨σ', H', I, q⟩ := h; exact ⟨σ', H', I.unwish, q⟩
  | brk => obtain ⟨σ', H', I, q⟩ := h; exact ⟨σ', H', I.unwish, q⟩
  | cont => obtain ⟨σ', H', I, q⟩ := h; exact ⟨σ', H', I.unwish, q⟩
  | ret u => obtain ⟨v, σ', H', I, r, q⟩ := h; exact ⟨v, σ', H', I.unwish, r, q⟩
theorem PSs.nox {st : List Stmt} {t : TS} (h : PSs X.nox st t) : PSs X st t := fun pins s σ H D I hw =>
  wpAny_mono (h pins s σ H D (I.wish _) hw) (fun _ _ q => q.unwish) fun _ _ z => False.elim z
end

section
variable {X : Cx} {st : Stmt} {rest : List Stmt} {t u : TS} {e : Expr} {te : TE} {pos : Pos}
noncomputable def tNext : TS := fun D σ H => D.nx σ H
noncomputable def tSeq (t u : TS) : TS := fun D σ H => t { D with nx := u D } σ H
theorem pss_nil : PSs X [] tNext := fun _ _ σ H _ I h => wpAny_execs_nil ⟨σ, H, I, h⟩
theorem pss_cons (h1 : PS X st t) (h2 : PSs X rest u) : PSs X (st :: rest) (tSeq t u) := by
  intro pins s σ H D I h
  refine wpAny_execs_cons (thn (h1 pins s σ H { D with nx := u D } I h) fun f s1 q => ?_)
  cases f with
  | next =>
    obtain ⟨σ', H', I', q⟩ := q
    exact h2 pins s1 σ' H' D I' q
  | ret v => exact q
  | brk => exact q
  | cont => exact q
theorem pss_one (h1 : PS X st t) : PSs X [st] t := by
  intro pins s σ H D I h
  refine wpAny_execs_cons (thn (h1 pins s σ H D I h) fun f s1 q => ?_)
  cases f with
  | next => exact wpAny_execs_nil q
  | ret v => exact q
  | brk => exact q
  | cont => exact q
noncomputable def tBreak : TS := fun D σ H => D.bk σ H
noncomputable def tCont : TS := fun D σ H => D.ct σ H
theorem Inv.quiet {pins : List (Addr × Obj)} {σ : St} {H : Hp} {s : Shared} (I : Inv X pins σ H s) : interactive X.env = false := by simp [interactive, I.ok.kind]
noncomputable def tDrop (te : TE) : TS := fun D σ H => te σ H fun _ H1 => D.nx σ H1
theorem ps_expr (he : PE X e te) (hs : swapsWith e none pos.line X.env = pure false := by rfl) : PS X (.Expr e pos) (tDrop te) := by
  intro pins s σ H D I h
  exact wpAny_Expr_any (thn (he pins s σ H _ I h) fun v s1 ⟨x, H1, I1, r1, q1⟩ => ⟨σ, H1, I1, q1⟩) I.quiet hs
noncomputable def tRet (te : TE) : TS := fun D σ H => te σ H D.rt
theorem ps_ret (he : PE X e te) : PS X (.Return (some e) pos) (tRet te) := by
  intro pins s σ H D I h
  exact wpAny_Return_some (thn (he pins s σ H _ I h) fun v s1 ⟨x, H1, I1, r1, q1⟩ => ⟨x, σ, H1, I1, r1, q1⟩)
noncomputable def tRetN : TS := fun D _ H => D.rt .non H
noncomputable def tIfS (c : TT) (t u : TS) : TS := fun D σ H => c σ H fun b H1 => if b = true then t D σ H1 else u D σ H1
theorem ps_if {c : Expr} {a b : List Stmt} {tc : TT} (hc : PT X c tc) (ha : PSs X a t) (hb : PSs X b u) : PS X (.If c a b pos) (tIfS tc t u) := by
  intro pins s σ H D I h
  refine wpAny_If (thn (hc pins s σ H _ I h) fun d s1 ⟨H1, I1, q1⟩ => ?_)
  cases d with
  | true => exact ha pins s1 σ H1 D I1 q1
  | false => exact hb pins s1 σ H1 D I1 q1
noncomputable def tNever : TS := fun _ _ _ => False
end

noncomputable abbrev TG := V → St → Hp → (St → Hp → Prop) → Prop
noncomputable abbrev TGs := List V → St → Hp → (St → Hp → Prop) → Prop
noncomputable def PG (X : Cx) (target : Expr) (t : TG) : Prop :=
  ∀ (pins : List (Addr × Obj)) (s : Shared) (σ : St) (H : Hp) (v : V) (u : Value) (Q : St → Hp → Prop), Inv X pins σ H s → RelV v u → t v σ H Q →
    wpAny (model X.prog X.w) X.A (assign target X.env u) (fun _ s' => ∃ σ' H', Inv X pins σ' H' s' ∧ Q σ' H') X.xe s
noncomputable def PGs (X : Cx) (ts : List Expr) (t : TGs) : Prop :=
  ∀ (pins : List (Addr × Obj)) (s : Shared) (σ : St) (H : Hp) (vs : List V) (us : List Value) (Q : St → Hp → Prop), Inv X pins σ H s → Vals vs us → t vs σ H Q →
    wpAny (model X.prog X.w) X.A (assignInOrder ((assignEach ts X.env).map (·.2)) us) (fun _ s' => ∃ σ' H', Inv X pins σ' H' s' ∧ Q σ' H') X.xe s
noncomputable abbrev TSet := V → V → V → Hp → (Hp → Prop) → Prop
noncomputable def PSet (X : Cx) (t : TSet) : Prop :=
  ∀ (pins : List (Addr × Obj)) (s : Shared) (σ : St) (H : Hp) (o i v : V) (ov iv u : Value) (Q : Hp → Prop), Inv X pins σ H s → RelV o ov → RelV i iv → RelV v u → t o i v H Q →
    wpAny (model X.prog X.w) X.A (setItem ov iv u) (fun _ s' => ∃ H', Inv X pins σ H' s' ∧ Q H') X.xe s
noncomputable abbrev TIp := V → V → Hp → VK → Prop
noncomputable def PIp (X : Cx) (op : Operator) (t : TIp) : Prop :=
  ∀ (pins : List (Addr × Obj)) (s : Shared) (σ : St) (H : Hp) (x y : V) (v u : Value) (Q : VK), Inv X pins σ H s → RelV x v → RelV y u → t x y H Q →
    wpAny (model X.prog X.w) X.A (inplaceOp op v u) (EP X pins σ Q) X.xe s
section
variable {X : Cx} {pos : Pos}
noncomputable def gName (i : Nat) : TG := fun v σ H Q => Q (σ.set i (some v)) H
theorem pg_name {i : Nat} {x : Str} (hN : X.N.Nodup) (hi : X.N[i]? = some x) (hx : Loc X.env.scope x) (hf : X.fn x = true ∨ X.env.scope.names.lookup x = some .local := by first | exact .inl rfl | exact .inr rfl | assumption) : PG X (.Name x pos) (gName i) := by
  intro pins s σ H v u Q I r h
  exact wpAny_assign_Name (store_ok I hN hi hx r (fun s' I' => ⟨_, H, I', h⟩) hf)
noncomputable def gNil : TGs := fun vs σ H Q => vs = [] ∧ Q σ H
noncomputable def gCons (t : TG) (u : TGs) : TGs := fun vs σ H Q => ∃ v r, vs = v :: r ∧ t v σ H fun σ' H' => u r σ' H' Q
theorem pgs_nil : PGs X [] gNil := by
  intro pins s σ H vs us Q I r h
  obtain ⟨e, h⟩ := h
  subst e
  cases r
  exact assignInOrder_nil ⟨σ, H, I, h⟩
theorem pgs_cons {e : Expr} {es : List Expr} {t : TG} {u : TGs} (h1 : PG X e t) (h2 : PGs X es u)
    (hs : (assignEach (e :: es) X.env).map (·.2) = assign e X.env :: (assignEach es X.env).map (·.2) := by rfl) : PGs X (e :: es) (gCons t u) := by
  intro pins s σ H vs us Q I r h
  obtain ⟨v, vr, e1, h⟩ := h
  subst e1
  cases r with
  | cons r rr =>
    rw [hs]
    refine assignInOrder_cons (thn (h1 pins s σ H _ _ _ I r h) fun _ s1 ⟨σ1, H1, I1, q1⟩ => ?_)
    exact h2 pins s1 σ1 H1 _ _ Q I1 rr q1
noncomputable def gTup (K : PySem.W.Frag) (n : Nat) (t : TGs) : TG := fun v σ H Q => ∃ a xs, v = .ref a ∧ SqT K H a xs ∧ xs.length = n ∧ t xs σ H Q
theorem pg_tup {es : List Expr} {k : Nat} {t : TGs} {n : Nat} (hc : X.calm = true) (h : PGs X es t)
    (hn : (assignEach es X.env).length = n := by rfl) (hst : (assignEach es X.env).findIdx? (·.1) = none := by rfl) : PG X (.Tuple es k pos) (gTup X.K n t) := by
  intro pins s σ H v u Q I r hw
  obtain ⟨a, xs, e1, hq, hl, hw⟩ := hw
  subst e1
  cases r
  obtain ⟨its, rv, ht, hz⟩ := I.tuple hq
  refine assign_Tuple_tuple (I.ok.hd hc) ht (by simp [hn, ← hl, rv.length]) hst fun h' hx => ?_
  have I1 : Inv X pins σ H { s with heap := h' } := I.kept (t' := s.toks) fun b o e => hx b o (Nat.ne_of_lt (Heap.lt_size e)) e
  exact h pins _ σ H xs _ Q I1 (by simpa using rv) hw
noncomputable def gSub (to ti : TE) (t : TSet) : TG := fun v σ H Q => to σ H fun o H1 => ti σ H1 fun i H2 => t o i v H2 fun H3 => Q σ H3
noncomputable def tAsg (te : TE) (g : TG) : TS := fun D σ H => te σ H fun x H1 => g x σ H1 D.nx
theorem ps_set {i : Nat} {x : Str} {e : Expr} {te : TE} {pos' : Pos} (hN : X.N.Nodup) (hi : X.N[i]? = some x) (hx : Loc X.env.scope x) (he : PE X e te) (hs : swapsWith e (some (.Name x pos')) pos.line X.env = pure false := by rfl) (hf : X.fn x = true ∨ X.env.scope.names.lookup x = some .local := by first | exact .inl rfl | exact .inr rfl | assumption) :
    PS X (.Assign [.Name x pos'] e pos) (tAsg te (gName i)) := by
  intro pins s σ H D I h
  refine wpAny_Assign_Name (thn (he pins s σ H _ I h) fun v s1 ⟨y, H1, I1, r1, q1⟩ => ?_) hs
  exact store_ok I1 hN hi hx r1 (fun s2 I2 => ⟨_, H1, I2, q1⟩) hf
noncomputable def tPar (i j : Nat) (ta : TA) : TS := fun D σ H => ta σ H fun vs H1 => ∃ v w, vs = [v, w] ∧ D.nx ((σ.set i (some v)).set j (some w)) H1
noncomputable def tAug (i : Nat) (te : TE) (ti : TIp) : TS := fun D σ H => ∃ x, σ[i]? = some (some x) ∧ te σ H fun y H1 => ti x y H1 fun z H2 => D.nx (σ.set i (some z)) H2
noncomputable def tAugS (to ti te : TE) (tget : V → V → Hp → VK → Prop) (tip : TIp) (tset : TSet) : TS := fun D σ H => to σ H fun o H1 => ti σ H1 fun i H2 => tget o i H2 fun x H3 => te σ H3 fun y H4 => tip x y H4 fun z H5 => tset o i z H5 fun H6 => D.nx σ H6
noncomputable def PGet (X : Cx) (t : V → V → Hp → VK → Prop) : Prop :=
  ∀ (pins : List (Addr × Obj)) (s : Shared) (σ : St) (H : Hp) (o i : V) (ov iv : Value) (Q : VK), Inv X pins σ H s → RelV o ov → RelV i iv → t o i H Q →
    wpAny (model X.prog X.w) X.A (getItem ov iv) (EP X pins σ Q) X.xe s
noncomputable def ipI (f : Int → Int → Int) : TIp := fun x y H Q => ∃ i j, x = .int i ∧ y = .int j ∧ Q (.int (f i j)) H
end

section
variable {X : Cx} {pos : Pos}
noncomputable def tWhile (c : TT) (tb : TS) : TS := fun D σ H => ∃ W : Nat → St → Hp → Prop, (∃ m, W m σ H) ∧ ∀ m σ H, W m σ H →
  c σ H fun b H1 => if b = true then ∃ N : St → Hp → Prop, (∀ σ' H', N σ' H' → ∃ m', m' < m ∧ W m' σ' H') ∧ tb { D with nx := N, ct := N, bk := D.nx } σ H1 else D.nx σ H1
theorem ps_while {c : Expr} {body : List Stmt} {tc : TT} {tb : TS} (hp : PassesOwn (model X.prog X.w) X.A X.env X.xe) (hc : PT X c tc) (hb : PSs X body tb) : PS X (.While c body [] pos) (tWhile tc tb) := by
  intro pins s σ H D I h
  obtain ⟨W, ⟨m0, w0⟩, turn⟩ := h
  refine wpAny_While (codeAny_whileLoop (fun n s' => ∃ σ' H', Inv X pins σ' H' s' ∧ W n σ' H') ?_ m0 ⟨σ, H, I, w0⟩)
  rintro n s1 ⟨σ1, H1, I1, w1⟩
  refine wpAny_passesOwn hp (thn (hc pins s1 σ1 H1 _ I1 (turn n σ1 H1 w1)) fun b s2 ⟨H2, I2, q2⟩ => ?_)
  cases b with
  | true =>
    obtain ⟨N, hN, q2⟩ := q2
    rw [if_pos rfl]
    refine wpAny_passesOwn hp (thn (hb pins s2 σ1 H2 _ I2 q2) fun f s3 q3 => ?_)
    cases f with
    | next =>
      obtain ⟨σ3, H3, I3, n3⟩ := q3
      obtain ⟨m', hm, w3⟩ := hN σ3 H3 n3
      exact ⟨m', hm, σ3, H3, I3, w3⟩
    | cont =>
      obtain ⟨σ3, H3, I3, n3⟩ := q3
      obtain ⟨m', hm, w3⟩ := hN σ3 H3 n3
      exact ⟨m', hm, σ3, H3, I3, w3⟩
    | brk => exact q3
    | ret v => exact q3
  | false =>
    rw [if_neg Bool.false_ne_true]
    exact wpAny_execs_nil ⟨σ1, H2, I2, q2⟩
end

structure It where
  go : Nat → Hp → Prop
  yld : Nat → Hp → V → Hp → Prop
  stop : Nat → Hp → Prop
noncomputable def FpOk (X : Cx) (pins : List (Addr × Obj)) (H : Hp) (b : Addr) : Prop :=
  H b = none ∧ b ≠ X.env.locals ∧ b ∉ X.fs ∧ (b ∈ X.ex ∨ X.s₀.heap.objs.size ≤ b) ∧ (∀ x c, X.env.cells.lookup x = some c → c ≠ b) ∧ ∀ p ∈ X.pn ++ pins, p.1 ≠ b
theorem Inv.fpOk {X : Cx} {pins : List (Addr × Obj)} {σ : St} {H H' : Hp} {s : Shared} {b : Addr} (I : Inv X pins σ H s) (hb : s.heap.objs.size ≤ b) (hn : H' b = none) : FpOk X pins H' b := by
  refine ⟨hn, Nat.ne_of_gt (Nat.lt_of_lt_of_le I.lt hb), I.nofs hb, .inr (Nat.le_trans I.sz hb), fun x c e z => ?_, fun p hp z => ?_⟩
  · obtain ⟨v, q⟩ := I.cell x c e
    exact absurd (Nat.lt_of_lt_of_le q.lt (by rw [z]; exact hb)) (Nat.lt_irrefl _)
  · exact absurd (Nat.lt_of_lt_of_le (Heap.lt_size (I.pin p hp).1) (by rw [z]; exact hb)) (Nat.lt_irrefl _)
structure Turn (P : Program) (w : World) (K : PySem.W.Frag) (tg : Expr) (J : It) (fp : List Addr) (it : Addr) (tn : Nat → Heap → Prop) : Prop where
  mem : it ∈ fp
  obj : ∀ i h, tn i h → ∀ b ∈ fp, ∃ o, h.get? b = some o ∧ ∀ v, o.data ≠ .cell v
  keep : ∀ i h h', tn i h → (∀ b ∈ fp, ∀ o, h.get? b = some o → h'.get? b = some o) → tn i h'
  item : ∀ (X : Cx), X.prog = P → X.w = w → X.K = K → X.calm = true → ∀ (i : Nat) (pins : List (Addr × Obj)) (s : Shared) (σ : St) (H : Hp) (E : Value → Shared → Prop), Inv X pins σ H s → (∀ b ∈ fp, FpOk X pins H b) → tn i s.heap → J.go i H →
    wpAny (model P w) X.A (pyNext (.ref it)) (fun r s1 => ∃ u, r = some u ∧
      wpAny (model P w) X.A (letOwnedTupleGo tg (.ref it) u) (fun _ s2 => ∃ x H', Inv X pins σ H' s2 ∧ RelV x u ∧ J.yld i H x H' ∧ tn (i + 1) s2.heap ∧ ∀ b ∈ fp, H' b = none) E s1) E s
  done : ∀ (X : Cx), X.prog = P → X.w = w → X.K = K → X.calm = true → ∀ (i : Nat) (pins : List (Addr × Obj)) (s : Shared) (σ : St) (H : Hp) (E : Value → Shared → Prop), Inv X pins σ H s → (∀ b ∈ fp, FpOk X pins H b) → tn i s.heap → J.stop i H →
    wpAny (model P w) X.A (pyNext (.ref it)) (fun r s1 => r = none ∧ Inv X pins σ H s1) E s
  self : ∀ (A : Around) (i : Nat) (s : Shared) (Q : Value → Shared → Prop) (E : Value → Shared → Prop), tn i s.heap → Q (.ref it) s → wpAny (model P w) A (pyIter (.ref it)) Q E s
noncomputable abbrev TI := St → Hp → (It → Hp → Prop) → Prop
noncomputable def PIE (X : Cx) (pins : List (Addr × Obj)) (σ : St) (tg : Expr) (R : It → Hp → Prop) (itv : Value) (s2 : Shared) : Prop :=
  ∃ (it : Addr) (fp : List Addr) (tn : Nat → Heap → Prop) (J : It) (H' : Hp), itv = .ref it ∧ Inv X pins σ H' s2 ∧ Turn X.prog X.w X.K tg J fp it tn ∧ tn 0 s2.heap ∧ (∀ b ∈ fp, FpOk X pins H' b) ∧ R J H'
noncomputable def PI (X : Cx) (tg iter : Expr) (wi : TI) : Prop :=
  ∀ (pins : List (Addr × Obj)) (s : Shared) (σ : St) (H : Hp) (R : It → Hp → Prop), Inv X pins σ H s → wi σ H R →
    wpAny (model X.prog X.w) X.A (eval iter X.env) (fun v s1 => wpAny (model X.prog X.w) X.A (pyIter v) (PIE X pins σ tg R) X.xe s1) X.xe s

theorem go_of {M : Model} {A : Around} {E : Value → Shared → Prop} {s : Shared} {tg : Expr} {it : Addr} {u : Value} {o : Obj} {n : String} {vs : Array Value} {Q : Unit → Shared → Prop} (ho : s.heap.get? it = some o) (hc : o.cls = .type n) (hd : o.data = .fields vs)
    (hn : ["enumerate", "zip", "dict_itemiterator", "dict_reverseitemiterator", "odict_iterator", "itertools.zip_longest", "itertools.pairwise"].contains n = false) (hQ : Q () s) : wpAny M A (letOwnedTupleGo tg (.ref it) u) Q E s := by
  unfold letOwnedTupleGo
  cases tg <;> first
    | exact wpAny_pure hQ
    | (cases u <;> first
        | exact wpAny_pure hQ
        | (refine wpAny_bind (wpAny_load ho ?_)
           rw [hc, hd]
           show wpAny M A (if (["enumerate", "zip", "dict_itemiterator", "dict_reverseitemiterator", "odict_iterator", "itertools.zip_longest", "itertools.pairwise"].contains n && vs[0]? == some (rawInt _)) = true then _ else _) Q E s
           rw [if_neg (by intro h; rw [hn, Bool.false_and] at h; cases h)]
           exact wpAny_pure hQ))

noncomputable def Itl (K : PySem.W.Frag) (a : Addr) : It :=
  ⟨fun i H => ∃ xs x, SqL K H a xs ∧ xs[i]? = some x, fun i H x H' => H' = H ∧ ∀ xs, SqL K H a xs → xs[i]? = some x, fun i H => ∃ xs, SqL K H a xs ∧ xs.length ≤ i⟩
noncomputable def Itt (K : PySem.W.Frag) (a : Addr) : It :=
  ⟨fun i H => ∃ xs x, SqT K H a xs ∧ xs[i]? = some x, fun i H x H' => H' = H ∧ ∀ xs, SqT K H a xs → xs[i]? = some x, fun i H => ∃ xs, SqT K H a xs ∧ xs.length ≤ i⟩
noncomputable def Itr (lo : Int) (n : Nat) : It := ⟨fun i _ => i < n, fun i H x H' => H' = H ∧ x = .int (lo + i), fun i _ => n ≤ i⟩
theorem turn_list {P : Program} {w : World} {K : PySem.W.Frag} {tg : Expr} (a it : Addr) : Turn P w K tg (Itl K a) [it] it (fun i h => h.IsListIter it a i) where
  mem := by simp
  obj := fun i h st b hb => by
    have e : b = it := by simpa using hb
    subst e
    obtain ⟨o, e, c, d⟩ := st
    exact ⟨o, e, fun v z => by rw [d] at z; cases z⟩
  keep := fun i h h' st k => st.at fun o e => k it (by simp) o e
  item := by
    intro X hP hw hK hc i pins s σ H E I hf st hg
    subst hP hw hK
    obtain ⟨xs, x, hq, hx⟩ := hg
    obtain ⟨its, rv, p, hz⟩ := I.list hq
    obtain ⟨u, hu, ru⟩ := rv.get hx
    obtain ⟨f0, f1, f2, f3, f4, f5⟩ := hf it (by simp)
    refine wpAny_pyNext_list_item st p.isList (x := u) (by simpa using hu) fun h' st' sb => ?_
    have I1 : Inv X pins σ H { s with heap := h' } := I.turned (t' := s.toks) (fun b o hb e => (sb.2 b hb).trans e) f0 f1 f3 f4 f5
    obtain ⟨o, e, c, d⟩ := id st'
    exact ⟨u, rfl, go_of (s := { s with heap := h' }) e c d (by decide) ⟨x, H, I1, ru, ⟨rfl, fun ys hy => by rw [I.list_inj hy hq]; exact hx⟩, st', fun b hb => (hf b hb).1⟩⟩
  done := by
    intro X hP hw hK hc i pins s σ H E I hf st hg
    subst hP hw hK
    obtain ⟨xs, hq, hx⟩ := hg
    obtain ⟨its, rv, p, hz⟩ := I.list hq
    obtain ⟨f0, f1, f2, f3, f4, f5⟩ := hf it (by simp)
    have hl := rv.length
    exact wpAny_pyNext_list_end (I.ok.hd hc) st p.isList (by simp; lia) fun h' eb => ⟨rfl, I.turned (t' := s.toks) (fun b o hb e => eb b o hb e) f0 f1 f3 f4 f5⟩
  self := fun _ _ _ _ _ st h => wpAny_pyIter_listiter st h
theorem turn_tuple {P : Program} {w : World} {K : PySem.W.Frag} {tg : Expr} (a it : Addr) : Turn P w K tg (Itt K a) [it] it (fun i h => h.IsTupleIter it a i) where
  mem := by simp
  obj := fun i h st b hb => by
    have e : b = it := by simpa using hb
    subst e
    obtain ⟨o, e, c, d⟩ := st
    exact ⟨o, e, fun v z => by rw [d] at z; cases z⟩
  keep := fun i h h' st k => st.at fun o e => k it (by simp) o e
  item := by
    intro X hP hw hK hc i pins s σ H E I hf st hg
    subst hP hw hK
    obtain ⟨xs, x, hq, hx⟩ := hg
    obtain ⟨its, rv, p, hz⟩ := I.tuple hq
    obtain ⟨u, hu, ru⟩ := rv.get hx
    obtain ⟨f0, f1, f2, f3, f4, f5⟩ := hf it (by simp)
    refine wpAny_pyNext_tuple_item st (show s.heap.IsTuple a its.toArray from p) (x := u) (by simpa using hu) fun h' st' sb => ?_
    have I1 : Inv X pins σ H { s with heap := h' } := I.turned (t' := s.toks) (fun b o hb e => (sb.2 b hb).trans e) f0 f1 f3 f4 f5
    obtain ⟨o, e, c, d⟩ := id st'
    exact ⟨u, rfl, go_of (s := { s with heap := h' }) e c d (by decide) ⟨x, H, I1, ru, ⟨rfl, fun ys hy => by rw [I.tuple_inj hy hq]; exact hx⟩, st', fun b hb => (hf b hb).1⟩⟩
  done := by
    intro X hP hw hK hc i pins s σ H E I hf st hg
    subst hP hw hK
    obtain ⟨xs, hq, hx⟩ := hg
    obtain ⟨its, rv, p, hz⟩ := I.tuple hq
    obtain ⟨f0, f1, f2, f3, f4, f5⟩ := hf it (by simp)
    have hl := rv.length
    exact wpAny_pyNext_tuple_end (I.ok.hd hc) st (show s.heap.IsTuple a its.toArray from p) (by simp; lia) fun h' eb => ⟨rfl, I.turned (t' := s.toks) (fun b o hb e => eb b o hb e) f0 f1 f3 f4 f5⟩
  self := fun _ _ _ _ _ st h => wpAny_pyIter_tupleiter st h
theorem turn_range {P : Program} {w : World} {K : PySem.W.Frag} {tg : Expr} (it : Addr) (lo : Int) (n : Nat) : Turn P w K tg (Itr lo n) [it] it (fun i h => IsRangeIter h it (lo + (i : Nat) * 1) ((n : Int) - (i : Nat)) 1) where
  mem := by simp
  obj := fun i h st b hb => by
    have e : b = it := by simpa using hb
    subst e
    exact ⟨_, st, fun v z => by
      have z' : Data.fields _ = Data.cell v := z
      cases z'⟩
  keep := fun i h h' st k => k it (by simp) _ st
  item := by
    intro X hP hw hK hc i pins s σ H E I hf st hg
    subst hP hw hK
    obtain ⟨f0, f1, f2, f3, f4, f5⟩ := hf it (by simp)
    have W := Walks.range (prog := X.prog) (w := X.w) (I.ok.hd hc) it lo 1 n
    refine W.item i s _ _ hg st fun v h' tk hv st' kk => ?_
    obtain ⟨t, rfl⟩ := hv
    have I1 : Inv X pins σ H { s with heap := h', toks := tk } := I.turned (fun b o hb e => kk b o (by simpa using hb) e) f0 f1 f3 f4 f5
    refine ⟨_, rfl, go_of (s := { s with heap := h', toks := tk }) (n := "range_iterator") st' rfl rfl (by decide) ⟨.int (lo + i), H, I1, ⟨t, ?_⟩, ⟨rfl, rfl⟩, st', fun b hb => (hf b hb).1⟩⟩
    rw [Int.mul_one]
  done := by
    intro X hP hw hK hc i pins s σ H E I hf st hg
    subst hP hw hK
    obtain ⟨f0, f1, f2, f3, f4, f5⟩ := hf it (by simp)
    exact wpAny_pyNext_range_end (I.ok.hd hc) st (by have : n ≤ i := hg; lia) fun h' eb => ⟨rfl, I.turned (t' := s.toks) (fun b o hb e => eb b o hb e) f0 f1 f3 f4 f5⟩
  self := fun _ _ _ _ _ st h => wpAny_pyIter_rangeiter st h
end L2

namespace L2
open PySem PySem.Spec PyProof.Rows
section
variable {X : Cx} {tg : Expr}
inductive I_iList (K : PySem.W.Frag) (x : V) (H1 : Hp) (R : It → Hp → Prop) : Prop
  | mk : ∀ a, (x = .ref a) → ((∃ xs, SqL K H1 a xs)) → (R (Itl K a) H1) → I_iList K x H1 R
noncomputable def iList (K : PySem.W.Frag) (tl : TE) : TI := fun σ H R => tl σ H fun x H1 => I_iList K x H1 R
inductive I_iTup (K : PySem.W.Frag) (x : V) (H1 : Hp) (R : It → Hp → Prop) : Prop
  | mk : ∀ a, (x = .ref a) → ((∃ xs, SqT K H1 a xs)) → (R (Itt K a) H1) → I_iTup K x H1 R
noncomputable def iTup (K : PySem.W.Frag) (tl : TE) : TI := fun σ H R => tl σ H fun x H1 => I_iTup K x H1 R
theorem pi_list {l : Expr} {tl : TE} (hl : PE X l tl) : PI X tg l (iList X.K tl) := by
  intro pins s σ H R I h
  refine thn (hl pins s σ H _ I h) fun v s1 ⟨x, H1, I1, r1, q1⟩ => ?_
  obtain ⟨a, e, ⟨xs, hq⟩, q⟩ := q1
  subst e
  cases r1
  obtain ⟨its, rv, p, hz⟩ := I1.list hq
  refine wpAny_pyIter_list p.isList ?_
  refine ⟨s1.heap.objs.size, [s1.heap.objs.size], _, _, H1, rfl, I1.kept (t' := s1.toks) fun b o e => Heap.get?_push_of_some _ e, turn_list a _, ⟨_, Heap.get?_push_size _ rfl, rfl, rfl⟩, fun b hb => ?_, q⟩
  have e : b = s1.heap.objs.size := by simpa using hb
  subst e
  exact I1.fpOk (Nat.le_refl _) (I1.hok.fresh (Nat.le_refl _))
theorem pi_tup {l : Expr} {tl : TE} (hl : PE X l tl) : PI X tg l (iTup X.K tl) := by
  intro pins s σ H R I h
  refine thn (hl pins s σ H _ I h) fun v s1 ⟨x, H1, I1, r1, q1⟩ => ?_
  obtain ⟨a, e, ⟨xs, hq⟩, q⟩ := q1
  subst e
  cases r1
  obtain ⟨its, rv, p, hz⟩ := I1.tuple hq
  refine wpAny_pyIter_tuple (show s1.heap.IsTuple a its.toArray from p) ?_
  refine ⟨s1.heap.objs.size, [s1.heap.objs.size], _, _, H1, rfl, I1.kept (t' := s1.toks) fun b o e => Heap.get?_push_of_some _ e, turn_tuple a _, ⟨_, Heap.get?_push_size _ rfl, rfl, rfl⟩, fun b hb => ?_, q⟩
  have e : b = s1.heap.objs.size := by simpa using hb
  subst e
  exact I1.fpOk (Nat.le_refl _) (I1.hok.fresh (Nat.le_refl _))
theorem range_it {pins : List (Addr × Obj)} {σ : St} {H : Hp} {s : Shared} {R : It → Hp → Prop} {E : Value → Shared → Prop} {lo hi : Int} {t u v : Tok} {tk : Nat} (I : Inv X pins σ H s) (h1 : -(2 ^ 62) ≤ lo) (h2 : lo < 2 ^ 62) (h3 : -(2 ^ 62) ≤ hi) (h4 : hi < 2 ^ 62)
    (q : R (Itr lo (hi - lo).toNat) H) : wpAny (model X.prog X.w) X.A (pyIter (.ref s.heap.objs.size)) (PIE X pins σ tg R) E { s with heap := s.heap.push { cls := .type "range", data := .fields #[.int lo t, .int hi u, .int 1 v] }, toks := tk } := by
  refine wpAny_pyIter_range (IsRange.new ..) (small_one h1 h2 h3 h4) ?_
  have I1 : Inv X pins σ H { s with heap := s.heap.push { cls := .type "range", data := .fields #[.int lo t, .int hi u, .int 1 v] }, toks := tk } := I.kept fun b o e => Heap.get?_push_of_some _ e
  refine ⟨(s.heap.push { cls := .type "range", data := .fields #[.int lo t, .int hi u, .int 1 v] }).objs.size, [(s.heap.push { cls := .type "range", data := .fields #[.int lo t, .int hi u, .int 1 v] }).objs.size], _, _, H, rfl,
    I1.kept (t' := tk) fun b o e => Heap.get?_push_of_some _ e, turn_range _ lo (hi - lo).toNat, ?_, fun b hb => ?_, q⟩
  · have e1 : lo + ((0 : Nat) : Int) * 1 = lo := by simp
    have e2 : (((hi - lo).toNat : Nat) : Int) - ((0 : Nat) : Int) = Builtin.Range.rangeSize lo hi 1 := by rw [rangeSize_one]; split <;> lia
    show IsRangeIter _ _ (lo + ((0 : Nat) : Int) * 1) ((((hi - lo).toNat : Nat) : Int) - ((0 : Nat) : Int)) 1
    rw [e1, e2]
    exact Heap.get?_push_size _ rfl
  · have e : b = (s.heap.push { cls := .type "range", data := .fields #[.int lo t, .int hi u, .int 1 v] }).objs.size := by simpa using hb
    subst e
    exact I1.fpOk (Nat.le_refl _) (I1.hok.fresh (Nat.le_refl _))
inductive I_iRng1 (vs : List V) (H1 : Hp) (R : It → Hp → Prop) : Prop
  | mk : ∀ j : Int, (vs = [.int j]) → (-(2 ^ 62) ≤ j) → (j < 2 ^ 62) → (R (Itr 0 j.toNat) H1) → I_iRng1 vs H1 R
noncomputable def iRng1 (ta : TA) : TI := fun σ H R => ta σ H fun vs H1 => I_iRng1 vs H1 R
noncomputable def iRng2 (ta : TA) : TI := fun σ H R => ta σ H fun vs H1 => ∃ i j : Int, vs = [.int i, .int j] ∧ (-(2 ^ 62) ≤ i ∧ i < 2 ^ 62 ∧ -(2 ^ 62) ≤ j ∧ j < 2 ^ 62) ∧ R (Itr i (j - i).toNat) H1
theorem pi_range1 {a : Expr} {ta : TA} {p pos : Pos} (hg : Gl X "range") (hm : X.mg "range" = none) (ha : PA X [a] ta) (hs : starEach [a] X.env = [(false, eval a X.env)] := by rfl) : PI X tg (.Call (.Name "range" p) [a] [] pos) (iRng1 ta) := by
  intro pins s σ H R I h
  refine Call_ (ld_blt I hg hm boot_range (PyProof.Rows.callWith_type1 (thn (ha pos pins s σ H _ I h) fun us s1 ⟨vs, H1, I1, r1, q1⟩ => ?_) hs rfl))
  obtain ⟨j, e, q1, q2, q⟩ := q1
  subst e
  cases r1 with
  | cons r rr =>
    cases rr
    obtain ⟨t, rfl⟩ := r
    exact call_range_1 (range_it I1 (by lia) (by lia) q1 q2 (by simpa using q))

noncomputable def tFor (wi : TI) (g : TG) (tb : TS) : TS := fun D σ H => wi σ H fun J H1 => ∃ W : Nat → Nat → St → Hp → Prop, (∃ m, W 0 m σ H1) ∧ ∀ i m σ H, W i m σ H →
  (J.stop i H ∧ D.nx σ H) ∨ (J.go i H ∧ ∃ N : St → Hp → Prop, (∀ σ' H', N σ' H' → ∃ m', m' < m ∧ W (i + 1) m' σ' H') ∧ ∀ x H', J.yld i H x H' → g x σ H' fun σ2 H2 => tb { D with nx := N, ct := N, bk := D.nx } σ2 H2)
noncomputable def pinsAt (fp : List Addr) (h : Heap) : List (Addr × Obj) := fp.filterMap fun b => (h.get? b).map fun o => (b, o)
theorem mem_pinsAt {fp : List Addr} {h : Heap} {b : Addr} {o : Obj} (hb : b ∈ fp) (e : h.get? b = some o) : (b, o) ∈ pinsAt fp h := List.mem_filterMap.mpr ⟨b, hb, by rw [e]; rfl⟩
theorem of_pinsAt {fp : List Addr} {h : Heap} {p : Addr × Obj} (hp : p ∈ pinsAt fp h) : p.1 ∈ fp ∧ h.get? p.1 = some p.2 := by
  obtain ⟨b, hb, e⟩ := List.mem_filterMap.mp hp
  cases q : h.get? b with
  | none => rw [q] at e; cases e
  | some o =>
    rw [q] at e
    have e' : (b, o) = p := Option.some.inj e
    subst e'
    exact ⟨hb, q⟩
theorem Inv.pinned {pins : List (Addr × Obj)} {σ : St} {H : Hp} {s : Shared} {fp : List Addr} (I : Inv X pins σ H s) (hf : ∀ b ∈ fp, FpOk X pins H b) (ho : ∀ b ∈ fp, ∃ o, s.heap.get? b = some o ∧ ∀ v, o.data ≠ .cell v) : Inv X (pins ++ pinsAt fp s.heap) σ H s :=
  I.pins_of fun p hp => (List.mem_append.mp hp).elim (fun z => I.pin p (List.mem_append_right _ z)) fun z => by
    obtain ⟨hb, e⟩ := of_pinsAt z
    obtain ⟨f0, f1, f2, _⟩ := hf p.1 hb
    obtain ⟨o, e', d⟩ := ho p.1 hb
    rw [e] at e'; cases e'
    exact ⟨e, f0, f1, f2, d⟩
theorem Inv.unpinned {pins pl : List (Addr × Obj)} {σ : St} {H : Hp} {s : Shared} (I : Inv X (pins ++ pl) σ H s) : Inv X pins σ H s := I.pins_of fun p hp => I.pin p (List.mem_append_right _ (List.mem_append_left _ hp))
theorem ps_for {iter : Expr} {body : List Stmt} {wi : TI} {g : TG} {tb : TS} {pos : Pos} (hp : PassesOwn (model X.prog X.w) X.A X.env X.xe) (hc : X.calm = true) (hi : PI X tg iter wi) (hg : PG X tg g) (hb : PSs X body tb)
    (hs : ∀ x, foldedSetIterable iter X.env x = pure x := by intro _; rfl) : PS X (.For tg iter body [] pos) (tFor wi g tb) := by
  intro pins s σ H D I h
  refine wpAny_For (thn (hi pins s σ H _ I h) fun v s1 h1 => thn h1 fun itv s2 h2 => ?_) hs
  obtain ⟨it, fp, tn, J, H2, e, I2, T, st2, f2, W, ⟨m0, w0⟩, turn⟩ := h2
  subst e
  have stat : ∀ {H' : Hp}, (∀ b ∈ fp, H' b = none) → ∀ b ∈ fp, FpOk X pins H' b := fun hn b hb => ⟨hn b hb, (f2 b hb).2⟩
  refine codeAny_forLoop_any (fun n s' => ∃ i σ' H', Inv X pins σ' H' s' ∧ tn i s'.heap ∧ (∀ b ∈ fp, H' b = none) ∧ W i n σ' H') ?_ m0 ⟨0, σ, H2, I2, st2, fun b hb => (f2 b hb).1, w0⟩
  rintro n s3 ⟨i, σ3, H3, I3, st3, fr3, w3⟩
  rcases turn i n σ3 H3 w3 with ⟨stop, qn⟩ | ⟨go, N, hN, step⟩
  · refine wpAny_passesOwn hp (thn (T.done X rfl rfl rfl hc i pins s3 σ3 H3 X.xe I3 (stat fr3) st3 stop) fun r s4 ⟨hr, I4⟩ => ?_)
    subst hr
    exact wpAny_execs_nil ⟨σ3, H3, I4, qn⟩
  · refine wpAny_passesOwn hp (thn (T.item X rfl rfl rfl hc i pins s3 σ3 H3 X.xe I3 (stat fr3) st3 go) fun r s4 ⟨u, hr, h4⟩ => ?_)
    subst hr
    refine wpAny_passesOwn hp (thn h4 fun _ s5 ⟨x, H5, I5, r5, y5, st5, fr5⟩ => ?_)
    have I5' := I5.pinned (stat fr5) (T.obj _ _ st5)
    refine wpAny_passesOwn hp (thn (hg _ s5 σ3 H5 x u _ I5' r5 (step x H5 y5)) fun _ s6 ⟨σ6, H6, I6, q6⟩ => ?_)
    refine wpAny_passesOwn hp (thn (hb _ s6 σ6 H6 _ I6 q6) fun f s7 q7 => ?_)
    have again : ∀ {σ7 : St} {H7 : Hp}, Inv X (pins ++ pinsAt fp s5.heap) σ7 H7 s7 → N σ7 H7 → ∃ m, m < n ∧ ∃ i σ' H', Inv X pins σ' H' s7 ∧ tn i s7.heap ∧ (∀ b ∈ fp, H' b = none) ∧ W i m σ' H' := fun {σ7 H7} I7 n7 => by
      obtain ⟨m', hm, w7⟩ := hN σ7 H7 n7
      refine ⟨m', hm, i + 1, σ7, H7, I7.unpinned, T.keep _ _ _ st5 fun b hb o e => (I7.pin (b, o) (List.mem_append_right _ (List.mem_append_right _ (mem_pinsAt hb e)))).1, fun b hb => ?_, w7⟩
      obtain ⟨o, e, d⟩ := T.obj _ _ st5 b hb
      exact (I7.pin (b, o) (List.mem_append_right _ (List.mem_append_right _ (mem_pinsAt hb e)))).2.1
    cases f with
    | next => obtain ⟨σ7, H7, I7, n7⟩ := q7; exact again I7 n7
    | cont => obtain ⟨σ7, H7, I7, n7⟩ := q7; exact again I7 n7
    | brk => obtain ⟨σ7, H7, I7, q7⟩ := q7; exact ⟨σ7, H7, I7.unpinned, q7⟩
    | ret v => obtain ⟨x7, σ7, H7, I7, r7, q7⟩ := q7; exact ⟨x7, σ7, H7, I7.unpinned, r7, q7⟩
end

theorem for_list {K : PySem.W.Frag} {a : Addr} {xs : List V} {g : TG} {tb : TS} {D : Ends} {σ : St} {H : Hp} (Pv : Nat → St → Hp → Prop) (h0 : Pv 0 σ H) (hl : ∀ i σ H, i ≤ xs.length → Pv i σ H → SqL K H a xs)
    (hs : ∀ i x σ H, xs[i]? = some x → Pv i σ H → g x σ H fun σ2 H2 => tb { D with nx := Pv (i + 1), ct := Pv (i + 1), bk := D.nx } σ2 H2) (hd : ∀ σ H, Pv xs.length σ H → D.nx σ H) :
    ∃ W : Nat → Nat → St → Hp → Prop, (∃ m, W 0 m σ H) ∧ ∀ i m σ H, W i m σ H →
      ((Itl K a).stop i H ∧ D.nx σ H) ∨ ((Itl K a).go i H ∧ ∃ N : St → Hp → Prop, (∀ σ' H', N σ' H' → ∃ m', m' < m ∧ W (i + 1) m' σ' H') ∧ ∀ x H', (Itl K a).yld i H x H' → g x σ H' fun σ2 H2 => tb { D with nx := N, ct := N, bk := D.nx } σ2 H2) := by
  refine ⟨fun i m σ H => m = xs.length - i ∧ i ≤ xs.length ∧ Pv i σ H, ⟨xs.length, by simp, Nat.zero_le _, h0⟩, ?_⟩
  rintro i m σ H ⟨rfl, hi, p⟩
  have q := hl i σ H hi p
  by_cases hlt : i < xs.length
  · refine .inr ⟨⟨xs, xs[i], q, by simp [hlt]⟩, Pv (i + 1), fun σ' H' p' => ⟨xs.length - (i + 1), by lia, rfl, hlt, p'⟩, fun x H' y => ?_⟩
    obtain ⟨e, y⟩ := y
    subst e
    exact hs i x σ _ (y xs q) p
  · have e : i = xs.length := by lia
    subst e
    exact .inl ⟨⟨xs, q, Nat.le_refl _⟩, hd σ H p⟩
theorem for_range {lo : Int} {n : Nat} {g : TG} {tb : TS} {D : Ends} {σ : St} {H : Hp} (Pv : Nat → St → Hp → Prop) (h0 : Pv 0 σ H)
    (hs : ∀ i σ H, i < n → Pv i σ H → g (.int (lo + i)) σ H fun σ2 H2 => tb { D with nx := Pv (i + 1), ct := Pv (i + 1), bk := D.nx } σ2 H2) (hd : ∀ σ H, Pv n σ H → D.nx σ H) :
    ∃ W : Nat → Nat → St → Hp → Prop, (∃ m, W 0 m σ H) ∧ ∀ i m σ H, W i m σ H →
      ((Itr lo n).stop i H ∧ D.nx σ H) ∨ ((Itr lo n).go i H ∧ ∃ N : St → Hp → Prop, (∀ σ' H', N σ' H' → ∃ m', m' < m ∧ W (i + 1) m' σ' H') ∧ ∀ x H', (Itr lo n).yld i H x H' → g x σ H' fun σ2 H2 => tb { D with nx := N, ct := N, bk := D.nx } σ2 H2) := by
  refine ⟨fun i m σ H => m = n - i ∧ i ≤ n ∧ Pv i σ H, ⟨n, by simp, Nat.zero_le _, h0⟩, ?_⟩
  rintro i m σ H ⟨rfl, hi, p⟩
  by_cases hlt : i < n
  · refine .inr ⟨hlt, Pv (i + 1), fun σ' H' p' => ⟨n - (i + 1), by lia, rfl, hlt, p'⟩, fun x H' y => ?_⟩
    obtain ⟨e, y⟩ := y
    subst e y
    exact hs i σ _ hlt p
  · have e : i = n := by lia
    subst e
    exact .inl ⟨Nat.le_refl _, hd σ H p⟩
end L2

namespace L2
open PySem PySem.Spec PyProof.Rows

noncomputable abbrev R2 := V → V → Hp → VK → Prop
noncomputable def OpR (X : Cx) (f : Value → Value → Sem Value) (r : R2) : Prop :=
  ∀ (pins : List (Addr × Obj)) (s : Shared) (σ : St) (H : Hp) (x y : V) (v u : Value) (Q : VK), Inv X pins σ H s → RelV x v → RelV y u → r x y H Q →
    wpAny (model X.prog X.w) X.A (f v u) (EP X pins σ Q) X.xe s
noncomputable def UnR (X : Cx) (f : Value → Sem Value) (r : V → Hp → VK → Prop) : Prop :=
  ∀ (pins : List (Addr × Obj)) (s : Shared) (σ : St) (H : Hp) (x : V) (v : Value) (Q : VK), Inv X pins σ H s → RelV x v → r x H Q →
    wpAny (model X.prog X.w) X.A (f v) (EP X pins σ Q) X.xe s
noncomputable def CallR (X : Cx) (f : Value) (r : List V → Hp → VK → Prop) : Prop :=
  ∀ (pins : List (Addr × Obj)) (s : Shared) (σ : St) (H : Hp) (xs : List V) (us : List Value) (Q : VK), Inv X pins σ H s → Vals xs us → r xs H Q →
    wpAny (model X.prog X.w) X.A (call f us) (EP X pins σ Q) X.xe s
noncomputable def TruR (X : Cx) (r : V → Hp → (Bool → Hp → Prop) → Prop) : Prop :=
  ∀ (pins : List (Addr × Obj)) (s : Shared) (σ : St) (H : Hp) (x : V) (v : Value) (Q : Bool → Hp → Prop), Inv X pins σ H s → RelV x v → r x H Q →
    wpAny (model X.prog X.w) X.A (truthy v) (TP X pins σ Q) X.xe s

noncomputable def tOp (r : R2) (ta tb : TE) : TE := fun σ H Q => ta σ H fun x H1 => tb σ H1 fun y H2 => r x y H2 Q
noncomputable def tUn (r : V → Hp → VK → Prop) (ta : TE) : TE := fun σ H Q => ta σ H fun x H1 => r x H1 Q
inductive I_rI (C : Int → Int → Prop) (g : Int → Int → V) (x : V) (y : V) (H : Hp) (Q : VK) : Prop
  | mk : ∀ i j, (x = .int i) → (y = .int j) → (C i j) → (Q (g i j) H) → I_rI C g x y H Q
noncomputable def rI (C : Int → Int → Prop) (g : Int → Int → V) : R2 := fun x y H Q => I_rI C g x y H Q
inductive I_rI0 (g : Int → Int → V) (x : V) (y : V) (H : Hp) (Q : VK) : Prop
  | mk : ∀ i j, (x = .int i) → (y = .int j) → (Q (g i j) H) → I_rI0 g x y H Q
noncomputable def rI0 (g : Int → Int → V) : R2 := fun x y H Q => I_rI0 g x y H Q
inductive I_rU (g : Int → V) (x : V) (H : Hp) (Q : VK) : Prop
  | mk : ∀ i, (x = .int i) → (Q (g i) H) → I_rU g x H Q
noncomputable def rU (g : Int → V) : V → Hp → VK → Prop := fun x H Q => I_rU g x H Q

section
variable {X : Cx} {a b c : Expr} {ta tb tc : TE} {pos : Pos}

theorem binT (ha : PE X a ta) (hb : PE X b tb) {pins : List (Addr × Obj)} {s : Shared} {σ : St} {H : Hp} {R : V → V → Hp → Prop} (I : Inv X pins σ H s)
    (h : ta σ H fun x H1 => tb σ H1 fun y H2 => R x y H2) {Q : Value → Shared → Prop} {f : Value → Value → Sem Value}
    (hf : ∀ v u s2 x y H2, Inv X pins σ H2 s2 → RelV x v → RelV y u → R x y H2 → wpAny (model X.prog X.w) X.A (f v u) Q X.xe s2) :
    wpAny (model X.prog X.w) X.A (eval a X.env) (fun v s₁ => wpAny (model X.prog X.w) X.A (eval b X.env) (fun u s₂ => wpAny (model X.prog X.w) X.A (f v u) Q X.xe s₂) X.xe s₁) X.xe s := by
  refine thn (ha pins s σ H _ I h) fun v s1 ⟨x, H1, I1, r1, q1⟩ => ?_
  refine thn (hb pins s1 σ H1 _ I1 q1) fun u s2 ⟨y, H2, I2, r2, q2⟩ => ?_
  exact hf v u s2 x y H2 I2 r1 r2 q2

theorem pe_op {op : Operator} {r : R2} (ho : OpR X (binaryOp op) r) (ha : PE X a ta) (hb : PE X b tb) : PE X (.BinOp a op b pos) (tOp r ta tb) := by
  intro pins s σ H Q I h
  exact wpAny_BinOp (binT ha hb I h fun v u s2 x y H2 I2 rx ry q => ho pins s2 σ H2 x y v u Q I2 rx ry q)

theorem opI {f : Value → Value → Sem Value} {C : Int → Int → Prop} {g : Int → Int → Int}
    (rule : ∀ (i j : Int) (t u : Tok) (s : Shared) (Q : Value → Shared → Prop) (E : Value → Shared → Prop), C i j → Q (.int (g i j) s.toks) { s with toks := s.toks + 1 } → wpAny (model X.prog X.w) X.A (f (.int i t) (.int j u)) Q E s) :
    OpR X f (rI C fun i j => .int (g i j)) := by
  intro pins s σ H x y v u Q I rx ry h
  obtain ⟨i, j, rfl, rfl, hc, q⟩ := h
  obtain ⟨t, rfl⟩ := rx
  obtain ⟨t', rfl⟩ := ry
  exact rule i j t t' s _ _ hc ⟨.int (g i j), H, I.tok _, ⟨_, rfl⟩, q⟩
theorem opI0 {f : Value → Value → Sem Value} {g : Int → Int → Int}
    (rule : ∀ (i j : Int) (t u : Tok) (s : Shared) (Q : Value → Shared → Prop) (E : Value → Shared → Prop), Q (.int (g i j) s.toks) { s with toks := s.toks + 1 } → wpAny (model X.prog X.w) X.A (f (.int i t) (.int j u)) Q E s) :
    OpR X f (rI0 fun i j => .int (g i j)) := by
  intro pins s σ H x y v u Q I rx ry h
  obtain ⟨i, j, rfl, rfl, q⟩ := h
  obtain ⟨t, rfl⟩ := rx
  obtain ⟨t', rfl⟩ := ry
  exact rule i j t t' s _ _ ⟨.int (g i j), H, I.tok _, ⟨_, rfl⟩, q⟩
theorem opB0 {f : Value → Value → Sem Value} {g : Int → Int → Bool}
    (rule : ∀ (i j : Int) (t u : Tok) (s : Shared) (Q : Value → Shared → Prop) (E : Value → Shared → Prop), Q (.bool (g i j)) s → wpAny (model X.prog X.w) X.A (f (.int i t) (.int j u)) Q E s) :
    OpR X f (rI0 fun i j => .bl (g i j)) := by
  intro pins s σ H x y v u Q I rx ry h
  obtain ⟨i, j, rfl, rfl, q⟩ := h
  obtain ⟨t, rfl⟩ := rx
  obtain ⟨t', rfl⟩ := ry
  exact rule i j t t' s _ _ ⟨.bl (g i j), H, I, rfl, q⟩

noncomputable def CDiv (i j : Int) : Prop := 0 < j ∧ j < 1073741824
noncomputable def CDivN (i j : Int) : Prop := j ≠ 0 ∧ j.natAbs < 1073741824
noncomputable def CPow (i j : Int) : Prop := 0 ≤ j ∧ j ≤ 1000000 ∧ i.natAbs < 2 ^ 64
noncomputable def CMul (i j : Int) : Prop := (-(2 ^ 64) < i ∧ i < 2 ^ 64) ∨ (-(2 ^ 64) < j ∧ j < 2 ^ 64)
theorem CMul.ok {i j : Int} (h : CMul i j) : IntMulOk i j := by
  rcases h with ⟨h1, h2⟩ | ⟨h1, h2⟩
  · exact .of_left (intBits_le_64 h1 h2)
  · exact .of_right (intBits_le_64 h1 h2)
theorem two_pow_nn (k : Nat) : (0 : Int) ≤ 2 ^ k := by
  rw [two_pow_cast]
  exact Int.natCast_nonneg _

theorem op_add : OpR X (binaryOp .Add) (rI0 fun i j => .int (i + j)) := opI0 fun _ _ _ _ _ _ _ q => add_int q
theorem op_sub : OpR X (binaryOp .Sub) (rI0 fun i j => .int (i - j)) := opI0 fun _ _ _ _ _ _ _ q => sub_int q
theorem op_mul : OpR X (binaryOp .Mult) (rI CMul fun i j => .int (i * j)) := opI fun _ _ _ _ _ _ _ hc q => mul_int q hc.ok
theorem op_fdiv : OpR X (binaryOp .FloorDiv) (rI CDiv fun i j => .int (i / j)) := opI fun i j _ _ _ _ _ hc q => by
  have h1 : (0 : Int) < j := hc.1
  have h2 : j < 1073741824 := hc.2
  exact floordiv_int (by lia) (by rw [Int.fdiv_eq_ediv_of_nonneg i (by lia)]; exact q) (.inl (PyProof.noPylong_small (by lia)))
theorem op_mod : OpR X (binaryOp .Mod) (rI (fun _ j => 0 < j) fun i j => .int (i % j)) := opI fun i j _ _ _ _ _ hc q => by
  have h1 : (0 : Int) < j := hc
  exact mod_int' (by lia) (by rw [Int.fmod_eq_emod_of_nonneg i (by lia)]; exact q)
theorem op_shr : OpR X (binaryOp .RShift) (rI (fun _ j => 0 ≤ j) fun i j => .int (i / 2 ^ j.toNat)) := opI fun i j _ _ _ _ _ hc q =>
  rshift_int hc (by rw [Int.fdiv_eq_ediv_of_nonneg i (two_pow_nn _)]; exact q)



end

noncomputable def scal : V → V → Bool
  | .non, .non => true | .non, .int _ => true | .int _, .non => true | .non, .bl _ => true | .bl _, .non => true | .non, .str _ => true | .str _, .non => true
  | .int _, .int _ => true | .bl _, .bl _ => true | .str _, .str _ => true | .byt _, .byt _ => true
  | .int _, .str _ => true | .str _, .int _ => true | .bl _, .str _ => true | .str _, .bl _ => true
  | _, _ => false
noncomputable def rEq : R2 := fun x y H Q => scal x y = true ∧ Q (.bl (decide (x = y))) H
noncomputable def rNe : R2 := fun x y H Q => scal x y = true ∧ Q (.bl (!decide (x = y))) H

theorem dec_int {i j : Int} : decide (V.int i = V.int j) = (i == j) := by
  rw [Bool.eq_iff_iff]
  simp
theorem dec_bl {i j : Bool} : decide (V.bl i = V.bl j) = (i == j) := by
  rw [Bool.eq_iff_iff]
  simp
theorem dec_str {i j : Str} : decide (V.str i = V.str j) = (i == j) := by
  rw [Bool.eq_iff_iff]
  simp
theorem dec_byt {i j : Array UInt8} : decide (V.byt i = V.byt j) = (i.toList == j.toList) := by
  rw [Bool.eq_iff_iff]
  cases i
  cases j
  simp

section
variable {X : Cx} {a b c : Expr} {ta tb tc : TE} {pos : Pos}
theorem fin_bl {pins : List (Addr × Obj)} {σ : St} {H : Hp} {s : Shared} {Q : VK} {k k' : Bool} (I : Inv X pins σ H s) (q : Q (.bl k) H) (e : k = k') : EP X pins σ Q (.bool k') s := by
  subst e
  exact ⟨.bl k, H, I, rfl, q⟩
theorem op_eq : OpR X (compareOp .Eq) rEq := by
  intro pins s σ H x y v u Q I rx ry h
  obtain ⟨hs, q⟩ := h
  cases x with
  | non =>
    cases rx
    cases y with
    | non => cases ry; exact PySem.EqNone.eq_none_none (fin_bl I q (by simp))
    | bl j => cases ry; exact PySem.EqNone.eq_none_bool (fin_bl I q (by simp))
    | int j => obtain ⟨t', rfl⟩ := ry; exact PySem.EqNone.eq_none_int (fin_bl I q (by simp))
    | str j => obtain ⟨t', rfl⟩ := ry; exact PySem.EqNone.eq_none_str (fin_bl I q (by simp))
    | _ => exact absurd (show false = true from hs) Bool.false_ne_true
  | bl i =>
    cases rx
    cases y with
    | non => cases ry; exact PySem.EqNone.eq_bool_none (fin_bl I q (by simp))
    | bl j => cases ry; exact eq_bool (fin_bl I q dec_bl)
    | str j => obtain ⟨t', rfl⟩ := ry; exact PySem.EqMixed.eq_bool_str (fin_bl I q (by simp))
    | _ => exact absurd (show false = true from hs) Bool.false_ne_true
  | int i =>
    obtain ⟨t, rfl⟩ := rx
    cases y with
    | non => cases ry; exact PySem.EqNone.eq_int_none (fin_bl I q (by simp))
    | int j => obtain ⟨t', rfl⟩ := ry; exact eq_int (fin_bl I q dec_int)
    | str j => obtain ⟨t', rfl⟩ := ry; exact PySem.EqMixed.eq_int_str (fin_bl I q (by simp))
    | _ => exact absurd (show false = true from hs) Bool.false_ne_true
  | str i =>
    obtain ⟨t, rfl⟩ := rx
    cases y with
    | non => cases ry; exact PySem.EqNone.eq_str_none (fin_bl I q (by simp))
    | bl j => cases ry; exact PySem.EqMixed.eq_str_bool (fin_bl I q (by simp))
    | int j => obtain ⟨t', rfl⟩ := ry; exact PySem.EqMixed.eq_str_int (fin_bl I q (by simp))
    | str j => obtain ⟨t', rfl⟩ := ry; exact eq_str (fin_bl I q dec_str)
    | _ => exact absurd (show false = true from hs) Bool.false_ne_true
  | byt i =>
    obtain ⟨t, rfl⟩ := rx
    cases y with
    | byt j => obtain ⟨t', rfl⟩ := ry; exact PySem.W.eq_bytes (fin_bl I q dec_byt)
    | _ => exact absurd (show false = true from hs) Bool.false_ne_true
  | _ => cases y <;> exact absurd (show false = true from hs) Bool.false_ne_true
theorem op_ne : OpR X (compareOp .NotEq) rNe := by
  intro pins s σ H x y v u Q I rx ry h
  obtain ⟨hs, q⟩ := h
  cases x with
  | non =>
    cases rx
    cases y with
    | non => cases ry; exact PySem.EqNone.ne_none_none (fin_bl I q (by simp))
    | bl j => cases ry; exact PySem.EqNone.ne_none_bool (fin_bl I q (by simp))
    | int j => obtain ⟨t', rfl⟩ := ry; exact PySem.EqNone.ne_none_int (fin_bl I q (by simp))
    | str j => obtain ⟨t', rfl⟩ := ry; exact PySem.EqNone.ne_none_str (fin_bl I q (by simp))
    | _ => exact absurd (show false = true from hs) Bool.false_ne_true
  | bl i =>
    cases rx
    cases y with
    | non => cases ry; exact PySem.EqNone.ne_bool_none (fin_bl I q (by simp))
    | bl j => cases ry; exact ne_bool (fin_bl I q (congrArg not dec_bl))
    | str j => obtain ⟨t', rfl⟩ := ry; exact PySem.EqMixed.ne_bool_str (fin_bl I q (by simp))
    | _ => exact absurd (show false = true from hs) Bool.false_ne_true
  | int i =>
    obtain ⟨t, rfl⟩ := rx
    cases y with
    | non => cases ry; exact PySem.EqNone.ne_int_none (fin_bl I q (by simp))
    | int j => obtain ⟨t', rfl⟩ := ry; exact ne_int (fin_bl I q (congrArg not dec_int))
    | str j => obtain ⟨t', rfl⟩ := ry; exact PySem.EqMixed.ne_int_str (fin_bl I q (by simp))
    | _ => exact absurd (show false = true from hs) Bool.false_ne_true
  | str i =>
    obtain ⟨t, rfl⟩ := rx
    cases y with
    | non => cases ry; exact PySem.EqNone.ne_str_none (fin_bl I q (by simp))
    | bl j => cases ry; exact PySem.EqMixed.ne_str_bool (fin_bl I q (by simp))
    | int j => obtain ⟨t', rfl⟩ := ry; exact PySem.EqMixed.ne_str_int (fin_bl I q (by simp))
    | str j => obtain ⟨t', rfl⟩ := ry; exact ne_str (fin_bl I q (congrArg not dec_str))
    | _ => exact absurd (show false = true from hs) Bool.false_ne_true
  | byt i =>
    obtain ⟨t, rfl⟩ := rx
    cases y with
    | byt j => obtain ⟨t', rfl⟩ := ry; exact PySem.W.ne_bytes (fin_bl I q (congrArg not dec_byt))
    | _ => exact absurd (show false = true from hs) Bool.false_ne_true
  | _ => cases y <;> exact absurd (show false = true from hs) Bool.false_ne_true

theorem op_lt : OpR X (compareOp .Lt) (rI0 fun i j => .bl (decide (i < j))) := opB0 fun _ _ _ _ _ _ _ q => lt_int q
theorem op_gt : OpR X (compareOp .Gt) (rI0 fun i j => .bl (decide (j < i))) := opB0 fun _ _ _ _ _ _ _ q => gt_int q


noncomputable def isObj : HO → Bool
  | .lst _ => true
  | .ins _ _ _ => true
  | _ => false


theorem nomark (b : Expr) {op : CmpOp} (h : op ≠ .In := by decide) (h2 : op ≠ .NotIn := by decide) : behindInMarks op b = false := by
  have e1 : (op == CmpOp.In) = false := by cases op <;> first | rfl | exact absurd rfl h
  have e2 : (op == CmpOp.NotIn) = false := by cases op <;> first | rfl | exact absurd rfl h2
  cases b <;> simp [behindInMarks, e1, e2]
theorem pe_cmpR {op : CmpOp} {r : R2} (ho : OpR X (compareOp op) r) (ha : PE X a ta) (hb : PE X b tb) (hm : behindInMarks op b = false) : PE X (.Compare a [op] [b] pos) (tOp r ta tb) := by
  intro pins s σ H Q I h
  exact wpAny_Compare1 (binT ha hb I h fun v u s2 x y H2 I2 rx ry q => ho pins s2 σ H2 x y v u Q I2 rx ry q) hm
inductive I_tTest (x : V) (H' : Hp) (Q : Bool → Hp → Prop) : Prop
  | mk : ∀ k, (x = .bl k) → (Q k H') → I_tTest x H' Q
noncomputable def tTest (t : TE) : TT := fun σ H Q => t σ H fun x H' => I_tTest x H' Q
theorem pt_cmpR {op : CmpOp} {r : R2} (ho : OpR X (compareOp op) r) (ha : PE X a ta) (hb : PE X b tb) (hm : behindInMarks op b = false) : PT X (.Compare a [op] [b] pos) (tTest (tOp r ta tb)) := by
  intro pins s σ H Q I h
  refine wpAny_isTrue_Compare1 (thn (ha pins s σ H _ I h) fun v s1 ⟨x, H1, I1, r1, q1⟩ => thn (hb pins s1 σ H1 _ I1 q1) fun u s2 ⟨y, H2, I2, r2, q2⟩ =>
    thn (ho pins s2 σ H2 x y v u _ I2 r1 r2 q2) fun c s3 ⟨z, H3, I3, r3, k, e, q3⟩ => ?_) hm
  subst e
  cases r3
  exact wpAny_truthy_bool ⟨H3, I3, q3⟩
noncomputable def tChain (r r' : R2) (ta tb tc : TE) : TE := fun σ H Q => ta σ H fun x H1 => tb σ H1 fun y H2 => r x y H2 fun z H3 => ∃ k, z = .bl k ∧
  (if k = true then tc σ H3 fun w' H4 => r' y w' H4 Q else Q (.bl false) H3)

noncomputable def TruV (K : PySem.W.Frag) (x : V) (H : Hp) (k : Bool) : Prop :=
  match x with
  | .non => k = false
  | .bl b => k = b
  | .int i => k = (i != 0)
  | .str y => y.length ≤ sizeLine ∧ k = ((y.length : Int) != 0)
  | .byt y => y.size ≤ sizeLine ∧ k = ((y.size : Int) != 0)
  | .ref p => (∃ xs, SqL K H p xs ∧ k = !xs.isEmpty) ∨ (∃ xs, SqT K H p xs ∧ k = !xs.isEmpty) ∨ ∃ kvs, H p = some (.dK kvs) ∧ k = !kvs.isEmpty
  | _ => False
theorem isEmpty_kv {κ : Type} {kvs : List (κ × V)} {vs : List (κ × Value)} (r : KV kvs vs) : (!vs.isEmpty) = !kvs.isEmpty := by
  cases r <;> rfl
theorem isEmpty_of {xs : List V} {its : List Value} (r : Vals xs its) : (!its.toArray.isEmpty) = !xs.isEmpty := by
  cases r <;> simp
theorem line63 : (sizeLine : Nat) < 2 ^ 63 := by rw [sizeLine_eq]; decide
theorem tru_ok : TruR X (fun x H Q => ∃ k, TruV X.K x H k ∧ Q k H) := by
  intro pins s σ H x v Q I rx h
  obtain ⟨k, e, q⟩ := h
  have hl := line63
  have hs : sizeLine = 16777216 := sizeLine_eq
  cases x with
  | non =>
    cases rx
    have e' : k = false := e
    subst e'
    exact truthy_none ⟨H, I, q⟩
  | bl b =>
    cases rx
    have e' : k = b := e
    subst e'
    exact wpAny_truthy_bool ⟨H, I, q⟩
  | int i =>
    obtain ⟨t, rfl⟩ := rx
    have e' : k = (i != 0) := e
    subst e'
    exact PySem.P.truthy_int ⟨H, I, q⟩
  | str y =>
    obtain ⟨t, rfl⟩ := rx
    obtain ⟨hy, e'⟩ : y.length ≤ sizeLine ∧ k = ((y.length : Int) != 0) := e
    subst e'
    exact PySem.P.truthy_str (by lia) ⟨H, I.tok _, q⟩
  | byt y =>
    obtain ⟨t, rfl⟩ := rx
    obtain ⟨hy, e'⟩ : y.size ≤ sizeLine ∧ k = ((y.size : Int) != 0) := e
    subst e'
    exact PySem.W.truthy_bytes (by lia) ⟨H, I.tok _, q⟩
  | ref p =>
    cases rx
    have e' : (∃ xs, SqL X.K H p xs ∧ k = !xs.isEmpty) ∨ (∃ xs, SqT X.K H p xs ∧ k = !xs.isEmpty) ∨ ∃ kvs, H p = some (.dK kvs) ∧ k = !kvs.isEmpty := e
    rcases e' with ⟨xs, hx, e'⟩ | ⟨xs, hx, e'⟩ | ⟨kvs, hx, e'⟩
    · subst e'
      obtain ⟨its, r, pl, hz⟩ := I.list hx
      have hlen := r.length
      exact wpAny_truthy_list pl.isList (by simp only [List.size_toArray]; lia) ⟨H, I.tok _, by rw [isEmpty_of r]; exact q⟩
    · subst e'
      obtain ⟨its, r, pl, hz⟩ := I.tuple hx
      have hlen := r.length
      exact truthy_tuple pl (by simp only [List.size_toArray]; lia) ⟨H, I.tok _, by rw [isEmpty_of r]; exact q⟩
    · subst e'
      obtain ⟨hz, hS, vs, r, m⟩ : kvs.length ≤ sizeLine ∧ (p == sysModules) = false ∧ ∃ vs, KV kvs vs ∧ s.heap.DictOf (mixKind X.prog X.w) p vs := I.hok p _ hx
      have hlen : kvs.length = vs.length := Paired.length r
      exact wpAny_truthy_dict hS m (by lia) ⟨H, I.tok _, by rw [isEmpty_kv r]; exact q⟩
  | _ => exact (show False from e).elim
theorem pt_truth (ha : PE X a ta) (he : ∀ whole, isTrue a X.env whole = (do let v ← whole; standAt a.pos; holding [v] (truthy v))) :
    PT X a (fun σ H Q => ta σ H fun x H' => ∃ k, TruV X.K x H' k ∧ Q k H') := by
  intro pins s σ H Q I h
  exact isTrue_plain (thn (ha pins s σ H _ I h) fun v s1 ⟨x, H1, I1, r1, q1⟩ => tru_ok pins s1 σ H1 x v Q I1 r1 q1) (he _)


noncomputable def PlainIxT (b : Expr) : Prop := ∀ o i, subscripted b false o i = operate [o, i] (getItem o i)

theorem vals1 {x : V} {us : List Value} (r : Vals [x] us) : ∃ u, us = [u] ∧ RelV x u := by
  cases r with
  | cons r1 r2 => cases r2; exact ⟨_, rfl, r1⟩
noncomputable def LenV (K : PySem.W.Frag) (x : V) (H : Hp) (n : Nat) : Prop :=
  match x with
  | .str y => y.length ≤ sizeLine ∧ n = y.length
  | .byt y => y.size ≤ sizeLine ∧ n = y.size
  | .ref p => (∃ xs, SqL K H p xs ∧ n = xs.length) ∨ ∃ xs, SqT K H p xs ∧ n = xs.length
  | _ => False
end
end L2

namespace L2
open PySem PySem.Spec PyProof.Rows

structure ObjM (h : Heap) (x dx C : Addr) (mA : Str → Option Value) : Prop where
  obj : h.get? x = some (PySem.W.instObj C dx)
  ns : h.Ns1 dx mA
  ne : dx ≠ x

theorem lookIn_ns {h : Heap} {dx : Addr} {mA : Str → Option Value} (n : h.Ns1 dx mA) : ∃ od, h.get? dx = some od ∧ ∀ name, PySem.W.lookIn name od = some (mA name) := by
  obtain ⟨o, es, ep, ho, hd, hk, _, hm⟩ := n
  refine ⟨o, ho, fun name => ?_⟩
  have e := hm name
  unfold nsFind findBy at e
  rw [← Array.find?_toList] at e
  unfold PySem.W.lookIn
  rw [hd]
  dsimp only
  split
  · rename_i y q
    rw [q] at e
    exact congrArg some e
  · rename_i q
    rw [q] at e
    have a : es.toList.any (·.refKey) = false := by
      rw [List.any_eq_false]
      intro y hy
      obtain ⟨z, t, hkey⟩ := hk y (Array.mem_toList_iff.mp hy)
      simp [DictEntry.refKey, hkey]
    have a' : ¬ es.toList.any (·.refKey) = true := by rw [a]; exact Bool.false_ne_true
    rw [if_neg a']
    exact congrArg some e

theorem ObjM.look {h : Heap} {x dx C : Addr} {mA : Str → Option Value} (I : ObjM h x dx C mA) : ∃ od, PySem.W.InstAt h x (PySem.W.instObj C dx) C (some od) ∧ ∀ name, PySem.W.lookIn name od = some (mA name) :=
  let ⟨od, ho, hl⟩ := lookIn_ns I.ns
  ⟨od, ⟨I.obj, rfl, rfl, ho⟩, hl⟩

section
variable {prog : Program} {w : World} {A : Around} {E : Value → Shared → Prop} {s : Shared} {K : PySem.W.Frag} {x dx C f : Addr} {mA : Str → Option Value} {name : Str} {v : Value}





end

noncomputable def putF (f : Str) (v : V) : List (Str × V) → List (Str × V)
  | [] => [(f, v)]
  | (g, x) :: r => if g = f then (g, v) :: r else (g, x) :: putF f v r

theorem RelO.some_of {v : V} {o : Option Value} (r : RelO (some v) o) : ∃ u, o = some u ∧ RelV v u := by
  cases o with
  | none => exact (show False from r).elim
  | some u => exact ⟨u, rfl, r⟩

section
variable {P : Program} {w : World} {H H' : Hp} {h h' : Heap} {a C dx : Addr} {fs fs' : List (Str × V)}
theorem ins_get (hok : HOk P w H h) (e : H a = some (.ins C dx fs)) : ∃ mA, ObjM h a dx C mA ∧ (∀ f, RelO (fs.lookup f) (mA f)) ∧ PySem.Within mA (fs.map (·.1)) ∧ fs.length ≤ 1000 ∧ H dx = some (.own a) := by
  obtain ⟨d, z, ne, ob, mA, n, r, q⟩ := (show ObjOk P w H h a (.ins C dx fs) from hok a _ e)
  exact ⟨mA, ⟨ob, n, ne⟩, r, q, z, d⟩
end

structure Cls (K : PySem.W.Frag) (C : Addr) : Prop where
  pg : PySem.W.plainGet K C Str.empty = true
  hd : PySem.W.hasDictIn K C = true
  po : PySem.W.plainOver K C = true
  sa : PySem.W.findIn K (.ref C) "__setattr__" = some (some (.builtin "object.__setattr__"))
theorem Cls.get {K : PySem.W.Frag} {C : Addr} (c : Cls K C) (f : Str) : PySem.W.plainGet K C f = true := c.pg
noncomputable def NoAttr (K : PySem.W.Frag) (C : Addr) (f : Str) : Prop := PySem.W.findIn K (.ref C) f = some none
structure Con (K : PySem.W.Frag) (C : Addr) (f : Str) (v : V) (u : Value) : Prop where
  at_ : PySem.W.findIn K (.ref C) f = some (some u)
  rel : RelV v u
  get : PySem.W.specialIn K u "__get__" = some none
  cp : PySem.W.copiedNames.contains f = false
structure Meth (K : PySem.W.Frag) (C : Addr) (m : Str) (f : Addr) : Prop where
  at_ : PySem.W.findIn K (.ref C) m = some (some (.ref f))
  fn : PySem.W.isFn K (.ref f) = true
  kp : PySem.W.keepIn K (.ref f) = true

section
variable {X : Cx} {pins : List (Addr × Obj)} {σ : St} {H : Hp} {s : Shared} {a C dx : Addr} {fs : List (Str × V)} {f : Str} {v : V} {A : Around} {E : Value → Shared → Prop}






end

noncomputable def tFld (K : PySem.W.Frag) (ta : TE) (f : Str) : TE := fun σ H Q => ta σ H fun x H1 => ∃ a C dx fs v, x = .ref a ∧ H1 a = some (.ins C dx fs) ∧ Cls K C ∧ NoAttr K C f ∧ fs.lookup f = some v ∧ Q v H1
noncomputable def tCon (K : PySem.W.Frag) (ta : TE) (f : Str) : TE := fun σ H Q => ta σ H fun x H1 => ∃ a C dx fs v u, x = .ref a ∧ H1 a = some (.ins C dx fs) ∧ Cls K C ∧ Con K C f v u ∧ fs.lookup f = none ∧ Q v H1
noncomputable def sFld (K : PySem.W.Frag) (ta tv : TE) (f : Str) : TS := fun D σ H => tv σ H fun y H1 => ta σ H1 fun x H2 => ∃ a C dx fs, x = .ref a ∧ H2 a = some (.ins C dx fs) ∧ Cls K C ∧ NoAttr K C f ∧ fs.length < 1000 ∧
  D.nx σ (upd H2 a (.ins C dx (putF f y fs)))
noncomputable def InOp (X : Cx) (op : Operator) (rd : V → V → Hp → VK → Prop) : Prop :=
  ∀ (pins : List (Addr × Obj)) (s : Shared) (σ : St) (H : Hp) (x y : V) (u v : Value) (Q : VK), Inv X pins σ H s → RelV x u → RelV y v → rd x y H Q → wpAny (model X.prog X.w) X.A (inplaceOp op u v) (EP X pins σ Q) X.xe s
noncomputable def sFldAug (K : PySem.W.Frag) (ta tv : TE) (rd : V → V → Hp → VK → Prop) (f : Str) : TS := fun D σ H => ta σ H fun x H1 => ∃ a C dx fs v, x = .ref a ∧ H1 a = some (.ins C dx fs) ∧ Cls K C ∧ NoAttr K C f ∧ fs.lookup f = some v ∧
  tv σ H1 fun y H2 => rd v y H2 fun z H3 => ∃ dx' fs', H3 a = some (.ins C dx' fs') ∧ fs'.length < 1000 ∧ D.nx σ (upd H3 a (.ins C dx' (putF f z fs')))

section
variable {X : Cx} {o e value : Expr} {f : Str} {pos pos' tpos : Pos} {ta tv : TE}
inductive I_rAdd (x : V) (y : V) (H : Hp) (Q : VK) : Prop
  | mk : ∀ i j, (x = .int i) → (y = .int j) → (Q (.int (i + j)) H) → I_rAdd x y H Q
noncomputable def rAdd : V → V → Hp → VK → Prop := fun x y H Q => I_rAdd x y H Q
inductive I_rSub (x : V) (y : V) (H : Hp) (Q : VK) : Prop
  | mk : ∀ i j, (x = .int i) → (y = .int j) → (Q (.int (i - j)) H) → I_rSub x y H Q
noncomputable def rSub : V → V → Hp → VK → Prop := fun x y H Q => I_rSub x y H Q

end

section
variable {X : Cx} {pins : List (Addr × Obj)} {σ : St} {H : Hp} {s : Shared} {A : Around} {E : Value → Shared → Prop} {Q : Value → Shared → Prop} {c : Value} {b : Bool}
inductive TyOf (K : PySem.W.Frag) (H : Hp) : V → Value → Prop where
  | non : TyOf K H .non (.type "NoneType")
  | bl (x : Bool) : TyOf K H (.bl x) (.type "bool")
  | int (i : Int) : TyOf K H (.int i) (.type "int")
  | str (x : Str) : TyOf K H (.str x) (.type "str")
  | flt (x : UInt64) : TyOf K H (.flt x) (.type "float")
  | lst {a : Addr} {xs : List V} (e : H a = some (.lst xs)) : TyOf K H (.ref a) (.type "list")
  | frz {a : Addr} {o : Obj} {xs : List V} (e : H a = some (.frz o (.lst xs))) : TyOf K H (.ref a) (.type "list")
  | tup {a : Addr} {xs : List V} (e : H a = some (.tup xs)) : TyOf K H (.ref a) (.type "tuple")
  | dK {a : Addr} {kvs : List (Key × V)} (e : H a = some (.dK kvs)) : TyOf K H (.ref a) (.type "dict")
  | dT {a : Addr} {kvs : List (List Key × V)} (e : H a = some (.dT kvs)) : TyOf K H (.ref a) (.type "dict")
  | ins {a C dx : Addr} {fs : List (Str × V)} (e : H a = some (.ins C dx fs)) (cl : Cls K C) (ha : PySem.W.findIn K (.ref C) "__class__" = some (some (.builtin "object.__class__")))
      (hn : PySem.W.specialIn K (.builtin "object.__class__") "__get__" = some (some (.builtin "getset_descriptor.__get__"))) (htk : PySem.W.takesIn K (.builtin "object.__class__") = some true)
      (hm : PySem.W.mroIn K C (.type "object") = some true) : TyOf K H (.ref a) (.ref C)
theorem isinst_ok {x : V} {u t : Value} (I : Inv X pins σ H s) (rx : RelV x u) (ty : TyOf X.K H x t) (e : PySem.W.kitOne X.K t c = some b) (h : ∀ tk, Q (.bool b) { s with toks := tk }) :
    wpAny (model X.prog X.w) A (call (.builtin "isinstance") [u, c]) Q E s := by
  cases ty with
  | non => cases (show u = Value.none from rx); exact PySem.W.kia_one PySem.W.kitx_none I.kIn True.intro e (fun z => nomatch z) h
  | bl y => cases (show u = Value.bool y from rx); exact PySem.W.kia_one PySem.W.kitx_bool I.kIn True.intro e (fun z => nomatch z) h
  | int i => obtain ⟨t, q⟩ := (show ∃ t, u = Value.int i t from rx); cases q; exact PySem.W.kia_one PySem.W.kitx_int I.kIn True.intro e (fun z => nomatch z) h
  | str y => obtain ⟨t, q⟩ := (show ∃ t, u = Value.str y t from rx); cases q; exact PySem.W.kia_one PySem.W.kitx_str I.kIn True.intro e (fun z => nomatch z) h
  | flt y => obtain ⟨t, q⟩ := (show ∃ t, u = Value.float y t from rx); cases q; exact PySem.W.kia_one PySem.W.kitx_float I.kIn True.intro e (fun z => nomatch z) h
  | @lst a xs ea =>
    cases (show u = Value.ref a from rx)
    obtain ⟨_, _, n, _, h1⟩ := (show ObjOk X.prog X.w H s.heap a (.lst xs) from I.hok a _ ea)
    exact PySem.W.kia_one PySem.W.kitx_list I.kIn ⟨_, h1, rfl⟩ e (fun z => nomatch z) h
  | @frz a ob xs ea =>
    cases (show u = Value.ref a from rx)
    obtain ⟨_, _, _, n, _, h1⟩ := (show ObjOk X.prog X.w H s.heap a (.frz ob (.lst xs)) from I.hok a _ ea)
    exact PySem.W.kia_one PySem.W.kitx_list I.kIn ⟨_, h1, rfl⟩ e (fun z => nomatch z) h
  | @tup a xs ea =>
    cases (show u = Value.ref a from rx)
    obtain ⟨_, _, _, p⟩ := (show ObjOk X.prog X.w H s.heap a (.tup xs) from I.hok a _ ea)
    obtain ⟨o, h1, h2, _⟩ := p
    exact PySem.W.kia_one PySem.W.kitx_tuple I.kIn ⟨o, h1, h2⟩ e (fun z => nomatch z) h
  | @dK a kvs ea =>
    cases (show u = Value.ref a from rx)
    obtain ⟨_, _, vs, _, p⟩ := (show ObjOk X.prog X.w H s.heap a (.dK kvs) from I.hok a _ ea)
    obtain ⟨o, es, ep, h1, h2, _⟩ := p
    exact PySem.W.kia_one PySem.W.kitx_dict I.kIn ⟨o, h1, h2.1⟩ e (fun z => nomatch z) h
  | @dT a kvs ea =>
    cases (show u = Value.ref a from rx)
    obtain ⟨_, _, xs, _, o, es, ep, h1, h2, _⟩ := (show ObjOk X.prog X.w H s.heap a (.dT kvs) from I.hok a _ ea)
    exact PySem.W.kia_one PySem.W.kitx_dict I.kIn ⟨o, h1, h2.1⟩ e (fun z => nomatch z) h
  | @ins a C dx fs ea cl ha hn htk hm =>
    cases (show u = Value.ref a from rx)
    obtain ⟨mA, O, _⟩ := ins_get I.hok ea
    obtain ⟨od, J, _⟩ := O.look
    exact PySem.W.kia_one (PySem.W.kitx_own (cl.get _) cl.hd ha hn htk hm) I.kIn J e (fun z => nomatch z) h
end
end L2

namespace L2
open PySem PySem.Spec PyProof.Rows

structure Room (k : Nat) (A : Around) : Prop where
  hd : A.handled = none
  dp : A.depth + 3 * k + 5 < recursionLimit
  un : A.units + 16 * k + 200 < cLine
theorem Room.mono {j k : Nat} {A : Around} (r : Room k A) (h : j ≤ k) : Room j A := ⟨r.hd, by have := r.dp; lia, by have := r.un; lia⟩
theorem Room.deeper {k : Nat} {A : Around} (r : Room (k + 1) A) (env : Env) : Room k (A.deeper env) :=
  ⟨r.hd, by have := r.dp; show A.depth + 1 + 3 * k + 5 < _; lia, by have := r.un; show A.units + 3 + 16 * k + 200 < _; lia⟩
theorem Room.depth {k : Nat} {A : Around} (r : Room k A) : A.depth < recursionLimit := by have := r.dp; lia
theorem Room.units {k : Nat} {A : Around} (r : Room k A) : A.units + 64 < cLine := by have := r.un; lia

noncomputable def tNil : TA := fun _ H Q => Q [] H
noncomputable def tCons (ta : TE) (tr : TA) : TA := fun σ H Q => ta σ H fun x H1 => tr σ H1 fun xs H2 => Q (x :: xs) H2
section
variable {X : Cx} {e : Expr} {es : List Expr} {te : TE} {t : TA} {pos : Pos}
theorem pa_nil : PA X [] tNil := fun _ _ _ _ H Q I h => Calls.spliced_nil ⟨[], H, I, .nil, h⟩
theorem pa_cons (ha : PE X e te) (hr : PA X es t) (hs : starEach (e :: es) X.env = (false, eval e X.env) :: starEach es X.env := by rfl) : PA X (e :: es) (tCons te t) := by
  intro pos pins s σ H Q I h
  rw [hs]
  show wpAny _ _ (spliced ((false, eval e X.env) :: backTo pos (starEach es X.env))) _ _ s
  refine Calls.spliced_cons (thn (ha pins s σ H _ I h) fun u s1 ⟨x, H1, I1, r1, q1⟩ => ?_)
  exact thn (hr pos pins s1 σ H1 _ I1 q1) fun us s2 ⟨xs, H2, I2, r2, q2⟩ => ⟨x :: xs, H2, I2, .cons r1 r2, q2⟩

noncomputable def tTup (t : TA) : TE := fun σ H Q => t σ H fun xs H1 => xs.length ≤ sizeLine ∧ ∀ p, H1 p = none → Q (.ref p) (upd H1 p (.tup xs))
noncomputable def tLst (t : TA) : TE := fun σ H Q => t σ H fun xs H1 => xs.length ≤ sizeLine ∧ ∀ p, H1 p = none → Q (.ref p) (upd H1 p (.lst xs))
theorem pe_tup {x1} (h : PA X es t) : PE X (.Tuple es x1 pos) (tTup t) := by
  intro pins s σ H Q I hq
  refine wpAny_Tuple_spliced (thn (h pos pins s σ H _ I hq) fun us s1 ⟨xs, H1, I1, r, z, q⟩ => ⟨by rw [← r.length]; exact z, ?_⟩)
  have hf : H1 s1.heap.objs.size = none := I1.hok.fresh (Nat.le_refl _)
  refine ⟨.ref s1.heap.objs.size, upd H1 s1.heap.objs.size (.tup xs), I1.laid (t' := s1.toks) (fun b u e => Heap.get?_push_of_some _ e) (Nat.le_refl _) ?_, rfl, q _ hf⟩
  exact ⟨z, us, r, ⟨_, Heap.get?_push_size _ rfl, rfl, _, rfl⟩⟩
theorem pe_lst (h : PA X es t) : PE X (.List es pos) (tLst t) := by
  intro pins s σ H Q I hq
  refine wpAny_List_spliced (thn (h pos pins s σ H _ I hq) fun us s1 ⟨xs, H1, I1, r, z, q⟩ => ⟨by rw [← r.length]; exact z, ?_⟩)
  have hf : H1 s1.heap.objs.size = none := I1.hok.fresh (Nat.le_refl _)
  refine ⟨.ref s1.heap.objs.size, upd H1 s1.heap.objs.size (.lst xs), I1.laid (t' := s1.toks) (fun b u e => Heap.get?_push_of_some _ e) (Nat.le_refl _) ?_, rfl, q _ hf⟩
  exact ⟨z, us, 0, r, Heap.get?_push_size _ rfl⟩
end

noncomputable abbrev Sp := List V → Hp → VK → XK → Prop
noncomputable abbrev CXT := List Env → Hp → Shared → XK → Value → Shared → Prop

structure Env0 (P : Program) (w : World) (K : PySem.W.Frag) (mg : Str → Option Value) (base : Heap) (A : Around) (outer : List Env) (s : Shared) (H : Hp) : Prop where
  frames : A.frames = some outer
  mod : Mod K mg base
  bs : ∀ b o, base.get? b = some o → s.heap.get? b = some o ∧ H b = none
  bsz : base.objs.size ≤ s.heap.objs.size
  funs : s.heap.FunFrames base outer
  frf : ∀ b ∈ frs outer, H b = none
  hok : HOk P w H s.heap
  bare : AllBare s.gens
noncomputable def CE (outer : List Env) (P : Program) (w : World) (H : Hp) (s : Shared) (Q : VK) (u : Value) (s' : Shared) : Prop :=
  ∃ v H', s'.os = s.os ∧ AllBare s'.gens ∧ Un (frs outer) [] H H' s.heap s'.heap ∧ HOk P w H' s'.heap ∧ RelV v u ∧ Q v H'
noncomputable def CR (CX : CXT) (outer : List Env) (P : Program) (w : World) (H : Hp) (s : Shared) (Q : VK) (E : XK) (r : Result) (s' : Shared) : Prop :=
  match r with
  | .ok (.ret u) => CE outer P w H s Q u s'
  | .ok _ => False
  | .error e => CX outer H s E e s'
structure FnOk (P : Program) (w : World) (K : PySem.W.Frag) (mg : Str → Option Value) (base : Heap) (CX : CXT) (k : Nat) (f : Addr) (fd : FuncData) (ps : List Str) (sp : Sp) : Prop where
  len : ∀ vs H Q E, sp vs H Q E → vs.length = ps.length
  run : ∀ (A : Around) (outer : List Env) (s : Shared) (H : Hp) (args : Args) (us : List Value) (vs : List V) (Q : VK) (E : XK), Room k A → Env0 P w K mg base A outer s H → BindsTo s fd args (ps.zip us) → Vals vs us → sp vs H Q E →
    codeAny (model P w) A (.call (.ref f) args) (CR CX outer P w H s Q E) s


section
variable {X : Cx} {pins : List (Addr × Obj)} {σ : St} {H : Hp} {s s' : Shared}
theorem Inv.env0 (I : Inv X pins σ H s) : Env0 X.prog X.w X.K X.mg X.base X.A X.stack s H :=
  ⟨I.ok.frames, I.ok.mod, I.bs, Nat.le_trans I.ok.bsz I.sz, I.stack, I.stkFree, I.hok, I.bare⟩
theorem Inv.after {Q : VK} {u : Value} (I : Inv X pins σ H s) (h : CE X.stack X.prog X.w H s Q u s') : EP X pins σ Q u s' := by
  obtain ⟨v, H', os, bare, un, hok, r, q⟩ := h
  obtain ⟨hh, g, d, t, os'⟩ := s'
  obtain rfl : os' = s.os := os
  exact ⟨v, H', I.call (h' := hh) (g' := g) (d' := d) (t' := t) (ch := []) un hok bare (fun b z => absurd z (by simp)), r, q⟩
end

noncomputable def tCall (sp : Sp) (dvs : List V) (E : XK) (t : TA) : TE := fun σ H Q => t σ H fun vs H1 => sp (vs ++ dvs) H1 Q E
noncomputable def tMeth (C : Addr) (m : Str) (sp : Sp) (dvs : List V) (E : XK) (ta : TE) (t : TA) : TE := fun σ H Q => ta σ H fun x H1 => ∃ a dx fs, x = .ref a ∧ H1 a = some (.ins C dx fs) ∧ fs.lookup m = none ∧
  t σ H1 fun vs H2 => sp (x :: (vs ++ dvs)) H2 Q E
noncomputable def tMake (C : Addr) (sp : Sp) (dvs : List V) (E : XK) (t : TA) : TE := fun σ H Q => t σ H fun vs H1 => ∀ x dx, H1 x = none → H1 dx = none → dx ≠ x →
  sp (.ref x :: (vs ++ dvs)) (upd (upd H1 dx (.own x)) x (.ins C dx [])) (fun v H2 => v = .non ∧ Q (.ref x) H2) E

noncomputable def Binds (K : PySem.W.Frag) (fd : FuncData) (ps : List Str) (ds : List Value) : Prop :=
  ∀ (s : Shared) (us : List Value), K.In s.heap → (us ++ ds).length = ps.length → BindsTo s fd ⟨us, []⟩ (ps.zip (us ++ ds))
theorem Binds.all {K : PySem.W.Frag} {fd : FuncData} {ps : List Str} (h : ∀ us : List Value, us.length = ps.length → bindArgs fd ⟨us, []⟩ = pure (ps.zip us)) : Binds K fd ps [] := fun s us _ hl => by
  rw [List.append_nil] at hl ⊢
  exact .of_eq (h us hl)

noncomputable def Passes (CX : CXT) (X : Cx) (E : XK) : Prop := ∀ (pins : List (Addr × Obj)) (σ : St) (H : Hp) (s : Shared) (e : Value) (s' : Shared), Inv X pins σ H s → CX X.stack H s E e s' → X.xe e s'

section
variable {X : Cx} {CX : CXT} {k : Nat} {f C : Addr} {fd : FuncData} {ps : List Str} {sp : Sp} {dvs : List V} {ds : List Value} {E : XK} {x m : Str} {p pos apos : Pos} {e o : Expr} {es : List Expr} {ta : TE} {t : TA}

theorem run_fn {pins : List (Addr × Obj)} {σ : St} {H : Hp} {s : Shared} {Q : VK} {us : List Value} {vs : List V} (F : FnOk X.prog X.w X.K X.mg X.base CX k f fd ps sp) (hr : Room k X.A) (hb : Binds X.K fd ps ds) (hd : Vals dvs ds) (hx : Passes CX X E)
    (I : Inv X pins σ H s) (r : Vals vs us) (h : sp (vs ++ dvs) H Q E) : wpAny (model X.prog X.w) X.A (call (.ref f) us) (EP X pins σ Q) X.xe s := by
  have r2 : Vals (vs ++ dvs) (us ++ ds) := r.append hd
  have hl : (us ++ ds).length = ps.length := by rw [← r2.length]; exact F.len _ _ _ _ h
  refine wpAny_call (codeAny_mono (F.run X.A X.stack s H ⟨us, []⟩ (us ++ ds) (vs ++ dvs) Q E hr I.env0 (hb s us I.kIn hl) r2 h) fun r s' hq => ?_)
  cases r with
  | error e => exact hx pins σ H s e s' I hq
  | ok fl =>
    cases fl with
    | ret u => exact I.after hq
    | next => exact False.elim hq
    | brk => exact False.elim hq
    | cont => exact False.elim hq

theorem pe_call (F : FnOk X.prog X.w X.K X.mg X.base CX k f fd ps sp) (hr : Room k X.A) (hg : Gl X x) (hm : X.mg x = some (.ref f)) (hk : PySem.W.keepIn X.K (.ref f) = true) (hb : Binds X.K fd ps ds) (hd : Vals dvs ds) (hx : Passes CX X E)
    (ha : PA X (e :: es) t) (hdb : (x == ("__debug__" : Str)) = false := by decide) (he : starEach (e :: es) X.env = (false, eval e X.env) :: starEach es X.env := by rfl) (hpl : (backTo pos (starEach es X.env)).any (·.1) = false := by rfl) :
    PE X (.Call (.Name x p) (e :: es) [] pos) (tCall sp dvs E t) := by
  intro pins s σ H Q I h
  refine wpAny_Call_Name_kw (ld_glob I hg hm ?_ hdb)
  refine PySem.W.callWith_K (h₀ := X.base) I.ok.mod.kin hk (thn (ha pos pins s σ H _ I h) fun us s1 ⟨vs, H1, I1, r, q⟩ => ⟨I1.kIn, ?_⟩) he hpl
  exact run_fn F hr hb hd hx I1 r q


structure Mk (K : PySem.W.Frag) (C f : Addr) : Prop where
  makes : PySem.W.makesIn K C = true
  init : PySem.W.findIn K (.ref C) "__init__" = some (some (.ref f))
  fn : PySem.W.isFn K (.ref f) = true
  kp : PySem.W.keepIn K (.ref C) = true

end

noncomputable def PK (X : Cx) (kws : List Keyword) (t : TA) : Prop :=
  ∀ (pos : Pos) (pins : List (Addr × Obj)) (s : Shared) (σ : St) (H : Hp) (Q : List V → Hp → Prop), Inv X pins σ H s → t σ H Q → wpAny (model X.prog X.w) X.A (evalAll ((backToKw pos (keywordEach kws X.env)).map (·.2))) (AP X pins σ Q) X.xe s
section
variable {X : Cx} {CX : CXT} {k : Nat} {f C : Addr} {fd : FuncData} {ps ks : List Str} {sp : Sp} {E : XK} {x m : Str} {p pos apos kpos : Pos} {e o : Expr} {es : List Expr} {kws : List Keyword} {te ta : TE} {t tk : TA} {nm : Option Str}
theorem pk_nil : PK X [] tNil := fun _ _ _ _ H Q I h => wpAny_evalAll_nil ⟨[], H, I, .nil, h⟩
theorem pk_cons (ha : PE X e te) (hr : PK X kws t) : PK X (⟨nm, e, kpos⟩ :: kws) (tCons te t) := by
  intro pos pins s σ H Q I h
  show wpAny _ _ (evalAll ((do let v ← eval e X.env; standAt pos; pure v) :: (backToKw pos (keywordEach kws X.env)).map (·.2))) _ _ s
  refine wpAny_evalAll_cons (wpAny_bind (thn (ha pins s σ H _ I h) fun u s1 ⟨x, H1, I1, r1, q1⟩ => wpAny_bind (wpAny_standAt (wpAny_pure ?_))))
  exact thn (hr pos pins s1 σ H1 _ I1 q1) fun us s2 ⟨xs, H2, I2, r2, q2⟩ => ⟨x :: xs, H2, I2, .cons r1 r2, q2⟩

structure KBinds (K : PySem.W.Frag) (fd : FuncData) (ps ks : List Str) (g : List Value → List Value → List Value) (gV : List V → List V → List V) : Prop where
  to : ∀ (s : Shared) (us ws : List Value), K.In s.heap → (g us ws).length = ps.length → BindsTo s fd ⟨us, ks.zip ws⟩ (ps.zip (g us ws))
  rel : ∀ {vs : List V} {us : List Value} {zs : List V} {ws : List Value}, Vals vs us → Vals zs ws → Vals (gV vs zs) (g us ws)
noncomputable def tCallK (sp : Sp) (gV : List V → List V → List V) (E : XK) (t tk : TA) : TE := fun σ H Q => t σ H fun vs H1 => tk σ H1 fun zs H2 => sp (gV vs zs) H2 Q E
variable {g : List Value → List Value → List Value} {gV : List V → List V → List V}
end

structure FnScope (N P : List Str) (sc : Scope) : Prop where
  kind : sc.kind = .function
  co : sc.isCoroutine = false
  gen : sc.isGenerator = false
  nd : N.Nodup
  pre : N.take P.length = P
  par : ∀ x ∈ P, sc.names.lookup x = some .local ∨ sc.names.lookup x = some .cell
  nofree : ∀ y ∈ sc.names, y.2 ≠ .free

theorem bindL_out {kindOf : Str → Option NameKind} {x : Str} : ∀ {binds : List (Str × Value)} {m : Str → Option Value}, (∀ v, (x, v) ∉ binds) → bindL kindOf binds m x = m x
  | [], _, _ => rfl
  | (n, v) :: r, m, h => by
    unfold bindL
    rw [bindL_out fun w hw => h w (List.mem_cons_of_mem _ hw)]
    split
    · have : x ≠ n := by rintro rfl; exact h v List.mem_cons_self
      simp [this]
    · rfl
theorem bindC_out {kindOf : Str → Option NameKind} {x : Str} : ∀ {binds : List (Str × Value)} {m : Str → Option Value}, (∀ v, (x, v) ∉ binds) → bindC kindOf binds m x = m x
  | [], _, _ => rfl
  | (n, v) :: r, m, h => by
    unfold bindC
    rw [bindC_out fun w hw => h w (List.mem_cons_of_mem _ hw)]
    split
    · rfl
    · have : x ≠ n := by rintro rfl; exact h v List.mem_cons_self
      simp [this]
theorem bindL_get {kindOf : Str → Option NameKind} {x : Str} {v : Value} : ∀ {P : List Str} {vs : List Value} {i : Nat} {m : Str → Option Value}, P.Nodup → P[i]? = some x → vs[i]? = some v → kindOf x = some .local →
    bindL kindOf (P.zip vs) m x = some v
  | [], _, _, _, _, h, _, _ => by simp at h
  | _ :: _, [], _, _, _, _, h, _ => by simp at h
  | p :: P, w :: vs, 0, m, nd, h1, h2, hk => by
    simp at h1 h2; subst h1; subst h2
    show bindL kindOf ((p, w) :: P.zip vs) m p = _
    unfold bindL
    rw [bindL_out fun v hv => (List.nodup_cons.mp nd).1 (List.of_mem_zip hv).1, if_pos hk]
    simp
  | p :: P, w :: vs, i + 1, m, nd, h1, h2, hk => by
    show bindL kindOf ((p, w) :: P.zip vs) m x = _
    unfold bindL
    exact bindL_get (i := i) (List.nodup_cons.mp nd).2 (by simpa using h1) (by simpa using h2) hk
theorem bindC_get {kindOf : Str → Option NameKind} {x : Str} {v : Value} : ∀ {P : List Str} {vs : List Value} {i : Nat} {m : Str → Option Value}, P.Nodup → P[i]? = some x → vs[i]? = some v → kindOf x ≠ some .local →
    bindC kindOf (P.zip vs) m x = some v
  | [], _, _, _, _, h, _, _ => by simp at h
  | _ :: _, [], _, _, _, _, h, _ => by simp at h
  | p :: P, w :: vs, 0, m, nd, h1, h2, hk => by
    simp at h1 h2; subst h1; subst h2
    show bindC kindOf ((p, w) :: P.zip vs) m p = _
    unfold bindC
    rw [bindC_out fun v hv => (List.nodup_cons.mp nd).1 (List.of_mem_zip hv).1, if_neg hk]
    simp
  | p :: P, w :: vs, i + 1, m, nd, h1, h2, hk => by
    show bindC kindOf ((p, w) :: P.zip vs) m x = _
    unfold bindC
    exact bindC_get (i := i) (List.nodup_cons.mp nd).2 (by simpa using h1) (by simpa using h2) hk

noncomputable def start (N : List Str) (vs : List V) : St := vs.map some ++ List.replicate (N.length - vs.length) none

noncomputable def cxOf (CX : CXT) (P : Program) (w : World) (K : PySem.W.Frag) (mg : Str → Option Value) (base : Heap) (N : List Str) (qual : Str) (scope : Scope) (f : Addr) (cd : Value) (A : Around) (outer : List Env) (s : Shared) (H : Hp) (E : XK) : Cx where
  prog := P
  w := w
  K := K
  mg := mg
  base := base
  A := A.deeper (envOfC qual scope s.heap.objs.size f cd)
  N := N
  s₀ := s
  H₀ := H
  env := envOfC qual scope s.heap.objs.size f cd
  outer := outer
  stack := envOfC qual scope s.heap.objs.size f cd :: outer
  ex := []
  calm := true
  fn := fun _ => true
  pn := []
  xe := fun e s' => wpAny (model P w) (A.deeper (envOfC qual scope s.heap.objs.size f cd)) (leaving (envOfC qual scope s.heap.objs.size f cd) e) (fun _ s'' => CX outer H s E e s'') (fun e' s'' => CX outer H s E e' s'') s'

theorem cell_has {sc : Scope} {n : Nat} {x : Str} (h : sc.names.lookup x = some .cell) : ∃ c, (cellsFrom n sc.names []).lookup x = some c := by
  have q := PySem.W.cellsFrom_some sc.names n [] (.inl h)
  exact Option.isSome_iff_exists.mp q

theorem inv_start {CX : CXT} {P : Program} {w : World} {K : PySem.W.Frag} {mg : Str → Option Value} {base : Heap} {N ps : List Str} {qual : Str} {scope : Scope} {f : Addr} {cd : Value} {A : Around} {outer : List Env} {s s1 : Shared} {H : Hp} {E : XK} {us : List Value} {vs : List V}
    (S : FnScope N ps scope) (hd : A.handled = none) (e0 : Env0 P w K mg base A outer s H) (hl : vs.length = ps.length) (r : Vals vs us)
    (x : InCallC s s.heap.objs.size (bindL (envOfC qual scope s.heap.objs.size f cd).kindOf (ps.zip us) fun _ => none) (cellsFrom (s.heap.objs.size + 1) scope.names []) (bindC (envOfC qual scope s.heap.objs.size f cd).kindOf (ps.zip us) fun _ => none) s1) :
    Inv (cxOf CX P w K mg base N qual scope f cd A outer s H E) [] (start N vs) H s1 := by
  have hpl : ps.length ≤ N.length := by have := congrArg List.length S.pre; rw [List.length_take] at this; lia
  obtain ⟨h1, tk, rfl, hk⟩ := x.done
  have noA : ∀ b : Addr, b ∉ (cxOf CX P w K mg base N qual scope f cd A outer s H E).ex := fun b z => absurd (show b ∈ ([] : List Addr) from z) (by simp)
  refine ⟨⟨e0.mod, S.kind, rfl, rfl, Nat.le_refl _, fun y z c h1 h2 => ?_, fun y hy => ?_, fun y c _ h => ?_, fun _ => hd, Around.frames_deeper e0.frames, .inr ⟨rfl, rfl⟩, fun b z => absurd z (noA b), e0.bs, e0.bsz, fun b _ _ => noA b, fun b z => absurd z (noA b), e0.funs, e0.frf⟩,
    rfl, e0.bare, Un.kept hk, ⟨_, x.toInCall.ns, fun i y v h1 h2 h3 => ?_⟩, fun y c h => ⟨_, x.cell y c h⟩, e0.hok.fresh (Nat.le_refl _), fun y c h => ?_, fun p hp => absurd (show p ∈ ([] : List (Addr × Obj)) from hp) (by simp), e0.hok.kept hk, ?_⟩
  · exact name_of_addr x.apart (PySem.mem_of_lookup h1) (PySem.mem_of_lookup h2)
  · have hy : scope.names.lookup y = some .cell ∨ scope.names.lookup y = some .free := hy
    rcases hy with hy | hy
    · exact cell_has hy
    · exact absurd rfl (S.nofree _ (PySem.mem_of_lookup hy))
  · exact Nat.le_of_lt (x.above y c (PySem.mem_of_lookup h))
  · have hi : i < vs.length := by
      unfold start at h2
      by_cases hi : i < vs.length
      · exact hi
      · rw [List.getElem?_append_right (by simpa using hi)] at h2
        rw [List.getElem?_replicate] at h2
        split at h2 <;> cases h2
    have ha : vs[i]? = some v := by
      unfold start at h2
      rw [List.getElem?_append_left (by simpa using hi), List.getElem?_map] at h2
      cases e : vs[i]? with
      | none => rw [e] at h2; cases h2
      | some a => rw [e] at h2; cases h2; rfl
    obtain ⟨u, hu, rv⟩ := r.get ha
    have hp : ps[i]? = some y := by
      rw [← S.pre, List.getElem?_take_of_lt (by lia)]; exact h1
    have ndP : ps.Nodup := by rw [← S.pre]; exact S.nd.sublist (List.take_sublist _ _)
    refine ⟨u, rv, ?_⟩
    rcases S.par y (List.mem_of_getElem? hp) with k | k
    · exact .inl ⟨k, bindL_get ndP hp hu k⟩
    · obtain ⟨c, e⟩ := cell_has (n := s.heap.objs.size + 1) k
      refine .inr ⟨.inl k, c, e, ?_⟩
      have q := x.cell y c e
      rw [bindC_get ndP hp hu (by show scope.names.lookup y ≠ _; rw [k]; decide)] at q
      exact q
  · exact e0.hok.fresh (Nat.le_of_lt (x.above y c (PySem.mem_of_lookup h)))
  · unfold start
    show _ = N.length
    rw [List.length_append, List.length_map, List.length_replicate]
    lia

theorem fn_of {CX : CXT} {P : Program} {w : World} {K : PySem.W.Frag} {mg : Str → Option Value} {base : Heap} {k : Nat} {f : Addr} {name qual : Str} {params : Arguments} {body : List Stmt} {scope : Scope} {dV kV doc pm cdv ct oc : Value} {an od : Option Addr}
    {osl : Array (Option Value)} {N ps : List Str} {sp : Sp} (lk : K.lookup f = some ⟨oc, od, .func (PySem.W.fnOf name qual params body scope dV kV doc pm an cdv ct), osl⟩) (hcd : PySem.W.codeIn K cdv qual = true) (S : FnScope N ps scope)
    (len : ∀ vs H Q E, sp vs H Q E → vs.length = ps.length)
    (hbody : ∀ (A : Around) (outer : List Env) (s : Shared) (H : Hp) (vs : List V) (Q : VK) (E : XK), Room k (A.deeper (envOfC qual scope s.heap.objs.size f cdv)) → sp vs H Q E →
      ∃ t, PSs (cxOf CX P w K mg base N qual scope f cdv A outer s H E) body t ∧ t { nx := fun _ H' => Q .non H', rt := Q } (start N vs) H) :
    FnOk P w K mg base CX (k + 1) f (PySem.W.fnOf name qual params body scope dV kV doc pm an cdv ct) ps sp := by
  refine ⟨len, fun A outer s H args us vs Q E hr e0 hb r hsp => ?_⟩
  have hl := len _ _ _ _ hsp
  have KX : K.In s.heap := e0.mod.kin.keeps fun b o e => (e0.bs b o e).1
  have lim : s.heap.NoLimit := e0.mod.nolimit.keeps fun b o e => (e0.bs b o e).1
  have hkind : ∀ y ∈ ps.zip us, scope.names.lookup y.1 = some .local ∨ (scope.names.lookup y.1 = some .cell ∧ ((cellsFrom (s.heap.objs.size + 1) scope.names []).lookup y.1).isSome = true) := fun ⟨n, v⟩ hy => by
    rcases S.par n (List.of_mem_zip hy).1 with q | q
    · exact .inl q
    · exact .inr ⟨q, PySem.W.cellsFrom_some _ _ _ (.inl q)⟩
  refine codeAny_call_function hr.depth (KX _ _ lk) rfl S.co S.gen rfl (PySem.W.codeRec_of KX hcd) (hb _ _ _ _ ?_)
  refine wpAny_newFunctionEnv_cells S.kind hkind fun env he s1 x => ?_
  subst he
  refine ⟨lim.keeps x.toInCall.keep, codeAny_func ?_⟩
  obtain ⟨t, ht, hq⟩ := hbody A outer s H vs Q E (hr.deeper _) hsp
  have I : Inv (cxOf CX P w K mg base N qual scope f cdv A outer s H E) [] (start N vs) H s1 := inv_start S hr.hd e0 hl r x
  refine wpAny_mono (ht [] s1 (start N vs) H _ I hq) (fun fl s' hs => ?_) fun e s' hs => hs
  have fin : ∀ {σ' : St} {H' : Hp} {v : V} {u : Value}, Inv (cxOf CX P w K mg base N qual scope f cdv A outer s H E) [] σ' H' s' → RelV v u → Q v H' → CE outer P w H s Q u s' :=
    fun {σ' H' v u} J rv q => ⟨v, H', J.os, J.bare, J.base, J.hok, rv, q⟩
  cases fl with
  | ret u =>
    obtain ⟨v, σ', H', J, rv, q⟩ := hs
    exact fin J rv q
  | next =>
    obtain ⟨σ', H', J, q⟩ := hs
    exact fin (v := V.non) (u := Value.none) J rfl q
  | brk =>
    obtain ⟨_, _, _, q⟩ := hs
    exact False.elim q
  | cont =>
    obtain ⟨_, _, _, q⟩ := hs
    exact False.elim q
end L2

namespace L2
open PySem PySem.Spec PyProof.Rows
section
variable {X : Cx} {x : Str} {p pos : Pos} {e : Expr} {es : List Expr} {t : TA} {id T : String} {r : List V → Hp → VK → Prop}

noncomputable def tCB (r : List V → Hp → VK → Prop) (t : TA) : TE := fun σ H Q => t σ H fun vs H1 => r vs H1 Q
theorem pe_callB (hc : CallR X (.builtin id) r) (hg : Gl X x) (hm : X.mg x = none) (hv : bootBuiltins x = some (.builtin id)) (ha : PA X (e :: es) t) (hn : x ≠ "__name__" := by decide) (hdb : (x == ("__debug__" : Str)) = false := by decide)
    (he : starEach (e :: es) X.env = (false, eval e X.env) :: starEach es X.env := by rfl) (hpl : (backTo pos (starEach es X.env)).any (·.1) = false := by rfl) : PE X (.Call (.Name x p) (e :: es) [] pos) (tCB r t) := by
  intro pins s σ H Q I h
  refine wpAny_Call_Name_kw (ld_blt I hg hm hv ?_ hn hdb)
  exact PyProof.Rows.callWith_builtin1 (thn (ha pos pins s σ H _ I h) fun us s1 ⟨vs, H1, I1, r1, q1⟩ => hc pins s1 σ H1 vs us Q I1 r1 q1) he hpl
theorem pe_callTy (hc : CallR X (.type T) r) (hg : Gl X x) (hm : X.mg x = none) (hv : bootBuiltins x = some (.type T)) (ha : PA X (e :: es) t) (hn : x ≠ "__name__" := by decide) (hdb : (x == ("__debug__" : Str)) = false := by decide)
    (he : starEach (e :: es) X.env = (false, eval e X.env) :: starEach es X.env := by rfl) (hpl : (backTo pos (starEach es X.env)).any (·.1) = false := by rfl) : PE X (.Call (.Name x p) (e :: es) [] pos) (tCB r t) := by
  intro pins s σ H Q I h
  refine wpAny_Call_Name_kw (ld_blt I hg hm hv ?_ hn hdb)
  exact PyProof.Rows.callWith_type1 (thn (ha pos pins s σ H _ I h) fun us s1 ⟨vs, H1, I1, r1, q1⟩ => hc pins s1 σ H1 vs us Q I1 r1 q1) he hpl
end
end L2

namespace HT
open PySem PyProof.Rows

noncomputable def lexLt : List Int → List Int → Bool
  | [], [] => false
  | [], _ :: _ => true
  | _ :: _, [] => false
  | x :: xs, y :: ys => if x = y then lexLt xs ys else decide (x < y)


section
open PySem.SeqAt
open PySem.AutoSeq1 (wpAny_loadPart')
open PySem.MeetsSeq PySem.MeetsSeq2 PySem.MeetsSeq3

end

section
variable {prog : Program} {w : World} {A : Around} {E : Value → Shared → Prop} {s : Shared}


theorem cat_tup {t b : Addr} {vs ws : List Value} {Q : Value → Shared → Prop} (ht : IsTup s.heap t vs.toArray) (hb : IsTup s.heap b ws.toArray) (hv : vs ≠ [])
    (h1 : ws = [] → Q (.ref t) s) (h2 : ws ≠ [] → Q (.ref s.heap.objs.size) { s with heap := s.heap.push { cls := .type "tuple", data := .seq (vs ++ ws).toArray } })
    (hsz : vs.length + ws.length ≤ sizeLine) : wpAny (model prog w) A (binaryOp .Add (.ref t) (.ref b)) Q E s := by
  obtain ⟨⟨cls, dd, data, sl⟩, ho, hc, n, hd⟩ := id ht
  obtain ⟨⟨cls2, dd2, data2, sl2⟩, ho2, hc2, n2, hd2⟩ := id hb
  simp only at hc hd hc2 hd2
  subst hc hd hc2 hd2
  have e : vs.toArray ++ ws.toArray = (vs ++ ws).toArray := by simp
  by_cases hw : ws = []
  · exact concat_meets ⟨_, ho, rfl⟩ ⟨_, ho2, rfl⟩ noFill_tuple_add seq_tuple_add PySem.F.slot_tuple_add PySem.F.entry_tuple_add (PySem.F.args_tuple_add_2 _ _)
      (tuple_addW1 t b vs.toArray ws.toArray n n2 dd dd2 sl sl2 (by simpa using hv) (by simp [hw])) ⟨ho, ho2, h1 hw⟩
  · refine concat_meets ⟨_, ho, rfl⟩ ⟨_, ho2, rfl⟩ noFill_tuple_add seq_tuple_add PySem.F.slot_tuple_add PySem.F.entry_tuple_add (PySem.F.args_tuple_add_2 _ _)
      (tuple_addW2 t b vs.toArray ws.toArray n n2 dd dd2 sl sl2 (by simpa using hv) (by simpa using hw) (by rw [List.size_toArray, List.size_toArray]; exact hsz)) ⟨ho, ho2, ?_⟩
    rw [e]
    exact h2 hw

noncomputable def sIx (n d : Nat) : Option Int → Nat
  | none => d
  | some v => if v < 0 then (v + (n : Int)).toNat else min v.toNat n
theorem sIx_nat (n d k : Nat) : sIx n d (some (k : Int)) = min k n := by
  show (if (k : Int) < 0 then ((k : Int) + (n : Int)).toNat else min (k : Int).toNat n) = min k n
  rw [if_neg (by lia), Int.toNat_natCast]
theorem sIx_le (n d : Nat) (hd : d ≤ n) (o : Option Int) : sIx n d o ≤ n := by
  cases o with
  | none => exact hd
  | some v =>
    show (if v < 0 then (v + (n : Int)).toNat else min v.toNat n) ≤ n
    by_cases hv : v < 0
    · rw [if_pos hv]; lia
    · rw [if_neg hv]; exact Nat.min_le_right _ _
theorem clip_eq (v : Int) (n d : Nat) : (if v < 0 then max (v + (n : Int)) 0 else min v (n : Int)) = ((sIx n d (some v) : Nat) : Int) := by
  show (if v < 0 then max (v + (n : Int)) 0 else min v (n : Int)) = (((if v < 0 then (v + (n : Int)).toNat else min v.toNat n) : Nat) : Int)
  by_cases hv : v < 0
  · simp only [if_pos hv]; lia
  · simp only [if_neg hv]; lia
theorem adjust_gen (lo hi : Option Int) (n : Nat) : Builtin.Slice.sliceAdjust lo hi 1 (n : Int) = (((sIx n 0 lo : Nat) : Int), ((sIx n n hi : Nat) : Int)) := by
  have h1 : ¬ ((1 : Int) < 0) := by lia
  unfold Builtin.Slice.sliceAdjust
  simp only [h1, if_false]
  refine Prod.ext ?_ ?_
  · cases lo with
    | none => rfl
    | some v => exact clip_eq v n 0
  · cases hi with
    | none => rfl
    | some v => exact clip_eq v n n
theorem places_gen (i j : Nat) : Builtin.Slice.slicePlaces (i : Int) (j : Int) 1 = j - i := by
  unfold Builtin.Slice.slicePlaces
  have h1 : (1 : Int) > 0 := by lia
  simp only [h1, if_true, Int.ediv_one]
  split <;> lia
theorem slicePart_ {v : Value} {o : Option Int} {Q : Option Int → Shared → Prop} (p : IsPart v o) (h : Q o s) : wpAny (model prog w) A (Builtin.Slice.slicePartIndex v) Q E s := by
  cases p with
  | none => exact slicePart_none h
  | int i t => exact slicePart_int h
theorem sliceApplied_gen {sl : Addr} {vl vu : Value} {lo hi : Option Int} {n : Nat} {Q : Int × Int × Nat → Shared → Prop} (hs : s.heap.IsSliceOf sl vl vu .none) (pl : IsPart vl lo) (pu : IsPart vu hi)
    (h : Q (((sIx n 0 lo : Nat) : Int), 1, sIx n n hi - sIx n 0 lo) s) : wpAny (model prog w) A (Builtin.Slice.sliceApplied (.ref sl) (pure (n : Int))) Q E s := by
  obtain ⟨os, hos, hcs, hds⟩ := id hs
  unfold Builtin.Slice.sliceApplied Builtin.Slice.sliceFields
  refine wpAny_bind (wpAny_bind (wpAny_field hos hds (x := vl) rfl (wpAny_bind (wpAny_field hos hds (x := vu) rfl (wpAny_bind (wpAny_field hos hds (x := .none) rfl (wpAny_pure ?_)))))))
  refine wpAny_bind (slicePart_none ?_)
  show wpAny _ _ (if ((1 : Int) == 0) = true then _ else _) _ _ s
  rw [if_neg (by decide)]
  refine wpAny_bind (slicePart_ pl (wpAny_bind (slicePart_ pu (wpAny_bind (wpAny_pure ?_)))))
  show wpAny _ _ (match Builtin.Slice.sliceAdjust lo hi 1 (n : Int) with | (lo, hi) => pure (lo, (1 : Int), Builtin.Slice.slicePlaces lo hi 1)) _ _ s
  rw [adjust_gen lo hi n]
  show wpAny _ _ (pure (((sIx n 0 lo : Nat) : Int), (1 : Int), Builtin.Slice.slicePlaces ((sIx n 0 lo : Nat) : Int) ((sIx n n hi : Nat) : Int) 1)) _ _ s
  rw [places_gen]
  exact wpAny_pure h
theorem pick_gen (xs : Array Value) (i k : Nat) : ((List.range k).filterMap fun (m : Nat) => xs[((i : Int) + (m : Int) * 1).toNat]?).toArray = ((xs.toList.drop i).take k).toArray := by
  have e : (fun (m : Nat) => xs[((i : Int) + (m : Int) * 1).toNat]?) = fun m => xs[i + m]? := by
    funext m
    have : ((i : Int) + (m : Int) * 1).toNat = i + m := by lia
    rw [this]
  rw [e]
  have := pick_run xs i k
  rw [List.filterMap_map] at this
  have e2 : ((fun x => xs[x]?) ∘ fun x => i + x) = fun m => xs[i + m]? := rfl
  rw [e2] at this
  rw [this]

theorem getItem_tuple_cut {t sl : Addr} {items : Array Value} {vl vu : Value} {lo hi : Option Int} {Q : Value → Shared → Prop} (ht : IsTup s.heap t items) (hs : s.heap.IsSliceOf sl vl vu .none) (pl : IsPart vl lo) (pu : IsPart vu hi)
    (hw : ¬ (sIx items.size 0 lo = 0 ∧ sIx items.size items.size hi = items.size))
    (h : Q (.ref s.heap.objs.size) { s with heap := s.heap.push { cls := .type "tuple", data := .seq ((items.toList.drop (sIx items.size 0 lo)).take (sIx items.size items.size hi - sIx items.size 0 lo)).toArray } })
    (hsz : items.size ≤ sizeLine) : wpAny (model prog w) A (getItem (.ref t) (.ref sl)) Q E s := by
  have htake : sizeOk (.seq ((items.toList.drop (sIx items.size 0 lo)).take (sIx items.size items.size hi - sIx items.size 0 lo)).toArray) := by
    show ((items.toList.drop (sIx items.size 0 lo)).take (sIx items.size items.size hi - sIx items.size 0 lo)).toArray.size ≤ sizeLine
    rw [List.size_toArray, List.length_take, List.length_drop, Array.length_toList]
    lia
  have hj : sIx items.size items.size hi ≤ items.size := sIx_le _ _ (Nat.le_refl _) hi
  obtain ⟨os, hos, hcs, hds⟩ := id hs
  have hTs : s.TypeIs (.ref sl) "slice" := ⟨os, hos, hcs⟩
  unfold getItem
  try with_reducible refine wpAny_holding ?_
  first | refine wpAny_bind (wpAny_pure ?_) | skip
  refine wpAny_bind (wpAny_sequenceKey ht.typeIs (by decide) ?_)
  refine wpAny_bind (wpAny_callSpecial?_slot (name := Str.ofString "__getitem__") ht.typeIs PyProof.Rows.slot_tuple_getitem
    (wpAny_call_entry PyProof.Rows.slot_tuple_getitem ht.typeIs entry_tuple_getitem ?_ (args_tuple_getitem _ _)))
  show wpAny _ _ (Builtin.Tuple.tupleItemsOf (.ref t) >>= _) _ _ s
  refine wpAny_bind (tupleItemsOf_ ht ?_)
  refine wpAny_bind (wpAny_typeOf hTs ?_)
  rw [if_pos (by decide)]
  refine wpAny_bind (sliceApplied_gen hs pl pu ?_)
  have hno : ¬ ((((sIx items.size 0 lo : Nat) : Int) == 0 && (1 : Int) == 1 && (sIx items.size items.size hi - sIx items.size 0 lo) == items.size) = true) := by
    intro q
    rw [Bool.and_eq_true, Bool.and_eq_true] at q
    have q1 : ((sIx items.size 0 lo : Nat) : Int) = 0 := eq_of_beq q.1.1
    have q2 : sIx items.size items.size hi - sIx items.size 0 lo = items.size := eq_of_beq q.2
    exact hw ⟨by lia, by lia⟩
  show wpAny _ _ (if (((sIx items.size 0 lo : Nat) : Int) == 0 && (1 : Int) == 1 && (sIx items.size items.size hi - sIx items.size 0 lo) == items.size) = true then _ else _) _ _ s
  rw [if_neg hno, pick_gen]
  first
    | exact wpAny_bind (m := Builtin.Tuple.tupleExact _) (wpAny_newObj_type (wpAny_pure ⟨_, rfl, wpAny_pure h⟩) htake)
    | exact wpAny_bind (m := Builtin.Tuple.tupleExact _) (wpAny_newObj_type (wpAny_bind (wpAny_pure (wpAny_pure ⟨_, rfl, wpAny_pure h⟩))) htake)
    | exact wpAny_bind (wpAny_bind (m := Builtin.Tuple.tupleExact _) (wpAny_newObj_type (wpAny_pure (wpAny_pure ⟨_, rfl, wpAny_pure h⟩)) htake))
    | exact wpAny_bind (wpAny_bind (m := Builtin.Tuple.tupleExact _) (wpAny_newObj_type (wpAny_pure ⟨_, rfl, wpAny_pure h⟩) htake))
end
end HT

namespace L2
open PySem PySem.Spec PyProof.Rows

noncomputable abbrev TO := St → Hp → (Option Int → Hp → Prop) → Prop
noncomputable def PO (X : Cx) (e : Option Expr) (t : TO) : Prop :=
  ∀ (pins : List (Addr × Obj)) (s : Shared) (σ : St) (H : Hp) (Q : Option Int → Hp → Prop), Inv X pins σ H s → t σ H Q →
    wpAny (model X.prog X.w) X.A (evalPart e X.env) (fun u s' => ∃ o H', Inv X pins σ H' s' ∧ IsPart u o ∧ Q o H') X.xe s
noncomputable def tNoPart : TO := fun _ H Q => Q none H
inductive I_tPart (x : V) (H1 : Hp) (Q : Option Int → Hp → Prop) : Prop
  | mk : ∀ i, (x = .int i) → (Q (some i) H1) → I_tPart x H1 Q
noncomputable def tPart (t : TE) : TO := fun σ H Q => t σ H fun x H1 => I_tPart x H1 Q


section
variable {X : Cx} {e : Expr} {te : TE} {lo hi : Option Expr} {tl th : TO} {pos p2 : Pos}

theorem po_none : PO X none tNoPart := by
  intro pins s σ H Q I h
  rw [evalPart_none]
  exact wpAny_pure ⟨none, H, I, .none, h⟩
theorem po_some (h : PE X e te) : PO X (some e) (tPart te) := by
  intro pins s σ H Q I hw
  rw [evalPart_some]
  refine thn (h pins s σ H _ I hw) fun u s1 ⟨x, H1, I1, r1, q1⟩ => ?_
  obtain ⟨i, rfl, q⟩ := q1
  obtain ⟨t, rfl⟩ := r1
  exact ⟨some i, H1, I1, .int i t, q⟩

noncomputable def SlR (X : Cx) (r : V → Option Int → Option Int → Hp → VK → Prop) : Prop :=
  ∀ (pins : List (Addr × Obj)) (s : Shared) (σ : St) (H : Hp) (x : V) (v vl vu : Value) (lo hi : Option Int) (sl : Addr) (Q : VK), Inv X pins σ H s → RelV x v → s.heap.IsSliceOf sl vl vu .none → IsPart vl lo → IsPart vu hi → r x lo hi H Q →
    ∃ T id, typeLookup (.type T) "__getitem__" = pure (some (.builtin id)) ∧ s.TypeIs v T ∧ wpAny (model X.prog X.w) X.A (getItem v (.ref sl)) (EP X pins σ Q) X.xe s
noncomputable def tSl (r : V → Option Int → Option Int → Hp → VK → Prop) (te : TE) (tl th : TO) : TE := fun σ H Q => te σ H fun x H1 => tl σ H1 fun l H2 => th σ H2 fun u H3 => r x l u H3 Q
theorem pe_slice {r : V → Option Int → Option Int → Hp → VK → Prop} (hr : SlR X r) (he : PE X e te) (hl : PO X lo tl) (hu : PO X hi th) : PE X (.Subscript e (.Slice lo hi none p2) pos) (tSl r te tl th) := by
  intro pins s σ H Q I h
  refine Subscript_ (thn (he pins s σ H _ I h) fun v s1 ⟨x, H1, I1, r1, q1⟩ => ?_)
  refine wpAny_Slice (thn (hl pins s1 σ H1 _ I1 q1) fun vl s2 ⟨l, H2, I2, pl, q2⟩ => thn (hu pins s2 σ H2 _ I2 q2) fun vu s3 ⟨u, H3, I3, pu, q3⟩ => ?_)
  rw [evalPart_none]
  refine wpAny_pure ?_
  have I4 : Inv X pins σ H3 { s3 with heap := s3.heap.push { cls := .type "slice", data := .fields #[vl, vu, .none] } } := I3.kept (t' := s3.toks) fun b ob q => Heap.get?_push_of_some _ q
  obtain ⟨T, id, hT, ht, hg⟩ := hr pins { s3 with heap := s3.heap.push { cls := .type "slice", data := .fields #[vl, vu, .none] } } σ H3 x v vl vu l u s3.heap.objs.size Q I4 r1 (Heap.IsSliceOf.new ..) pl pu q3
  show wpAny (model X.prog X.w) X.A (subscriptTail e (.Slice lo hi none p2) v (.ref s3.heap.objs.size)) (EP X pins σ Q) X.xe { s3 with heap := s3.heap.push { cls := .type "slice", data := .fields #[vl, vu, .none] } }
  exact tail_any (ops := [.ref s3.heap.objs.size, v]) ht hT hg (by with_unfolding_all rfl)

noncomputable def cutV (xs : List V) (lo hi : Option Int) : List V := (xs.drop (HT.sIx xs.length 0 lo)).take (HT.sIx xs.length xs.length hi - HT.sIx xs.length 0 lo)
theorem cutV_length (xs : List V) (lo hi : Option Int) : (cutV xs lo hi).length ≤ xs.length := by
  unfold cutV
  rw [List.length_take, List.length_drop]
  lia
inductive I_rSlT (K : PySem.W.Frag) (x : V) (lo : Option Int) (hi : Option Int) (H : Hp) (Q : VK) : Prop
  | mk : ∀ a xs, (x = .ref a) → (SqT K H a xs) → (¬ (HT.sIx xs.length 0 lo = 0 ∧ HT.sIx xs.length xs.length hi = xs.length)) → (∀ p, H p = none → Q (.ref p) (upd H p (.tup (cutV xs lo hi)))) → I_rSlT K x lo hi H Q
noncomputable def rSlT (K : PySem.W.Frag) : V → Option Int → Option Int → Hp → VK → Prop := fun x lo hi H Q => I_rSlT K x lo hi H Q
theorem sl_tup : SlR X (rSlT X.K) := by
  intro pins s σ H x v vl vu lo hi sl Q I rx hs pl pu h
  obtain ⟨a, xs, rfl, hx, hw, q⟩ := h
  cases rx
  obtain ⟨its, r, ht, hz⟩ := I.tuple hx
  have hlen : its.toArray.size = xs.length := by rw [List.size_toArray]; exact r.length.symm
  refine ⟨"tuple", _, PyProof.Rows.slot_tuple_getitem.lookup, ht.typeIs, ?_⟩
  refine HT.getItem_tuple_cut ht hs pl pu (by rw [hlen]; exact hw) ?_ (by rw [hlen]; exact hz)
  rw [hlen]
  refine ⟨.ref s.heap.objs.size, _, I.laid (t' := s.toks) (o := .tup (cutV xs lo hi)) (fun b ob q => Heap.get?_push_of_some _ q) (Nat.le_refl _) ?_, rfl, q _ (I.hok.fresh (Nat.le_refl _))⟩
  exact ⟨Nat.le_trans (cutV_length xs lo hi) hz, _, (r.drop (HT.sIx xs.length 0 lo)).take (HT.sIx xs.length xs.length hi - HT.sIx xs.length 0 lo), IsTup.new _ _⟩

noncomputable def rLtT (K : PySem.W.Frag) : R2 := fun x y H Q => ∃ a b ns ms, x = .ref a ∧ y = .ref b ∧ SqT K H a (ns.map V.int) ∧ SqT K H b (ms.map V.int) ∧ Q (.bl (HT.lexLt ns ms)) H
noncomputable def rCatT (K : PySem.W.Frag) : R2 := fun x y H Q => ∃ a b xs ys, x = .ref a ∧ y = .ref b ∧ SqT K H a xs ∧ SqT K H b ys ∧ xs ≠ [] ∧ xs.length + ys.length ≤ sizeLine ∧
  (ys = [] → Q (.ref a) H) ∧ (ys ≠ [] → ∀ p, H p = none → Q (.ref p) (upd H p (.tup (xs ++ ys))))
theorem Vals.nil_iff {xs : List V} {us : List Value} (r : Vals xs us) : us = [] ↔ xs = [] := by
  cases r with
  | nil => simp
  | cons _ _ => simp
theorem op_catT : OpR X (binaryOp .Add) (rCatT X.K) := by
  intro pins s σ H x y v u Q I rx ry h
  obtain ⟨a, b, xs, ys, rfl, rfl, ha, hb, hx, hz, q1, q2⟩ := h
  cases rx
  cases ry
  obtain ⟨its, r1, p1, _⟩ := I.tuple ha
  obtain ⟨its2, r2, p2, _⟩ := I.tuple hb
  refine HT.cat_tup p1 p2 (fun z => hx (r1.nil_iff.mp z)) (fun z => ⟨.ref a, H, I, rfl, q1 (r2.nil_iff.mp z)⟩) (fun z => ?_) (by rw [← r1.length, ← r2.length]; exact hz)
  refine ⟨.ref s.heap.objs.size, _, I.laid (t' := s.toks) (o := .tup (xs ++ ys)) (fun b ob q => Heap.get?_push_of_some _ q) (Nat.le_refl _) ?_, rfl, q2 (fun w => z (r2.nil_iff.mpr w)) _ (I.hok.fresh (Nat.le_refl _))⟩
  exact ⟨by rw [List.length_append]; exact hz, _, r1.append r2, IsTup.new _ _⟩
end
end L2

namespace L2
open PySem PySem.Spec PyProof.Rows

noncomputable def ixN (n : Nat) (i : Int) : Option Nat := if 0 ≤ i then (if i < n then some i.toNat else none) else if -(n : Int) ≤ i then some (i + n).toNat else none
noncomputable def atI {α : Type} (xs : List α) (i : Int) : Option α := (ixN xs.length i).bind fun j => xs[j]?
theorem ixN_seq {n : Nat} {i : Int} {j : Nat} (h : ixN n i = some j) : seqIndex? i n = some j ∧ j < n ∧ -(n : Int) ≤ i ∧ i < n := by
  unfold ixN at h
  by_cases h0 : 0 ≤ i
  · rw [if_pos h0] at h
    by_cases h1 : i < n
    · rw [if_pos h1] at h
      have e : i.toNat = j := Option.some.inj h
      exact ⟨by rw [seqIndex_of h0 h1, e], by lia, by lia, h1⟩
    · rw [if_neg h1] at h; cases h
  · rw [if_neg h0] at h
    by_cases h1 : -(n : Int) ≤ i
    · rw [if_pos h1] at h
      have e : (i + n).toNat = j := Option.some.inj h
      exact ⟨by rw [seqIndex_neg (by lia) h1, e], by lia, h1, by lia⟩
    · rw [if_neg h1] at h; cases h
theorem atI_get {α : Type} {xs : List α} {i : Int} {v : α} (h : atI xs i = some v) : ∃ j, seqIndex? i xs.length = some j ∧ xs[j]? = some v ∧ j < xs.length ∧ -(xs.length : Int) ≤ i ∧ i < xs.length := by
  unfold atI at h
  cases e : ixN xs.length i with
  | none => rw [e] at h; cases h
  | some j =>
    rw [e] at h
    obtain ⟨h1, h2, h3, h4⟩ := ixN_seq e
    exact ⟨j, h1, h, h2, h3, h4⟩
theorem atI_nat {α : Type} {xs : List α} {j : Nat} {v : α} (h : xs[j]? = some v) : atI xs (j : Int) = some v := by
  have hj : j < xs.length := (List.getElem?_eq_some_iff.mp h).1
  have e : ixN xs.length (j : Int) = some j := by
    unfold ixN
    rw [if_pos (by lia), if_pos (by lia)]; simp
  unfold atI; rw [e]; exact h

noncomputable def PlainIx (b : Expr) : Prop := ∀ o i, subscripted b false o i = operate [o, i] (getItem o i)
noncomputable def IxR (X : Cx) (r : R2) : Prop :=
  ∀ (value slice : Expr) (pins : List (Addr × Obj)) (s : Shared) (σ : St) (H : Hp) (x y : V) (v u : Value) (Q : VK), Inv X pins σ H s → RelV x v → RelV y u → r x y H Q →
    subscripted slice false v u = operate [v, u] (getItem v u) → wpAny (model X.prog X.w) X.A (subscriptTail value slice v u) (EP X pins σ Q) X.xe s
noncomputable def MtR (X : Cx) (id : String) (r : V → List V → Hp → VK → Prop) : Prop :=
  ∀ (pins : List (Addr × Obj)) (s : Shared) (σ : St) (H : Hp) (x : V) (xs : List V) (v : Value) (us : List Value) (Q : VK), Inv X pins σ H s → RelV x v → Vals xs us → r x xs H Q →
    wpAny (model X.prog X.w) X.A (call (.builtin id) (v :: us)) (EP X pins σ Q) X.xe s
section
variable {X : Cx} {a b : Expr} {ta tb : TE} {pos : Pos}
theorem pe_ix {r : R2} (hr : IxR X r) (ha : PE X a ta) (hb : PE X b tb) (hs : PlainIx b) : PE X (.Subscript a b pos) (tOp r ta tb) := by
  intro pins s σ H Q I h
  exact Subscript_ (binT ha hb I h fun v u s2 x y H2 I2 rx ry q => hr a b pins s2 σ H2 x y v u Q I2 rx ry q (hs _ _))

inductive I_rIxL (K : PySem.W.Frag) (x : V) (y : V) (H : Hp) (Q : VK) : Prop
  | mk : ∀ p xs i v, (x = .ref p) → (y = .int i) → (SqL K H p xs) → (atI xs i = some v) → (Q v H) → I_rIxL K x y H Q
noncomputable def rIxL (K : PySem.W.Frag) : R2 := fun x y H Q => I_rIxL K x y H Q
inductive I_rIxT (K : PySem.W.Frag) (x : V) (y : V) (H : Hp) (Q : VK) : Prop
  | mk : ∀ p xs i v, (x = .ref p) → (y = .int i) → (SqT K H p xs) → (atI xs i = some v) → (Q v H) → I_rIxT K x y H Q
noncomputable def rIxT (K : PySem.W.Frag) : R2 := fun x y H Q => I_rIxT K x y H Q
noncomputable def rIxS : R2 := fun x y H Q => ∃ z i c, x = .str z ∧ y = .int i ∧ z.length ≤ sizeLine ∧ atI z.cps.toList i = some c ∧ Q (.str ⟨#[c]⟩) H
theorem ix_list : IxR X (rIxL X.K) := by
  intro value slice pins s σ H x y v u Q I rx ry h hs
  obtain ⟨p, xs, i, z, rfl, rfl, hq, he, q⟩ := h
  cases rx
  obtain ⟨t, rfl⟩ := ry
  obtain ⟨its, r, pl, hz⟩ := I.list hq
  obtain ⟨j, h1, h2, h3, h4, h5⟩ := atI_get he
  obtain ⟨w, ew, rw'⟩ := r.get h2
  have hl := r.length
  have hn := line63
  have fin : EP X pins σ Q w s := ⟨z, H, I, rw', q⟩
  by_cases h0 : 0 ≤ i
  · have hj : i.toNat = j := by
      rw [seqIndex_of h0 h5] at h1
      exact Option.some.inj h1
    exact item_listR pl.isList h0 (by lia) (by rw [hj]; simpa using ew) fin hs
  · have hj : (i + (its.toArray.size : Int)).toNat = j := by
      rw [seqIndex_neg (by lia) h4] at h1
      rw [List.size_toArray, ← hl]
      exact Option.some.inj h1
    exact subscriptTail_builtinR (x := w) pl.isList.typeIs slot_list_getitem.lookup
      (wpAny_getItem_list_neg (Q := fun r s' => r = w ∧ EP X pins σ Q r s') pl.isList (by lia) (by rw [List.size_toArray] <;> lia) (by lia) (by rw [hj]; simpa using ew) ⟨rfl, fin⟩) hs
theorem ix_tup : IxR X (rIxT X.K) := by
  intro value slice pins s σ H x y v u Q I rx ry h hs
  obtain ⟨p, xs, i, z, rfl, rfl, hq, he, q⟩ := h
  cases rx
  obtain ⟨t, rfl⟩ := ry
  obtain ⟨its, r, pl, hz⟩ := I.tuple hq
  obtain ⟨j, h1, h2, h3, h4, h5⟩ := atI_get he
  obtain ⟨w, ew, rw'⟩ := r.get h2
  have hl := r.length
  have hn := line63
  have fin : EP X pins σ Q w s := ⟨z, H, I, rw', q⟩
  exact subscriptTail_builtinR (x := w) pl.typeIs slot_tuple_getitem.lookup
    (getItem_tuple (j := j) (Q := fun r s' => r = w ∧ EP X pins σ Q r s') pl (by lia) (by lia) (by rw [List.size_toArray, ← hl]; exact h1) (by simpa using ew) ⟨rfl, fin⟩) hs
noncomputable def rIx (K : PySem.W.Frag) : R2 := fun x y H Q => rIxL K x y H Q ∨ rIxT K x y H Q ∨ rIxS x y H Q

noncomputable def rSetL : V → V → V → Hp → (Hp → Prop) → Prop := fun o i v H Q => ∃ p xs k j, o = .ref p ∧ i = .int k ∧ H p = some (.lst xs) ∧ ixN xs.length k = some j ∧ Q (upd H p (.lst (xs.set j v)))

theorem slice_bounds (lo hi : Option Int) (n : Nat) : (sliceBounds lo hi none n).1 = ((HT.sIx n 0 lo : Nat) : Int) ∧ (sliceBounds lo hi none n).2.1 = ((HT.sIx n n hi : Nat) : Int) ∧ (sliceBounds lo hi none n).2.2 = 1 := by
  refine ⟨?_, ?_, rfl⟩
  · cases lo with
    | none => simp [sliceBounds, HT.sIx]
    | some i =>
      simp only [sliceBounds, HT.sIx, Option.getD_none, show (1 : Int) > 0 by decide, if_true]
      by_cases h : i < 0
      · simp only [h, if_true] <;> lia
      · simp only [h, if_false] <;> lia
  · cases hi with
    | none => simp [sliceBounds, HT.sIx]
    | some i =>
      simp only [sliceBounds, HT.sIx, Option.getD_none, show (1 : Int) > 0 by decide, if_true]
      by_cases h : i < 0
      · simp only [h, if_true] <;> lia
      · simp only [h, if_false] <;> lia
theorem slicePick_cut (its : List Value) (lo hi : Option Int) : slicePick its.toArray lo hi none = ((its.drop (HT.sIx its.length 0 lo)).take (HT.sIx its.length its.length hi - HT.sIx its.length 0 lo)).toArray := by
  obtain ⟨h1, h2, h3⟩ := slice_bounds lo hi its.toArray.size
  unfold slicePick
  rw [h1, h2, h3]
  simp only [sliceRange_one, pick_run, List.size_toArray] <;> rfl
inductive I_rSlL (K : PySem.W.Frag) (x : V) (lo : Option Int) (hi : Option Int) (H : Hp) (Q : VK) : Prop
  | mk : ∀ a xs, (x = .ref a) → (SqL K H a xs) → (∀ p, H p = none → Q (.ref p) (upd H p (.lst (cutV xs lo hi)))) → I_rSlL K x lo hi H Q
noncomputable def rSlL (K : PySem.W.Frag) : V → Option Int → Option Int → Hp → VK → Prop := fun x lo hi H Q => I_rSlL K x lo hi H Q
theorem sl_list : SlR X (rSlL X.K) := by
  intro pins s σ H x v vl vu lo hi sl Q I rx hs pl pu h
  obtain ⟨a, xs, rfl, hx, q⟩ := h
  cases rx
  obtain ⟨its, r, ht, hz⟩ := I.list hx
  have hlen := r.length
  refine ⟨"list", _, slot_list_getitem.lookup, ht.isList.typeIs, ?_⟩
  refine wpAny_getItem_list_slice ht.isList hs pl pu .none (by simp) ?_ (by rw [List.size_toArray] <;> lia)
  rw [slicePick_cut, ← hlen]
  refine ⟨.ref s.heap.objs.size, _, I.laid (t' := s.toks) (o := .lst (cutV xs lo hi)) (fun b ob q => Heap.get?_push_of_some _ q) (Nat.le_refl _) ?_, rfl, q _ (I.hok.fresh (Nat.le_refl _))⟩
  exact ⟨Nat.le_trans (cutV_length xs lo hi) hz, _, 0, (r.drop (HT.sIx xs.length 0 lo)).take (HT.sIx xs.length xs.length hi - HT.sIx xs.length 0 lo), Heap.get?_push_size _ rfl⟩

noncomputable def flatV : V → Bool
  | .non => true
  | .bl _ => true
  | .int _ => true
  | .str _ => true
  | _ => false
noncomputable def eqV : V → V → Bool
  | .non, .non => true
  | .bl a, .bl b => a == b
  | .bl a, .int b => (if a then 1 else 0) == b
  | .int a, .bl b => a == (if b then 1 else 0)
  | .int a, .int b => a == b
  | .str a, .str b => a == b
  | _, _ => false
theorem eqAt_V {A : Around} {s : Shared} {y x : V} {u v : Value} (ry : RelV y u) (rx : RelV x v) (fy : flatV y = true) (fx : flatV x = true) : SeqAt.EqAt A s u v (eqV y x) := by
  cases y with
  | non =>
    cases ry
    cases x with
    | non => cases rx; exact SeqAt.EqAt.same _
    | bl b => cases rx; exact SeqAt.EqAt.none_bool b
    | int b => obtain ⟨t, rfl⟩ := rx; exact SeqAt.EqAt.none_int b t
    | str b => obtain ⟨t, rfl⟩ := rx; exact SeqAt.EqAt.none_str b t
    | _ => exact absurd (show false = true from fx) Bool.false_ne_true
  | bl a =>
    cases ry
    cases x with
    | non => cases rx; exact SeqAt.EqAt.bool_none a
    | bl b => cases rx; exact SeqAt.EqAt.bool_bool a b
    | int b => obtain ⟨t, rfl⟩ := rx; exact SeqAt.EqAt.bool_int a b t
    | str b => obtain ⟨t, rfl⟩ := rx; exact SeqAt.EqAt.bool_str a b t
    | _ => exact absurd (show false = true from fx) Bool.false_ne_true
  | int a =>
    obtain ⟨t', rfl⟩ := ry
    cases x with
    | non => cases rx; exact SeqAt.EqAt.int_none a t'
    | bl b => cases rx; exact SeqAt.EqAt.int_bool a t' b
    | int b => obtain ⟨t, rfl⟩ := rx; exact SeqAt.EqAt.int_int a t' b t
    | str b => obtain ⟨t, rfl⟩ := rx; exact SeqAt.EqAt.int_str a t' b t
    | _ => exact absurd (show false = true from fx) Bool.false_ne_true
  | str a =>
    obtain ⟨t', rfl⟩ := ry
    cases x with
    | non => cases rx; exact SeqAt.EqAt.str_none a t'
    | bl b => cases rx; exact SeqAt.EqAt.str_bool a t' b
    | int b => obtain ⟨t, rfl⟩ := rx; exact SeqAt.EqAt.str_int a t' b t
    | str b => obtain ⟨t, rfl⟩ := rx; exact SeqAt.EqAt.str_str a t' b t
    | _ => exact absurd (show false = true from fx) Bool.false_ne_true
  | _ => exact absurd (show false = true from fy) Bool.false_ne_true
noncomputable def eqU (x : V) (u : Value) : Bool := match u with
  | .none => eqV .non x
  | .bool b => eqV (.bl b) x
  | .int i _ => eqV (.int i) x
  | .str z _ => eqV (.str z) x
  | _ => false
theorem eqU_of {x y : V} {u : Value} (r : RelV y u) (f : flatV y = true) : eqU x u = eqV y x := by
  cases y with
  | non => cases r; rfl
  | bl b => cases r; rfl
  | int i => obtain ⟨t, rfl⟩ := r; rfl
  | str z => obtain ⟨t, rfl⟩ := r; rfl
  | _ => exact absurd (show false = true from f) Bool.false_ne_true
theorem any_eqU {x : V} : ∀ {xs : List V} {us : List Value}, Vals xs us → xs.all flatV = true → us.any (eqU x) = xs.any fun y => eqV y x
  | _, _, .nil, _ => rfl
  | y :: xs, u :: us, .cons r t, f => by
    rw [List.all_cons, Bool.and_eq_true] at f
    rw [List.any_cons, List.any_cons, eqU_of r f.1, any_eqU t f.2]
theorem mem_eqAt {A : Around} {s : Shared} {x : V} {v : Value} (rx : RelV x v) (fx : flatV x = true) : ∀ {xs : List V} {us : List Value}, Vals xs us → xs.all flatV = true → ∀ u ∈ us, SeqAt.EqAt A s u v (eqU x u)
  | _, _, .nil, _ => fun u hu => by cases hu
  | y :: xs, u :: us, .cons r t, f => fun u' hu => by
    rw [List.all_cons, Bool.and_eq_true] at f
    rcases List.mem_cons.mp hu with rfl | hu
    · rw [eqU_of r f.1]; exact eqAt_V r rx f.1 fx
    · exact mem_eqAt rx fx t f.2 u' hu
noncomputable def inV (x : V) (xs : List V) : Bool := xs.any fun y => eqV y x
inductive I_rLen (K : PySem.W.Frag) (xs : List V) (H : Hp) (Q : VK) : Prop
  | mk : ∀ p ys, (xs = [.ref p]) → (SqL K H p ys ∨ SqT K H p ys) → (Q (.int ys.length) H) → I_rLen K xs H Q
noncomputable def rLen (K : PySem.W.Frag) : List V → Hp → VK → Prop := fun xs H Q => I_rLen K xs H Q
inductive I_rIn (K : PySem.W.Frag) (neg : Bool) (x : V) (y : V) (H : Hp) (Q : VK) : Prop
  | mk : ∀ p xs, (y = .ref p) → ((SqL K H p xs ∨ SqT K H p xs)) → (flatV x = true) → (xs.all flatV = true) → (Q (.bl (if neg then !inV x xs else inV x xs)) H) → I_rIn K neg x y H Q
noncomputable def rIn (K : PySem.W.Frag) (neg : Bool) : R2 := fun x y H Q => I_rIn K neg x y H Q
theorem op_in_seq : OpR X (compareOp .In) (rIn X.K false) := by
  intro pins s σ H x y v u Q I rx ry h
  obtain ⟨p, xs, rfl, hq, fx, fs, q⟩ := h
  cases ry
  rcases hq with hq | hq
  · obtain ⟨its, r, pl, hz⟩ := I.list hq
    refine SeqAt.in_listAt (eqU x) pl.isList (fun w hw => mem_eqAt rx fx r fs w (by simpa using hw)) ⟨.bl _, H, I, rfl, ?_⟩
    rw [show its.toArray.any (eqU x) = its.any (eqU x) by simp, any_eqU r fs]
    exact q
  · obtain ⟨its, r, pl, hz⟩ := I.tuple hq
    refine SeqAt.in_tupleAt (eqU x) pl (fun w hw => mem_eqAt rx fx r fs w (by simpa using hw)) ⟨.bl _, H, I, rfl, ?_⟩
    rw [show its.toArray.any (eqU x) = its.any (eqU x) by simp, any_eqU r fs]
    exact q

theorem call_len_seq : CallR X (.builtin "len") (rLen X.K) := by
  intro pins s σ H xs us Q I r h
  obtain ⟨p, ys, rfl, hq, q⟩ := h
  obtain ⟨u, rfl, rx⟩ := vals1 r
  cases rx
  have hn := line63
  rcases hq with hq | hq
  · obtain ⟨its, r', pl, hz⟩ := I.list hq
    have hlen := r'.length
    exact Calls.call_len_list pl.isList (by simp only [List.size_toArray] <;> lia) ⟨.int ys.length, H, I.tok _, ⟨s.toks + 1, by rw [List.size_toArray, hlen]⟩, q⟩
  · obtain ⟨its, r', pl, hz⟩ := I.tuple hq
    have hlen := r'.length
    exact len_tuple pl (by simp only [List.size_toArray] <;> lia) ⟨.int ys.length, H, I.tok _, ⟨s.toks + 1, by rw [List.size_toArray, hlen]⟩, q⟩
theorem call_list_of : CallR X (.type "list") (fun xs H Q => ∃ p ys, xs = [.ref p] ∧ (SqL X.K H p ys ∨ SqT X.K H p ys) ∧ ∀ l, H l = none → Q (.ref l) (upd H l (.lst ys))) := by
  intro pins s σ H xs us Q I r h
  obtain ⟨p, ys, rfl, hq, q⟩ := h
  obtain ⟨u, rfl, rx⟩ := vals1 r
  cases rx
  have fin : ∀ (its : List Value), Vals ys its → ys.length ≤ sizeLine → ∀ (h' : Heap) (c' : Nat), (∀ b o', s.heap.get? b = some o' → h'.get? b = some o') →
      h'.get? s.heap.objs.size = some { cls := .type "list", dict := none, data := .seq its.toArray c', slots := #[] } → EP X pins σ Q (.ref s.heap.objs.size) { s with heap := h' } := fun its r' hz h' c' kp e =>
    ⟨.ref s.heap.objs.size, _, I.laid (t' := s.toks) kp (Nat.le_refl _) (show ObjOk X.prog X.w _ h' _ (.lst ys) from ⟨hz, its, c', r', e⟩), rfl, q _ (I.hok.fresh (Nat.le_refl _))⟩
  rcases hq with hq | hq
  · obtain ⟨its, r', pl, hz⟩ := I.list hq
    have hlen := r'.length
    obtain ⟨o, ho, hc, n, hd⟩ := pl.isList
    exact call_list_seq p (.inl rfl) ho hc hd (fun h' c' kp e => fin its r' hz h' c' kp e) (by simp only [List.size_toArray] <;> lia)
  · obtain ⟨its, r', pl, hz⟩ := I.tuple hq
    have hlen := r'.length
    obtain ⟨o, ho, hc, n, hd⟩ := pl
    exact call_list_seq p (.inr rfl) ho hc hd (fun h' c' kp e => fin its r' hz h' c' kp e) (by simp only [List.size_toArray] <;> lia)
theorem call_tuple_of : CallR X (.type "tuple") (fun xs H Q => ∃ p ys, xs = [.ref p] ∧ ((SqL X.K H p ys ∧ ∀ l, H l = none → Q (.ref l) (upd H l (.tup ys))) ∨ (SqT X.K H p ys ∧ Q (.ref p) H))) := by
  intro pins s σ H xs us Q I r h
  obtain ⟨p, ys, rfl, h⟩ := h
  obtain ⟨u, rfl, rx⟩ := vals1 r
  cases rx
  rcases h with ⟨hq, q⟩ | ⟨hq, q⟩
  · obtain ⟨its, r', pl, hz⟩ := I.list hq
    have hlen := r'.length
    refine call_tuple_list pl.isList (fun h' kp => ?_) (by simp only [List.size_toArray] <;> lia)
    have I1 : Inv X pins σ H { s with heap := h' } := I.kept (t' := s.toks) kp
    have I2 : Inv X pins σ (upd H h'.objs.size (.tup ys)) { s with heap := h'.push { cls := .type "tuple", data := .seq its.toArray } } :=
      I1.laid (t' := s.toks) (fun b o e => Heap.get?_push_of_some _ e) (Nat.le_refl _) (show ObjOk X.prog X.w _ _ _ (.tup ys) from ⟨hz, its, r', IsTup.new _ _⟩)
    exact ⟨.ref h'.objs.size, _, I2, rfl, q _ (I1.hok.fresh (Nat.le_refl _))⟩
  · obtain ⟨its, r', pl, hz⟩ := I.tuple hq
    exact call_tuple_same pl ⟨.ref p, H, I, rfl, q⟩

noncomputable def tyV (K : PySem.W.Frag) (T : String) (x : V) (H : Hp) : Prop := match x with
  | .str _ => T = "str"
  | .int _ => T = "int"
  | .ref p => (T = "list" ∧ ∃ xs, SqL K H p xs) ∨ (T = "tuple" ∧ ∃ o, K.lookup p = some o ∧ o.cls = .type "tuple" ∧ o.dict = none) ∨
      (T = "dict" ∧ ((∃ kvs, H p = some (.dK kvs)) ∨ ∃ kvs, H p = some (.dT kvs))) ∨ (T = "set" ∧ ∃ S n, H p = some (.set S n))
  | _ => False
theorem tyV_is {pins : List (Addr × Obj)} {σ : St} {H : Hp} {s : Shared} {T : String} {x : V} {v : Value} (I : Inv X pins σ H s) (r : RelV x v) (ty : tyV X.K T x H) :
    s.TypeIs v T ∧ ∀ a, v = .ref a → ∃ ob, s.heap.get? a = some ob ∧ ob.dict = none := by
  cases x with
  | str z =>
    obtain ⟨t, rfl⟩ := r
    cases (show T = "str" from ty)
    exact ⟨typeIs_str s z t, fun _ e => nomatch e⟩
  | int i =>
    obtain ⟨t, rfl⟩ := r
    cases (show T = "int" from ty)
    exact ⟨typeIs_int s i t, fun _ e => nomatch e⟩
  | ref p =>
    cases r
    rcases ty with ⟨rfl, xs, hq⟩ | ⟨rfl, o, hk, hc, hd⟩ | ⟨rfl, hk⟩ | ⟨rfl, S, n, hk⟩
    · obtain ⟨its, _, pl, _⟩ := I.list hq
      refine ⟨pl.isList.typeIs, fun a e => ?_⟩
      cases e
      obtain ⟨o, n, e, c, hd, _⟩ := pl
      exact ⟨o, e, hd⟩
    · refine ⟨⟨o, I.kIn p o hk, hc⟩, fun a e => ?_⟩
      cases e
      exact ⟨o, I.kIn _ o hk, hd⟩
    · have z : ∃ o, s.heap.get? p = some o ∧ o.ExactDict := by
        rcases hk with ⟨kvs, hk⟩ | ⟨kvs, hk⟩
        · obtain ⟨_, _, _, _, o, _, _, e, ex, _⟩ := I.hok p _ hk
          exact ⟨o, e, ex⟩
        · obtain ⟨_, _, _, _, o, _, _, e, ex, _⟩ := I.hok p _ hk
          exact ⟨o, e, ex⟩
      obtain ⟨o, e, ex⟩ := z
      refine ⟨⟨o, e, ex.1⟩, fun a e2 => ?_⟩
      cases e2
      exact ⟨o, e, ex.2.1⟩
    · obtain ⟨o, _, _, _, e, ex, _⟩ := I.hok p _ hk
      refine ⟨⟨o, e, ex.1⟩, fun a e2 => ?_⟩
      cases e2
      exact ⟨o, e, ex.2.1⟩
  | _ => exact False.elim ty
noncomputable def tBM0 (K : PySem.W.Frag) (T : String) (r : V → List V → Hp → VK → Prop) (to : TE) : TE := fun σ H Q => to σ H fun x H1 => tyV K T x H1 ∧ r x [] H1 Q
noncomputable def tBM (K : PySem.W.Frag) (T : String) (r : V → List V → Hp → VK → Prop) (to : TE) (t : TA) : TE := fun σ H Q => to σ H fun x H1 => tyV K T x H1 ∧ t σ H1 fun xs H2 => r x xs H2 Q
variable {o e : Expr} {es : List Expr} {to : TE} {t : TA} {name : Str} {apos cpos : Pos} {T id : String} {r : V → List V → Hp → VK → Prop}
theorem pe_bm0 (pa : PlainAttrs T) (slot : Slot T name id) (hty : typeOf (.builtin id) = pure (.type "method_descriptor")) (hm : MtR X id r) (ho : PE X o to)
    (hbase : attributeBase o name X.env (eval o X.env) = eval o X.env := by rfl) (hline : (apos.endLine == cpos.line) = true := by rfl) : PE X (.Call (.Attribute o name apos) [] [] cpos) (tBM0 X.K T r to) := by
  intro pins s σ H Q I h
  refine wpAny_Call_method0_late hbase hline (thn (ho pins s σ H _ I h) fun v s1 ⟨x, H1, I1, r1, ty, q1⟩ => ?_)
  obtain ⟨h1, h2⟩ := tyV_is I1 r1 ty
  exact ⟨T, id, pa, slot, hty, h1, h2, Calls.callWith_builtin rfl (PySem.evalArgs_none (hm pins s1 σ H1 x [] v [] Q I1 r1 .nil q1))⟩
theorem pe_bm (pa : PlainAttrs T) (slot : Slot T name id) (hty : typeOf (.builtin id) = pure (.type "method_descriptor")) (hm : MtR X id r) (ho : PE X o to) (ha : PA X (e :: es) t)
    (hbase : attributeBase o name X.env (eval o X.env) = eval o X.env := by rfl)
    (hfew : ((backTo cpos (starEach (e :: es) X.env)).all (fun x => !x.1) && (backToKw cpos (keywordEach [] X.env)).all (fun x => x.1.isSome)
      && decide ((e :: es).length + ([] : List Keyword).length + (if ([] : List Keyword).isEmpty then 0 else 1) < 30)) = true := by rfl)
    (hline : (apos.endLine == cpos.line) = true := by rfl) (hs : starEach (e :: es) X.env = (false, eval e X.env) :: starEach es X.env := by rfl) (hplain : (backTo cpos (starEach es X.env)).any (·.1) = false := by rfl) :
    PE X (.Call (.Attribute o name apos) (e :: es) [] cpos) (tBM X.K T r to t) := by
  intro pins s σ H Q I h
  refine wpAny_Call_method_late hbase hfew hline rfl (thn (ho pins s σ H _ I h) fun v s1 ⟨x, H1, I1, r1, ty, q1⟩ => ?_)
  obtain ⟨h1, h2⟩ := tyV_is I1 r1 ty
  refine ⟨T, id, pa, slot, hty, h1, h2, ?_⟩
  have hA := ha cpos pins s1 σ H1 _ I1 q1
  rw [hs] at hA ⊢
  refine Calls.callWith_builtin (by show (false || (backTo cpos (starEach es X.env)).any (·.1)) = false; rw [hplain] <;> rfl) (Calls.evalArgs_plain ?_)
  exact thn hA fun us s2 ⟨vs, H2, I2, r2, q2⟩ => hm pins s2 σ H2 x vs v us Q I2 r1 r2 q2
/- xs.append(e), list.index on a module's tuple .. are MtR facts of 06m -/
end
end L2

namespace L2
open PySem PySem.Spec PyProof.Rows

noncomputable def MtM (X : Cx) (id : String) (r : V → List V → Hp → VK → Prop) : Prop :=
  ∀ (pins : List (Addr × Obj)) (s : Shared) (σ : St) (H : Hp) (x : V) (xs : List V) (v : Value) (us : List Value) (Q : VK), Inv X pins σ H s → RelV x v → Vals xs us → r x xs H Q →
    wpAny (model X.prog X.w) X.A (call (.builtin id) (v :: us)) (EP X pins σ Q) X.xe s

theorem Vals.one : ∀ {x : V} {us : List Value}, Vals [x] us → ∃ u, us = [u] ∧ RelV x u
  | _, _, .cons r .nil => ⟨_, rfl, r⟩
theorem Vals.two : ∀ {x y : V} {us : List Value}, Vals [x, y] us → ∃ u v, us = [u, v] ∧ RelV x u ∧ RelV y v
  | _, _, _, .cons r (.cons q .nil) => ⟨_, _, rfl, r, q⟩
theorem Vals.zero : ∀ {us : List Value}, Vals [] us → us = []
  | _, .nil => rfl
theorem Vals.dropLast {xs : List V} {us : List Value} (h : Vals xs us) : Vals xs.dropLast us.dropLast := by
  induction h with
  | nil => exact .nil
  | cons r t ih =>
    cases t with
    | nil => exact .nil
    | cons q t' => exact .cons r ih
theorem erase_last {α : Type} (l : List α) : l.eraseIdx (l.length - 1) = l.dropLast := by
  induction l with
  | nil => rfl
  | cons a r ih =>
    cases r with
    | nil => rfl
    | cons b r =>
      have e : (a :: b :: r).length - 1 = ((b :: r).length - 1) + 1 := by
        have h1 : (a :: b :: r).length = r.length + 2 := rfl
        have h2 : (b :: r).length = r.length + 1 := rfl
        lia
      rw [e, List.eraseIdx_cons_succ, ih]
      all_goals rfl

section
variable {X : Cx} {pins : List (Addr × Obj)} {σ : St} {H : Hp} {s : Shared} {l b : Addr} {xs ys zs : List V}

theorem Inv.lset {its its' : List Value} {n : Nat} {f : Array Value → Array Value} {t' : Nat} (I : Inv X pins σ H s) (hH : H l = some (.lst xs))
    (e : s.heap.get? l = some { cls := .type "list", data := .seq its.toArray n }) (hf : f its.toArray = its'.toArray) (hv : Vals ys its') (hz : ys.length ≤ sizeLine) :
    Inv X pins σ (upd H l (.lst ys)) { s with heap := s.heap.update l (Obj.mapSeq f), toks := t' } := by
  have q := PySem.IsL.update e f
  rw [hf] at q
  refine I.write (x := l) (e := l) (by rw [hH]; exact trivial) (.inl rfl) (fun b' u hb hu => (Heap.get?_update_other s.heap (Obj.mapSeq f) (Ne.symm hb)).trans hu) ⟨_, q⟩ ?_
  exact ⟨hz, its', _, hv, q⟩
theorem Inv.lnew {its : List Value} {t' : Nat} (I : Inv X pins σ H s) (hv : Vals ys its) (hz : ys.length ≤ sizeLine) :
    Inv X pins σ (upd H s.heap.objs.size (.lst ys)) { s with heap := s.heap.push { cls := .type "list", data := .seq its.toArray }, toks := t' } :=
  I.laid (fun _ _ q => Heap.get?_push_of_some _ q) (Nat.le_refl _) ⟨hz, its, 0, hv, Heap.get?_push_size _ rfl⟩
theorem Inv.fresh (I : Inv X pins σ H s) : H s.heap.objs.size = none := I.hok.fresh (Nat.le_refl _)
theorem Inv.lstM (I : Inv X pins σ H s) (hH : H l = some (.lst xs)) : xs.length ≤ sizeLine ∧ ∃ (its : List Value) (n : Nat), Vals xs its ∧ xs.length = its.length ∧ s.heap.get? l = some { cls := .type "list", data := .seq its.toArray n } := by
  obtain ⟨z, its, n, r, e⟩ := I.hok l _ hH
  exact ⟨z, its, n, r, r.length, e⟩

theorem notLongL {n : Nat} (h : n ≤ sizeLine) : Builtin.List.listTooLong n = false := by
  unfold Builtin.List.listTooLong
  exact decide_eq_false (by lia)
end

section
variable {X : Cx}

inductive I_rAppend (x : V) (vs : List V) (H : Hp) (Q : VK) : Prop
  | mk : ∀ l xs y, (x = .ref l) → (vs = [y]) → (H l = some (.lst xs)) → (xs.length < sizeLine) → (Q .non (upd H l (.lst (xs ++ [y])))) → I_rAppend x vs H Q
noncomputable def rAppend : V → List V → Hp → VK → Prop := fun x vs H Q => I_rAppend x vs H Q
theorem mt_append : MtM X "list.append" rAppend := by
  intro pins s σ H x vs v us Q I rx rv h
  obtain ⟨l, xs, y, rfl, rfl, hH, hz, q⟩ := h
  cases rx
  obtain ⟨u, rfl, ru⟩ := rv.one
  obtain ⟨z, its, n, r, hl, e⟩ := I.lstM hH
  refine call_meets F.slot_list_append ⟨_, e, rfl⟩ F.entry_list_append (F.args_list_append_2 _ _) (PySem.list_append l its.toArray n u (by rw [List.size_toArray]; lia)) ⟨e, ?_⟩
  refine ⟨.non, _, I.lset (its' := its ++ [u]) hH e (by simp) (r.append (.cons ru .nil)) ?_, rfl, q⟩
  rw [List.length_append, List.length_singleton]
  lia

inductive I_rExtend (x : V) (vs : List V) (H : Hp) (Q : VK) : Prop
  | mk : ∀ l b xs zs, (x = .ref l) → (vs = [.ref b]) → (H l = some (.lst xs)) → (H b = some (.lst zs)) → (xs.length + zs.length ≤ sizeLine) → (Q .non (upd H l (.lst (xs ++ zs)))) → I_rExtend x vs H Q
noncomputable def rExtend : V → List V → Hp → VK → Prop := fun x vs H Q => I_rExtend x vs H Q
theorem mt_extend : MtM X "list.extend" rExtend := by
  intro pins s σ H x vs v us Q I rx rv h
  obtain ⟨l, b, xs, zs, rfl, rfl, hH, hB, hz, q⟩ := h
  cases rx
  obtain ⟨u, rfl, ru⟩ := rv.one
  cases ru
  obtain ⟨z, its, n, r, hl, e⟩ := I.lstM hH
  obtain ⟨z2, its2, n2, r2, hl2, e2⟩ := I.lstM hB
  have hsz : its.toArray.size + its2.toArray.size ≤ sizeLine := by rw [List.size_toArray, List.size_toArray]; lia
  have hlong : ¬ (!its.toArray.isEmpty && Builtin.List.listTooLong (its.toArray.size + its2.toArray.size)) = true := by
    rw [notLongL hsz, Bool.and_false]
    exact Bool.false_ne_true
  refine call_meets F.slot_list_extend ⟨_, e, rfl⟩ F.entry_list_extend (F.args_list_extend_2 _ _)
    (AutoSeq1.list_extend_list_list_0 l its.toArray n b its2.toArray n2 hlong (by rw [List.size_toArray]; lia) (by lia)) ⟨e, e2, ?_⟩
  refine ⟨.non, _, I.lset (its' := its ++ its2) hH e (by simp) (r.append r2) ?_, rfl, q⟩
  rw [List.length_append]
  lia

inductive I_rPop (x : V) (vs : List V) (H : Hp) (Q : VK) : Prop
  | mk : ∀ l xs y, (x = .ref l) → (vs = []) → (H l = some (.lst xs)) → (xs[xs.length - 1]? = some y) → (Q y (upd H l (.lst xs.dropLast))) → I_rPop x vs H Q
noncomputable def rPop : V → List V → Hp → VK → Prop := fun x vs H Q => I_rPop x vs H Q
theorem mt_pop : MtM X "list.pop" rPop := by
  intro pins s σ H x vs v us Q I rx rv h
  obtain ⟨l, xs, y, rfl, rfl, hH, hy, q⟩ := h
  cases rx
  have hus := rv.zero
  subst hus
  obtain ⟨z, its, n, r, hl, e⟩ := I.lstM hH
  obtain ⟨u, hu, ru⟩ := r.get hy
  have hy' : its.toArray[its.toArray.size - 1]? = some u := by
    show its.toArray[its.length - 1]? = some u
    rw [← Array.getElem?_toList, ← hl]
    exact hu
  refine call_meets F.slot_list_pop ⟨_, e, rfl⟩ F.entry_list_pop (F.args_list_pop_1 _) (MeetsSeq.list_pop_last l its.toArray n u hy' (by rw [List.size_toArray]; lia)) ⟨e, ?_⟩
  refine ⟨y, _, I.lset (its' := its.dropLast) hH e ?_ r.dropLast ?_, ru, q⟩
  · show its.toArray.eraseIdxIfInBounds (its.toArray.size - 1) = its.dropLast.toArray
    rw [List.size_toArray, List.eraseIdxIfInBounds_toArray, erase_last]
  · rw [List.length_dropLast]
    lia

noncomputable def rPopAt : V → List V → Hp → VK → Prop := fun x vs H Q => ∃ l xs i k y, x = .ref l ∧ vs = [.int i] ∧ H l = some (.lst xs) ∧ -(2 ^ 63) ≤ i ∧ i < 2 ^ 63 ∧ seqIndex? i xs.length = some k ∧ xs[k]? = some y ∧ Q y (upd H l (.lst (xs.eraseIdx k)))

noncomputable def rReverse : V → List V → Hp → VK → Prop := fun x vs H Q => ∃ l xs, x = .ref l ∧ vs = [] ∧ H l = some (.lst xs) ∧ Q .non (upd H l (.lst xs.reverse))

noncomputable def rClear : V → List V → Hp → VK → Prop := fun x vs H Q => ∃ l xs, x = .ref l ∧ vs = [] ∧ H l = some (.lst xs) ∧ Q .non (upd H l (.lst []))

inductive I_rCat (x : V) (y : V) (H : Hp) (Q : VK) : Prop
  | mk : ∀ l b xs zs, (x = .ref l) → (y = .ref b) → (H l = some (.lst xs)) → (H b = some (.lst zs)) → (xs.length + zs.length ≤ sizeLine) → (∀ p, H p = none → Q (.ref p) (upd H p (.lst (xs ++ zs)))) → I_rCat x y H Q
noncomputable def rCat : R2 := fun x y H Q => I_rCat x y H Q
theorem op_cat : OpR X (binaryOp .Add) rCat := by
  intro pins s σ H x y v u Q I rx ry h
  obtain ⟨l, b, xs, zs, rfl, rfl, hH, hB, hz, q⟩ := h
  cases rx
  cases ry
  obtain ⟨z, its, n, r, hl, e⟩ := I.lstM hH
  obtain ⟨z2, its2, n2, r2, hl2, e2⟩ := I.lstM hB
  refine PySem.P.add_list e e2 ?_ (by rw [List.size_toArray, List.size_toArray]; lia)
  have ea : its.toArray ++ its2.toArray = (its ++ its2).toArray := by simp
  rw [ea]
  exact ⟨.ref _, _, I.lnew (t' := s.toks) (r.append r2) (by rw [List.length_append]; lia), rfl, q _ I.fresh⟩
noncomputable def rRep : R2 := fun x y H Q => ∃ l k xs, x = .ref l ∧ y = .int k ∧ H l = some (.lst xs) ∧ -(2 ^ 63) ≤ k ∧ k < 2 ^ 63 ∧ xs.length * k.toNat ≤ sizeLine ∧
  ∀ p, H p = none → Q (.ref p) (upd H p (.lst (List.replicate k.toNat xs).flatten))

end

section
variable {prog : Program} {w : World} {A : Around} {E : Value → Shared → Prop} {s : Shared}
set_option maxRecDepth 100000 in
end

section
variable {X : Cx}
end
end L2

namespace Att
open PySem PySem.W PySem.Calls PyProof.Rows

theorem ints_of_wellAll {P : Params} {h : Heap} : ∀ (ns : List Int) (vs : List Value), WellAll P h vs (ns.map WData.int) → IntsAre vs ns := by
  intro ns
  induction ns with
  | nil =>
    intro vs w
    rw [List.map_nil] at w
    cases w
    exact .nil
  | cons n ns ih =>
    intro vs w
    rw [List.map_cons] at w
    cases w with
    | cons a b =>
      cases a
      exact .cons _ _ (ih _ b)

theorem script_of {l : OpenLaw} {n : Nat} (hn : l.most = some n) {P : Params} {h : Heap} {args : List WData} {vals : List Value}
    (hpre : l.row.toRowW.claim.pre args = true) (hwl : WellAll P h vals args) :
    ∃ a vs ns, vals = [Value.ref a] ∧ args = [WData.list (ns.map WData.int)] ∧ h.get? a = some { cls := .type "list", data := .seq vs.toArray } ∧ IntsAre vs ns ∧ ns.length ≤ n := by
  have hsh : WShape.hasAll [] args [.list .int] = true := (pre_splitW hpre).1
  have hc : l.pre.holds [] { args := args } = true := (pre_splitW hpre).2
  obtain ⟨d, r, rfl, h1, h2⟩ := hasAllW_cons hsh
  obtain rfl := hasAllW_nil h2
  obtain ⟨xs, rfl, h3⟩ := hasW_list h1
  obtain ⟨ns, rfl⟩ := items_int h3
  have hlen : ns.length ≤ n := by
    unfold OpenLaw.pre at hc
    have h4 : (WTm.not (.lt (.lit (.int (n : Int))) (.len (.arg 0)))).holds [] { args := [.list (ns.map .int)] } = true := by
      have h4 := (holds_andW hc).1
      rw [hn] at h4
      exact h4
    have h5 := condW_of h4 (w_not (w_lt w_lit (w_len_list (w_arg rfl))))
    rw [List.length_map] at h5
    refine Nat.le_of_not_lt fun q => ?_
    have q' : (n : Int) < ((ns.length : Nat) : Int) := by lia
    first
      | (rw [decide_eq_true q'] at h5; exact absurd h5 (by decide))
      | (simp at h5; lia)
  cases hwl with
  | cons w1 w2 =>
    cases w2
    cases w1 with
    | list ho hall => exact ⟨_, _, ns, rfl, rfl, ho, ints_of_wellAll ns _ hall, hlen⟩

theorem post_true (l : OpenLaw) (args : List WData) : l.row.toRowW.claim.post args (.bool true) args = true :=
  postW_of (r := l.row.toRowW) (X := (true == true))
    (show WShape.has [] (.bool true) .bool = true by first | rfl | decide | simp [WShape.has, WShape.arms, WShape.armsAll])
    (show (WTm.eq .res (.lit (.bool true))).value [] { args := args, res := some (.bool true), after := args } = some (.bool (true == true)) from w_eq_bool (w_res rfl) w_lit) rfl


theorem attach_call {l : OpenLaw} {n : Nat} {q : Program} {loose : List Str} {XP : (Str → Option Value) → Heap → Prop} {YP : World → Heap → Prop} {d : DefRec}
    (hn : l.most = some n) (hdf : d.params.defaults = [])
    (call : ∀ (w : World) (s₀ s₁ : Shared) (mg mb : Str → Option Value) (fa : Addr) (o : Obj) (pm cd doc : Value) (a : Addr) (vs : List Value) (ns : List Int),
      Ground q loose [] XP w s₀ mg mb s₁.heap → YP w s₁.heap →
      s₁.heap.get? fa = some o → o.data = .func (docDef d.name d.params d.body d.scope pm cd doc) → s₁.heap.CodeRec cd d.name → mg d.name = some (.ref fa) →
      s₁.heap.get? a = some { cls := .type "list", data := .seq vs.toArray } → IntsAre vs ns → ns.length ≤ n → s₁.gens = #[] →
      codeAny (model l.prog w) callerA (.call (.ref fa) ⟨[.ref a], []⟩) (fun r s' => r = .ok (.ret (.bool true)) ∧ OldK s₁.heap s'.heap ∧ s'.os = s₁.os ∧ AllBare s'.gens) s₁) :
    WalkO q loose XP YP l.row.toRowW d [] (fun f vs => PySem.call f vs) := by
  intro w s₀ s₁ mg mb G Y fa o pm cd doc dV kV ho hd hcd hD hmg hg args vals as hpre hlay hrd hwl hlo
  obtain rfl : dV = .none := Dflts.none hD hdf
  obtain rfl : kV = .none := Dflts.noKw hD
  obtain ⟨a, vs, ns, rfl, rfl, hobj, hints, hlen⟩ := script_of hn hpre hwl
  refine enter_call (codeAny_mono (call w s₀ s₁ mg mb fa o pm cd doc a vs ns G Y ho (fd_plain hd) hcd hmg hobj hints hlen hg) fun r s' hq => ?_)
  obtain ⟨rfl, h2, h3, h4⟩ := hq
  exact ⟨.inl ⟨.bool true, .bool true, [], rfl, fun _ => rfl, .bool true, post_true l _, fun _ => ⟨List.Pairwise.nil, fun _ hm => (nomatch hm)⟩⟩, h2, h3, h4⟩


section
variable {prog : Program} {w : World} {A : Around} {E : Value → Shared → Prop} {s : Shared} {K : Frag}





noncomputable def noObjs (h : Heap) : Heap := { h with objs := #[] }
noncomputable def ledger (h : Heap) (L d : Addr) : List (Addr × Obj) := (List.range h.objs.size).filterMap fun a => if a = L ∨ a = d then none else (h.get? a).map fun o => (a, o)

end
end Att

namespace L2
open PySem PySem.Spec PyProof.Rows

theorem vals_ints : ∀ {vs : List Value} {ns : List Int}, IntsAre vs ns → Vals (ns.map V.int) vs
  | _, _, .nil => .nil
  | _, _, .cons n t h => .cons ⟨t, rfl⟩ (vals_ints h)

noncomputable def Only (H : Hp) : Prop := ∀ b, H b = none ∨ ∃ o xs, H b = some (.frz o (.lst xs))

theorem law_call {P : Program} {w : World} {K : PySem.W.Frag} {mg mb : Str → Option Value} {CX : CXT} {k : Nat} {fa a : Addr} {fd : FuncData} {x : Str} {sp : Sp} {s₁ : Shared} {vs : List Value} {ns : List Int}
    (KX : K.In s₁.heap) (hns : s₁.heap.Ns mainGlobals mg) (hb : s₁.heap.Ns builtinsNs mb) (hbb : ∀ x : Str, x ≠ "__name__" → mb x = bootBuiltins x) (hlim : s₁.heap.NoLimit) (hg : s₁.gens = #[])
    (ha : s₁.heap.get? a = some { cls := .type "list", data := .seq vs.toArray }) (hi : IntsAre vs ns) (hl : ns.length ≤ sizeLine) (hr : Room k callerA)
    (F : ∀ base : Heap, K.In base → base.Ns mainGlobals mg → FnOk P w K mg base CX k fa fd [x] sp) (hbind : ∀ (s : Shared) (u : Value), BindsTo s fd ⟨[u], []⟩ [(x, u)])
    (hsp : ∀ H : Hp, Only H → SqL K H a (ns.map V.int) → sp [.ref a] H (fun v _ => v = .bl true) fun _ _ _ => False)
    (hCX : ∀ H e s', CX [] H s₁ (fun _ _ _ => False) e s' → False) :
    codeAny (model P w) callerA (.call (.ref fa) ⟨[.ref a], []⟩) (fun r s' => r = .ok (.ret (.bool true)) ∧ OldK s₁.heap s'.heap ∧ s'.os = s₁.os ∧ AllBare s'.gens) s₁ := by
  have rv := vals_ints hi
  have lenV := hi.length
  have core : ∀ H : Hp, Only H → SqL K H a (ns.map V.int) → HOk P w H s₁.heap → (∀ b, H b ≠ none → b = a) → (H a ≠ none → K.lookup a = none) →
      codeAny (model P w) callerA (.call (.ref fa) ⟨[.ref a], []⟩) (fun r s' => r = .ok (.ret (.bool true)) ∧ OldK s₁.heap s'.heap ∧ s'.os = s₁.os ∧ AllBare s'.gens) s₁ := by
    intro H hO hS hok hA hK
    have base_of : ∀ {b : Addr} {o : Obj}, s₁.heap.get? b = some o → H b = none → (hidT s₁.heap H).get? b = some o := fun e n => hidT_get e n
    have noA : ∀ {b : Addr} {o : Obj} {es : Array DictEntry} {ep : Nat}, s₁.heap.get? b = some o → o.data = .dict es ep → H b = none := fun {b o es ep} e d => by
      cases q : H b with
      | none => rfl
      | some u =>
        have e' : b = a := hA b (by rw [q]; simp)
        subst e'
        rw [ha] at e; cases e
        have d' : Data.seq vs.toArray _ = Data.dict es ep := d
        cases d'
    have nsK : ∀ {b : Addr} {m : Str → Option Value}, s₁.heap.Ns b m → (hidT s₁.heap H).Ns b m := fun {b m} ⟨o, es, ep, e, d, r⟩ => ⟨o, es, ep, base_of e (noA e d), d, r⟩
    have hKb : K.In (hidT s₁.heap H) := fun b o e => base_of (KX b o e) (by
      cases q : H b with
      | none => rfl
      | some u =>
        have e' : b = a := hA b (by rw [q]; simp)
        subst e'
        rw [hK (by rw [q]; simp)] at e; cases e)
    have hM : Mod K mg (hidT s₁.heap H) := ⟨hKb, nsK hns, ⟨mb, nsK hb, hbb⟩, let ⟨mc, h1, h2⟩ := hlim; ⟨mc, nsK h1, h2⟩⟩
    have e0 : Env0 P w K mg (hidT s₁.heap H) callerA [] s₁ H := ⟨rfl, hM, fun b o e => of_hidT e, Nat.le_of_eq (hidT_size _ _), trivial, fun b hb => absurd (show b ∈ ([] : List Addr) from hb) (by simp), hok, .of_eq hg⟩
    refine codeAny_mono ((F _ hKb (nsK hns)).run callerA [] s₁ H ⟨[.ref a], []⟩ [.ref a] [.ref a] _ _ hr e0 (hbind s₁ (.ref a)) (.cons rfl .nil) (hsp H hO hS)) fun r s' h => ?_
    cases r with
    | error e => exact (hCX H e s' h).elim
    | ok fl =>
      cases fl with
      | next => exact False.elim h
      | brk => exact False.elim h
      | cont => exact False.elim h
      | ret u =>
        obtain ⟨v, H', os, bare, un, hok', r', q⟩ := h
        have q' : v = .bl true := q
        subst q'
        obtain rfl : u = Value.bool true := r'
        refine ⟨rfl, OldK.of_keep fun b o e => ?_, os, bare⟩
        cases q : H b with
        | none => exact un.keep b o e q (by intro z; exact absurd (show b ∈ ([] : List Addr) from z) (by simp)) (by simp)
        | some u =>
          rcases hO b with z | ⟨ob, xs, z⟩
          · rw [q] at z; cases z
          · have z2 := un.frzs b ob _ z
            obtain ⟨e1, _⟩ := hok b _ z
            obtain ⟨e2, _⟩ := hok' b _ z2
            rw [e] at e1; cases e1
            exact e2
  cases hk : K.lookup a with
  | some o =>
    have e := KX a o hk
    rw [ha] at e
    cases e
    refine core (fun _ => none) (fun _ => .inl rfl) (.inr ⟨_, vs.toArray, _, hk, rfl, rfl, rfl, by rw [List.size_toArray, lenV]; exact hl, by simpa using rv⟩) (fun b u z => by have z' : (none : Option HO) = some u := z; cases z') (fun b z => absurd rfl z) fun z => absurd rfl z
  | none =>
    refine core (fun b => if b = a then some (.frz { cls := .type "list", data := .seq vs.toArray } (.lst (ns.map V.int))) else none) (fun b => ?_) (.inl (.inr ⟨{ cls := .type "list", data := .seq vs.toArray }, if_pos rfl⟩)) (fun b u z => ?_) (fun b z => ?_) fun _ => hk
    · by_cases hb : b = a
      · exact .inr ⟨_, _, if_pos hb⟩
      · exact .inl (if_neg hb)
    · by_cases hb : b = a
      · have z' := (if_pos hb).symm.trans z
        cases z'
        subst hb
        exact ⟨ha, by rw [List.length_map]; exact hl, vs, _, rv, ha⟩
      · have z' := (if_neg hb).symm.trans z
        cases z'
    · by_cases hb : b = a
      · exact hb
      · exact absurd (if_neg hb) z
end L2

namespace L2
open PySem PySem.Spec PyProof.Rows

noncomputable abbrev KOf {K : PySem.W.Frag} {h : Heap} (_ : K.In h) : PySem.W.Frag := K

theorem walk_of {l : PySem.W.OpenLaw} {n k : Nat} {q : Program} {loose : List Str} {XP : (Str → Option Value) → Heap → Prop} {YP : World → Heap → Prop} {d : DefRec} {K : Params → PySem.W.Frag} {CX : World → CXT} {sp : World → Sp} {x : Str}
    (hn : l.most = some n) (hn2 : n ≤ sizeLine) (hdf : d.params.defaults = []) (hr : Room k callerA)
    (hY : ∀ (w : World) (h : Heap), YP w h → (K w.params).In h)
    (F : ∀ (w : World) (mg : Str → Option Value) (fa : Addr) (h : Heap), (K w.params).In h → h.Ns mainGlobals mg → mg d.name = some (.ref fa) →
      ∃ fd : FuncData, (∀ (s : Shared) (u : Value), BindsTo s fd ⟨[u], []⟩ [(x, u)]) ∧
        ∀ base : Heap, (K w.params).In base → base.Ns mainGlobals mg → FnOk l.prog w (K w.params) mg base (CX w) k fa fd [x] (sp w))
    (hsp : ∀ (w : World) (H : Hp) (a : Addr) (ns : List Int), ns.length ≤ n → Only H → SqL (K w.params) H a (ns.map V.int) → sp w [.ref a] H (fun v _ => v = .bl true) fun _ _ _ => False)
    (hCX : ∀ (w : World) (H : Hp) (s : Shared) (e : Value) (s' : Shared), CX w [] H s (fun _ _ _ => False) e s' → False) :
    PySem.W.WalkO q loose XP YP l.row.toRowW d [] (fun f vs => PySem.call f vs) := by
  refine Att.attach_call hn hdf fun w s₀ s₁ mg mb fa o pm cd doc a vs ns G Y ho hd hcd hmg hobj hints hlen hg => ?_
  have KX := hY w _ Y
  obtain ⟨fd, hb, hF⟩ := F w mg fa _ KX G.T.g hmg
  exact law_call KX G.T.g G.T.b G.T.builtins G.T.nolimit hg hobj hints (Nat.le_trans hlen hn2) hr hF hb (fun H hO hS => hsp w H a ns hlen hO hS) fun H e s' => hCX w H s₁ e s'
end L2


namespace L2
open PySem PySem.Spec PyProof.Rows

noncomputable def inClass (s : Stmt) (j : Nat) : Stmt := match s with
  | .ClassDef _ _ _ body _ _ _ _ _ _ _ => body.getD j (.Pass ⟨0, 0, 0, 0⟩)
  | _ => .Pass ⟨0, 0, 0, 0⟩
noncomputable def defArgs (s : Stmt) : Arguments := match s with
  | .FunctionDef _ a _ _ _ _ _ _ _ _ => a
  | _ => { posonlyargs := [], args := [], vararg := none, kwonlyargs := [], kw_defaults := [], kwarg := none, defaults := [] }
noncomputable def defBody (s : Stmt) : List Stmt := match s with
  | .FunctionDef _ _ b _ _ _ _ _ _ _ => b
  | _ => []
noncomputable def defScope (s : Stmt) : Scope := match s with
  | .FunctionDef _ _ _ _ _ _ sc _ _ _ => sc
  | _ => { kind := .function, names := [], isGenerator := false, isCoroutine := false }

noncomputable abbrev CX0 : CXT := fun _ _ _ _ _ _ => False
noncomputable abbrev E0 : XK := fun _ _ _ => False
theorem pass0 {X : Cx} : Passes CX0 X E0 := fun _ _ _ _ _ _ _ h => h.elim

structure Fun (K : PySem.W.Frag) (x qual : Str) (st : Stmt) (f : Addr) (fd : FuncData) : Prop where
  ex : ∃ (oc : Value) (od : Option Addr) (kV doc pm : Value) (an : Option Addr) (cdv ct : Value) (osl : Array (Option Value)),
    fd = PySem.W.fnOf x qual (defArgs st) (defBody st) (defScope st) .none kV doc pm an cdv ct ∧ K.lookup f = some ⟨oc, od, .func fd, osl⟩ ∧ PySem.W.codeIn K cdv qual = true
  kp : PySem.W.keepIn K (.ref f) = true
section
variable {P : Program} {w : World} {K : PySem.W.Frag} {mg : Str → Option Value} {base : Heap}
theorem Fun.ok {x qual : Str} {st : Stmt} {f : Addr} {fd : FuncData} {N ps : List Str} {k : Nat} {sp : Sp} (F : Fun K x qual st f fd) (S : FnScope N ps (defScope st)) (len : ∀ vs H Q E, sp vs H Q E → vs.length = ps.length)
    (hbody : ∀ (cdv : Value) (A : Around) (outer : List Env) (s : Shared) (H : Hp) (vs : List V) (Q : VK) (E : XK), Room k (A.deeper (envOfC qual (defScope st) s.heap.objs.size f cdv)) → sp vs H Q E →
      ∃ t, PSs (cxOf CX0 P w K mg base N qual (defScope st) f cdv A outer s H E).nox (defBody st) t ∧ t { nx := fun _ H' => Q .non H', rt := Q } (start N vs) H) : FnOk P w K mg base CX0 (k + 1) f fd ps sp := by
  obtain ⟨oc, od, kV, doc, pm, an, cdv, ct, osl, rfl, lk, hcd⟩ := F.ex
  refine fn_of lk hcd S len fun A outer s H vs Q E hr hsp => ?_
  obtain ⟨t, h, q⟩ := hbody cdv A outer s H vs Q E hr hsp
  exact ⟨t, h.nox, q⟩
theorem Fun.binds {x qual : Str} {st : Stmt} {f : Addr} {fd : FuncData} {ps : List Str} (F : Fun K x qual st f fd)
    (h : ∀ (kV doc pm : Value) (an : Option Addr) (cdv ct : Value) (us : List Value), us.length = ps.length → bindArgs (PySem.W.fnOf x qual (defArgs st) (defBody st) (defScope st) .none kV doc pm an cdv ct) ⟨us, []⟩ = pure (ps.zip us)) : Binds K fd ps [] := by
  obtain ⟨oc, od, kV, doc, pm, an, cdv, ct, osl, rfl, lk, hcd⟩ := F.ex
  exact .all (h kV doc pm an cdv ct)
theorem fun_mk {x qual : Str} {st : Stmt} {f : Addr} {oc : Value} {od an : Option Addr} {osl : Array (Option Value)} {kV doc pm cdv ct : Value} (l : K.lookup f = some ⟨oc, od, .func (PySem.W.fnOf x qual (defArgs st) (defBody st) (defScope st) .none kV doc pm an cdv ct), osl⟩)
    (c : PySem.W.codeIn K cdv qual = true) (k : PySem.W.keepIn K (.ref f) = true) : Fun K x qual st f (PySem.W.fnOf x qual (defArgs st) (defBody st) (defScope st) .none kV doc pm an cdv ct) := ⟨⟨oc, od, kV, doc, pm, an, cdv, ct, osl, rfl, l, c⟩, k⟩
end
theorem hu_of {A : Around} {k : Nat} (hr : Room k A) : A.units + 1 < cLine := Nat.lt_of_le_of_lt (Nat.add_le_add_left (by decide : 1 ≤ 64) _) hr.units
theorem small1000 {n : Nat} (h : n ≤ 1000) : n < sizeLine := Nat.lt_of_le_of_lt h (by decide)

section
variable {X : Cx}
theorem pv (i : Nat) {x : Str} {pos : Pos} (hN : X.N[i]? = some x := by rfl) (hv : Vis X.env.scope x := by first | exact Or.inl rfl | exact Or.inr (Or.inl rfl) | exact Or.inr (Or.inr rfl)) (hd : (x == ("__debug__" : Str)) = false := by decide)
    (hcd : (x == ("__classdict__" : Str)) = false := by decide) : PE X (.Name x pos) (tVar i) := pe_var hN hv hd hcd
end

theorem iteF {A B : Prop} (h : B) : if false = true then A else B := by
  rw [if_neg Bool.false_ne_true]
  exact h
theorem iteT {A B : Prop} (h : A) : if true = true then A else B := by
  rw [if_pos rfl]
  exact h
theorem ite2 {c A B : Prop} [Decidable c] (h1 : c → A) (h2 : ¬ c → B) : if c then A else B := by
  by_cases h : c
  · rw [if_pos h]
    exact h1 h
  · rw [if_neg h]
    exact h2 h

noncomputable def Same (H H' : Hp) : Prop := ∀ b o, H b = some o → H' b = some o
theorem Same.refl (H : Hp) : Same H H := fun _ _ h => h
theorem Same.trans {H H1 H2 : Hp} (a : Same H H1) (b : Same H1 H2) : Same H H2 := fun c o h => b c o (a c o h)
theorem Same.free {H H' : Hp} (e : Same H H') {l : Addr} (h : H' l = Option.none) : H l = Option.none := by
  cases q : H l with
  | none => rfl
  | some o =>
    rw [e l o q] at h
    cases h
theorem Same.seq {K : PySem.W.Frag} {H H' : Hp} {a : Addr} {xs : List V} (e : Same H H') (h : SqL K H a xs) : SqL K H' a xs := by
  rcases h with (h | ⟨o, h⟩) | h
  · exact .inl (.inl (e _ _ h))
  · exact .inl (.inr ⟨o, e _ _ h⟩)
  · exact .inr h

end L2


end
section
set_option Elab.async false
set_option linter.all false
set_option maxRecDepth 100000
set_option maxHeartbeats 1000000
namespace L2
open PySem PySem.Spec PyProof.Rows
section
variable {κ : Type} [DecidableEq κ]
noncomputable def valV (kvs : List (κ × V)) (k : κ) : Option V := (kvs.find? fun kv => decide (kv.1 = k)).map (·.2)
noncomputable def putK (kvs : List (κ × V)) (k : κ) (v : V) : List (κ × V) :=
  if (kvs.any fun kv => decide (kv.1 = k)) = true then kvs.map (fun kv => if kv.1 = k then (kv.1, v) else kv) else kvs ++ [(k, v)]
noncomputable def dropK (kvs : List (κ × V)) (k : κ) : List (κ × V) := kvs.filter fun kv => decide (kv.1 ≠ k)

theorem valV_pos {p : κ × V} {r : List (κ × V)} {k : κ} (e : p.1 = k) : valV (p :: r) k = some p.2 := by simp [valV, List.find?_cons, e]
theorem valV_neg {p : κ × V} {r : List (κ × V)} {k : κ} (e : ¬ p.1 = k) : valV (p :: r) k = valV r k := by simp [valV, List.find?_cons, e]
theorem valV_any (k : κ) : ∀ kvs : List (κ × V), (kvs.any fun kv => decide (kv.1 = k)) = (valV kvs k).isSome
  | [] => rfl
  | p :: r => by
    rw [List.any_cons]
    by_cases e : p.1 = k
    · simp only [valV_pos e, decide_eq_true e, Bool.true_or, Option.isSome_some]
    · rw [valV_neg e, decide_eq_false e, Bool.false_or]; exact valV_any k r
theorem length_putK (kvs : List (κ × V)) (k : κ) (v : V) : (putK kvs k v).length ≤ kvs.length + 1 := by
  unfold putK
  split
  · rw [List.length_map]; lia
  · rw [List.length_append, List.length_cons, List.length_nil]; lia
theorem putK_new {kvs : List (κ × V)} {k : κ} (v : V) (h : valV kvs k = none) : putK kvs k v = kvs ++ [(k, v)] := by
  unfold putK
  rw [valV_any, h]
  exact if_neg (by decide)

theorem RelO.isSome_eq {o : Option V} {u : Option Value} (r : RelO o u) : o.isSome = u.isSome := by
  cases o with
  | none => cases u with
    | none => rfl
    | some _ => exact (show False from r).elim
  | some _ => cases u with
    | none => exact (show False from r).elim
    | some _ => rfl

theorem KV.val {kvs : List (κ × V)} {vs : List (κ × Value)} (r : KV kvs vs) (k : κ) : RelO (valV kvs k) (valueAt vs k) := by
  unfold KV at r
  induction r with
  | nil => exact True.intro
  | @cons p q ps qs h t ih =>
    obtain ⟨h1, h2⟩ := h
    by_cases e : p.1 = k
    · have e' : q.1 = k := h1.symm.trans e
      have b : valueAt (q :: qs) k = some q.2 := by simp [valueAt, List.find?_cons, e']
      rw [valV_pos e, b]; exact h2
    · have e' : ¬ q.1 = k := fun z => e (h1.trans z)
      have b : valueAt (q :: qs) k = valueAt qs k := by simp [valueAt, List.find?_cons, e']
      rw [valV_neg e, b]; exact ih
theorem KV.any {kvs : List (κ × V)} {vs : List (κ × Value)} (r : KV kvs vs) (k : κ) : (kvs.any fun kv => decide (kv.1 = k)) = vs.any fun kv => decide (kv.1 = k) := by
  unfold KV at r
  induction r with
  | nil => rfl
  | cons h t ih => rw [List.any_cons, List.any_cons, ih, h.1]
theorem KV.repl {kvs : List (κ × V)} {vs : List (κ × Value)} (r : KV kvs vs) (k : κ) {y : V} {u : Value} (ry : RelV y u) :
    KV (kvs.map fun kv => if kv.1 = k then (kv.1, y) else kv) (vs.map fun kv => if kv.1 = k then (kv.1, u) else kv) := by
  unfold KV at r ⊢
  induction r with
  | nil => exact .nil
  | @cons p q ps qs h t ih =>
    rw [List.map_cons, List.map_cons]
    refine .cons ?_ ih
    obtain ⟨h1, h2⟩ := h
    by_cases e : p.1 = k
    · rw [if_pos e, if_pos (h1.symm.trans e)]; exact ⟨h1, ry⟩
    · rw [if_neg e, if_neg (fun z => e (h1.trans z))]; exact ⟨h1, h2⟩
theorem KV.put {kvs : List (κ × V)} {vs : List (κ × Value)} (r : KV kvs vs) (k : κ) {y : V} {u : Value} (ry : RelV y u) : KV (putK kvs k y) (stored vs k u) := by
  unfold putK stored
  rw [r.any k]
  by_cases e : (vs.any fun kv => decide (kv.1 = k)) = true
  · rw [if_pos e, if_pos e]; exact r.repl k ry
  · rw [if_neg e, if_neg e]; exact Paired.snoc r ⟨rfl, ry⟩
theorem KV.length {kvs : List (κ × V)} {vs : List (κ × Value)} (r : KV kvs vs) : kvs.length = vs.length := Paired.length r
end


theorem kV_is {P : Program} {w : World} {k : Key} {u : Value} (r : RelV (kV k) u) : (mixKind P w).is k u = true := by
  cases k with
  | inl i => cases (show u = Value.bool i from r); exact mixKind_int P w i
  | inr x => obtain ⟨t, e⟩ := (show ∃ t, u = Value.str x t from r); subst e; exact mixKind_str P w x t
theorem items_are {P : Program} {w : World} : ∀ {ks : List Key} {us : List Value}, Vals (ks.map kV) us → ItemsAre (mixKind P w) ks us
  | [], _, r => by rw [List.map_nil] at r; cases r; exact .nil
  | k :: ks, _, r => by
    rw [List.map_cons] at r
    cases r with
    | cons h t => exact .cons (kV_is h) (items_are t)

noncomputable abbrev KT (H : Hp) : List (List Key × V) → List (List Key × Addr × Value) → Prop := Paired fun p q => p.1 = q.1 ∧ H q.2.1 = some (.tup (p.1.map kV)) ∧ RelV p.2 q.2.2
theorem KT.val {H : Hp} {kvs : List (List Key × V)} {xs : List (List Key × Addr × Value)} (r : KT H kvs xs) (k : List Key) : RelO (valV kvs k) ((atKey xs k).map (·.2)) := by
  induction r with
  | nil => exact True.intro
  | @cons p q ps qs h t ih =>
    obtain ⟨h1, _, h2⟩ := h
    by_cases e : p.1 = k
    · have e' : q.1 = k := h1.symm.trans e
      have b : atKey (q :: qs) k = some q.2 := by simp [atKey, List.find?_cons, e']
      rw [valV_pos e, b]; exact h2
    · have e' : ¬ q.1 = k := fun z => e (h1.trans z)
      have b : atKey (q :: qs) k = atKey qs k := by simp [atKey, List.find?_cons, e']
      rw [valV_neg e, b]; exact ih
theorem KT.repl {H : Hp} {kvs : List (List Key × V)} {xs : List (List Key × Addr × Value)} (r : KT H kvs xs) (k : List Key) {y : V} {u : Value} (ry : RelV y u) :
    KT H (kvs.map fun kv => if kv.1 = k then (kv.1, y) else kv) (xs.map (putAt k u)) := by
  induction r with
  | nil => exact .nil
  | @cons p q ps qs h t ih =>
    rw [List.map_cons, List.map_cons]
    refine .cons ?_ ih
    obtain ⟨h1, h2, h3⟩ := h
    unfold putAt
    by_cases e : p.1 = k
    · rw [if_pos e, if_pos (h1.symm.trans e)]; exact ⟨h1, h2, ry⟩
    · rw [if_neg e, if_neg (fun z => e (h1.trans z))]; exact ⟨h1, h2, h3⟩
theorem KT.put {H : Hp} {kvs : List (List Key × V)} {xs : List (List Key × Addr × Value)} (r : KT H kvs xs) (k : List Key) {b : Addr} {y : V} {u : Value} (hb : H b = some (.tup (k.map kV))) (ry : RelV y u) :
    KT H (putK kvs k y) (storedH xs k b u) := by
  have e : (kvs.any fun kv => decide (kv.1 = k)) = (atKey xs k).isSome := by
    rw [valV_any, (r.val k).isSome_eq, Option.isSome_map]
  unfold putK storedH
  rw [e]
  by_cases q : (atKey xs k).isSome = true
  · rw [if_pos q, if_pos q]; exact r.repl k ry
  · rw [if_neg q, if_neg q]; exact Paired.snoc r ⟨rfl, hb, ry⟩
theorem KT.keeps {H H' : Hp} {kvs : List (List Key × V)} {xs : List (List Key × Addr × Value)} (r : KT H kvs xs) (ht : ∀ b ys, H b = some (.tup ys) → H' b = some (.tup ys)) : KT H' kvs xs :=
  Paired.mapP r fun _ _ z => ⟨z.1, ht _ _ z.2.1, z.2.2⟩

section
variable {P : Program} {w : World} {H : Hp} {h : Heap} {a : Addr}
theorem rd_of {u : HO} (ok : HOk P w H h) (e : Rd H a u) : ObjOk P w H h a u := e.ok ok
theorem dk_rd {kvs : List (Key × V)} (ok : HOk P w H h) (e : Rd H a (.dK kvs)) : kvs.length ≤ sizeLine ∧ (a == sysModules) = false ∧ ∃ vs, KV kvs vs ∧ h.DictOf (mixKind P w) a vs :=
  show ObjOk P w H h a (.dK kvs) from rd_of ok e
theorem dk_of {kvs : List (Key × V)} (ok : HOk P w H h) (e : H a = some (.dK kvs)) : kvs.length ≤ sizeLine ∧ (a == sysModules) = false ∧ ∃ vs, KV kvs vs ∧ h.DictOf (mixKind P w) a vs := dk_rd ok (.inl e)
theorem key_of {ks : List Key} (ok : HOk P w H h) (e : H a = some (.tup (ks.map kV))) : (tupleKind (mixKind P w)).is h ks a := by
  obtain ⟨_, its, r, o, h1, h2, n, h3⟩ := (show ObjOk P w H h a (.tup (ks.map kV)) from ok a _ e)
  exact ⟨o, its.toArray, n, h1, h2, h3, by simpa using items_are r⟩
theorem dt_rd {kvs : List (List Key × V)} (ok : HOk P w H h) (e : Rd H a (.dT kvs)) : kvs.length ≤ sizeLine ∧ (a == sysModules) = false ∧
    ∃ xs, KT H kvs xs ∧ h.DictOfH (tupleKind (mixKind P w)) a xs := by
  obtain ⟨z, y, xs, r, o, es, ep, h1, h2, h3, h4, h5⟩ := (show ObjOk P w H h a (.dT kvs) from rd_of ok e)
  refine ⟨z, y, xs, r, o, es, ep, h1, h2, h3, h4, fun x hx => ?_, h5⟩
  have all : ∀ {l : List (List Key × V)} {m : List (List Key × Addr × Value)}, KT H l m → ∀ x ∈ m, (tupleKind (mixKind P w)).is h x.1 x.2.1 := by
    intro l m q
    induction q with
    | nil => intro x hx; exact nomatch hx
    | @cons p q ps qs hq t ih =>
      intro x hx
      rcases List.mem_cons.mp hx with e | hx
      · subst e
        exact key_of ok (by rw [← hq.1]; exact hq.2.1)
      · exact ih x hx
  exact all r x hx
theorem dt_of {kvs : List (List Key × V)} (ok : HOk P w H h) (e : H a = some (.dT kvs)) : kvs.length ≤ sizeLine ∧ (a == sysModules) = false ∧
    ∃ xs, KT H kvs xs ∧ h.DictOfH (tupleKind (mixKind P w)) a xs := dt_rd ok (.inl e)
end

noncomputable def DGet (H : Hp) (a : Addr) (y : V) (r : Option V) : Prop :=
  (∃ kvs k, Rd H a (.dK kvs) ∧ y = kV k ∧ r = valV kvs k) ∨ ∃ kvs k b, Rd H a (.dT kvs) ∧ y = .ref b ∧ H b = some (.tup (k.map kV)) ∧ r = valV kvs k
noncomputable def DPut (H : Hp) (a : Addr) (y v : V) (H' : Hp) : Prop :=
  (∃ kvs k, H a = some (.dK kvs) ∧ y = kV k ∧ kvs.length < sizeLine ∧ H' = upd H a (.dK (putK kvs k v))) ∨
  ∃ kvs k b, H a = some (.dT kvs) ∧ y = .ref b ∧ H b = some (.tup (k.map kV)) ∧ kvs.length < sizeLine ∧ H' = upd H a (.dT (putK kvs k v))
theorem DPut.t {H : Hp} {a b : Addr} {kvs : List (List Key × V)} {k : List Key} {v : V} (e : H a = some (.dT kvs)) (eb : H b = some (.tup (k.map kV))) (hl : kvs.length < sizeLine) :
    DPut H a (.ref b) v (upd H a (.dT (putK kvs k v))) := .inr ⟨kvs, k, b, e, rfl, eb, hl, rfl⟩


section
variable {X : Cx} {pins : List (Addr × Obj)} {σ : St} {H : Hp} {s : Shared} {a : Addr} {y v : V} {u r : Value} {o : Option V} {A : Around} {E : Value → Shared → Prop}

theorem Inv.big (I : Inv X pins σ H s) : sysModules < s.heap.objs.size := by
  have h : mainGlobals < s.heap.objs.size := (I.mod.glob.keeps I.bk).lt
  exact Nat.lt_trans (by decide) h

theorem d_getItem {Q : Value → Shared → Prop} (hu : A.units + 1 < cLine) (I : Inv X pins σ H s) (g : DGet H a y (some v)) (ry : RelV y u) (h : ∀ w' s', Inv X pins σ H s' → RelV v w' → Q w' s') :
    wpAny (model X.prog X.w) A (getItem (.ref a) u) Q E s := by
  rcases g with ⟨kvs, k, e, ey, l⟩ | ⟨kvs, k, b, e, ey, eb, l⟩
  · subst ey
    obtain ⟨z, hd, vs, rel, dd⟩ := dk_rd I.hok e
    obtain ⟨w', hw, rw'⟩ := RelO.some_of (v := v) (o := valueAt vs k) (by rw [l]; exact rel.val k)
    exact wpAny_getItem_of (kV_is ry) dd.mapOf hw (h w' _ (I.tok _) rw')
  · subst ey
    cases (show u = Value.ref b from ry)
    obtain ⟨z, hd, xs, rel, dd⟩ := dt_rd I.hok e
    obtain ⟨w', hw, rw'⟩ := RelO.some_of (v := v) (o := (atKey xs k).map (·.2)) (by rw [l]; exact rel.val k)
    obtain ⟨p, hp, hp2⟩ := Option.map_eq_some_iff.mp hw
    refine wpAny_getItem_heap (tupleKind_room_in1 hu) (key_of I.hok eb) dd hp ?_
    rw [hp2]
    exact h w' _ (I.tok _) rw'
theorem d_in {Q : Value → Shared → Prop} (hu : A.units + 1 < cLine) (I : Inv X pins σ H s) (g : DGet H a y o) (ry : RelV y u) (h : ∀ s', Inv X pins σ H s' → Q (.bool o.isSome) s') :
    wpAny (model X.prog X.w) A (compareOp .In u (.ref a)) Q E s := by
  rcases g with ⟨kvs, k, e, ey, l⟩ | ⟨kvs, k, b, e, ey, eb, l⟩
  · subst ey
    obtain ⟨z, hd, vs, rel, dd⟩ := dk_rd I.hok e
    refine wpAny_in_of (kV_is ry) hd dd.mapOf ?_
    rw [← (rel.val k).isSome_eq, ← l]
    exact h _ (I.tok _)
  · subst ey
    cases (show u = Value.ref b from ry)
    obtain ⟨z, hd, xs, rel, dd⟩ := dt_rd I.hok e
    refine wpAny_in_heap (tupleKind_room_in1 hu) (key_of I.hok eb) hd dd ?_
    have q := (rel.val k).isSome_eq
    rw [Option.isSome_map] at q
    rw [← q, ← l]
    exact h _ (I.tok _)
theorem d_notIn {Q : Value → Shared → Prop} (hu : A.units + 1 < cLine) (I : Inv X pins σ H s) (g : DGet H a y o) (ry : RelV y u) (h : ∀ s', Inv X pins σ H s' → Q (.bool (!o.isSome)) s') :
    wpAny (model X.prog X.w) A (compareOp .NotIn u (.ref a)) Q E s := by
  rcases g with ⟨kvs, k, e, ey, l⟩ | ⟨kvs, k, b, e, ey, eb, l⟩
  · subst ey
    obtain ⟨z, hd, vs, rel, dd⟩ := dk_rd I.hok e
    refine wpAny_notIn_of (kV_is ry) hd dd.mapOf ?_
    rw [← (rel.val k).isSome_eq, ← l]
    exact h _ (I.tok _)
  · subst ey
    cases (show u = Value.ref b from ry)
    obtain ⟨z, hd, xs, rel, dd⟩ := dt_rd I.hok e
    refine wpAny_notIn_heap (tupleKind_room_in1 hu) (key_of I.hok eb) hd dd ?_
    have q := (rel.val k).isSome_eq
    rw [Option.isSome_map] at q
    rw [← q, ← l]
    exact h _ (I.tok _)
theorem d_write {h' : Heap} {t' : Nat} {ob : HO} (I : Inv X pins σ H s) (mu : Mut (H a)) (hs : Heap.SameBut a s.heap h') (he : ∃ q, h'.get? a = some q) (new : ObjOk X.prog X.w (upd H a ob) h' a ob) :
    Inv X pins σ (upd H a ob) { s with heap := h', toks := t' } :=
  I.write (x := a) (e := a) mu (.inl rfl) (fun b q hb z => (hs.2 b hb).trans z) he new
theorem dk_new {P : Program} {w : World} {H' : Hp} {h' : Heap} {kvs : List (Key × V)} {vs : List (Key × Value)} (z : kvs.length ≤ sizeLine) (hd : (a == sysModules) = false) (rel : KV kvs vs) (dd : h'.DictOf (mixKind P w) a vs) :
    ObjOk P w H' h' a (.dK kvs) := ⟨z, hd, vs, rel, dd⟩
theorem d_setItem {H' : Hp} {Q : Unit → Shared → Prop} (hu : A.units + 1 < cLine) (I : Inv X pins σ H s) (g : DPut H a y v H') (ry : RelV y u) (rv : RelV v r) (h : ∀ s', Inv X pins σ H' s' → Q () s') :
    wpAny (model X.prog X.w) A (setItem (.ref a) u r) Q E s := by
  rcases g with ⟨kvs, k, e, ey, l, eH⟩ | ⟨kvs, k, b, e, ey, eb, l, eH⟩
  · subst ey eH
    obtain ⟨z, hd, vs, rel, dd⟩ := dk_of I.hok e
    have hz : vs.length ≤ sizeLine := by rw [← rel.length]; exact z
    have hl : (putK kvs k v).length ≤ sizeLine := by have := length_putK kvs k v; lia
    refine wpAny_setItem_pairs (hsz := hz) (kV_is ry) dd fun h' dd' hs => h _ ?_
    have he : ∃ q, h'.get? a = some q := let ⟨q, _, _, hq, _⟩ := dd'; ⟨q, hq⟩
    exact d_write I (by rw [e]; exact True.intro) hs he (dk_new hl hd (rel.put k rv) dd')
  · subst ey eH
    cases (show u = Value.ref b from ry)
    obtain ⟨z, hd, xs, rel, dd⟩ := dt_of I.hok e
    have hz : xs.length ≤ sizeLine := by rw [← Paired.length rel]; exact z
    have hl : (putK kvs k v).length ≤ sizeLine := by have := length_putK kvs k v; lia
    refine wpAny_setItem_heap (hsz := hz) (tupleKind_room_in1 hu) (key_of I.hok eb) dd fun h' dd' hs => h _ ?_
    obtain ⟨q, es, ep, hq, h2, h3, h4, _, h5⟩ := dd'
    refine d_write I (by rw [e]; exact True.intro) hs ⟨q, hq⟩ ⟨hl, hd, _, (rel.put k eb rv).keeps fun c ys ec => ?_, q, es, ep, hq, h2, h3, h4, h5⟩
    rw [upd_ne (ne_of ec e (fun z => nomatch z))]
    exact ec
end

section
variable {X : Cx} {pins : List (Addr × Obj)} {σ : St} {H : Hp} {s : Shared} {a : Addr} {kvs : List (Key × V)} {k : Key} {u : Value} {A : Around} {E : Value → Shared → Prop}
end


noncomputable def NoSl (i : Expr) : Prop := ∀ ov iv, subscripted i false ov iv = operate [ov, iv] (getItem ov iv)
theorem subD_of {prog : Program} {w : World} {A : Around} {E : Value → Shared → Prop} {s : Shared} {env : Env} {value slice : Expr} {pos : Pos} {T id : String} {Q : Value → Shared → Prop}
    (hl : typeLookup (.type T) "__getitem__" = pure (some (.builtin id))) (hs : NoSl slice)
    (h : wpAny (model prog w) A (eval value env) (fun o s₁ => wpAny (model prog w) A (eval slice env) (fun i s₂ => s₂.TypeIs o T ∧ wpAny (model prog w) A (getItem o i) Q E s₂) E s₁) E s) :
    wpAny (model prog w) A (eval (.Subscript value slice pos) env) Q E s := by
  refine Subscript_ (wpAny_mono h (fun o s₁ h₁ => wpAny_mono h₁ (fun i s₂ h₂ => ?_) fun _ _ x => x) fun _ _ x => x)
  obtain ⟨hT, h₂⟩ := h₂
  unfold subscriptTail
  refine wpAny_bind ?_
  rw [getitemInPython_of_ne hT.not_modules]
  refine wpAny_bind (wpAny_specialOf hT hl ?_)
  have fin : wpAny (model prog w) A (subscripted slice false o i) (fun r s₃ => wpAny (model prog w) A (letTemporaryGo value o r >>= fun _ => pure r) Q E s₃) E s₂ := by
    rw [hs o i]
    exact wpAny_operating (wpAny_mono h₂ (fun r s₃ h₃ => wpAny_bind (wpAny_letTemporaryGo (wpAny_pure h₃))) fun _ _ x => x)
  first
    | exact wpAny_pure (wpAny_bind fin)
    | exact wpAny_bind (wpAny_pure (wpAny_bind fin))
    | exact wpAny_bind fin

theorem dict_typeIs {X : Cx} {pins : List (Addr × Obj)} {σ : St} {H : Hp} {s : Shared} {a : Addr} {y : V} {o : Option V} (I : Inv X pins σ H s) (g : DGet H a y o) : s.TypeIs (.ref a) "dict" := by
  rcases g with ⟨kvs, k, e, _, _⟩ | ⟨kvs, k, b, e, _, _, _⟩
  · obtain ⟨_, _, vs, _, dd⟩ := dk_rd I.hok e
    exact dd.typeIs
  · obtain ⟨_, _, xs, _, dd⟩ := dt_rd I.hok e
    exact dd.typeIs

inductive I_tDGet (x : V) (y : V) (H2 : Hp) (Q : VK) : Prop
  | mk : ∀ a v, (x = .ref a) → (DGet H2 a y (some v)) → (Q v H2) → I_tDGet x y H2 Q
noncomputable def tDGet (td ty : TE) : TE := fun σ H Q => td σ H fun x H1 => ty σ H1 fun y H2 => I_tDGet x y H2 Q
inductive I_tDIn (x : V) (y : V) (H2 : Hp) (Q : VK) : Prop
  | mk : ∀ a o, (x = .ref a) → (DGet H2 a y o) → (Q (.bl o.isSome) H2) → I_tDIn x y H2 Q
noncomputable def tDIn (ty td : TE) : TE := fun σ H Q => ty σ H fun y H1 => td σ H1 fun x H2 => I_tDIn x y H2 Q
inductive I_tDNotIn (x : V) (y : V) (H2 : Hp) (Q : VK) : Prop
  | mk : ∀ a o, (x = .ref a) → (DGet H2 a y o) → (Q (.bl (!o.isSome)) H2) → I_tDNotIn x y H2 Q
noncomputable def tDNotIn (ty td : TE) : TE := fun σ H Q => ty σ H fun y H1 => td σ H1 fun x H2 => I_tDNotIn x y H2 Q
inductive I_sDPut (x : V) (y : V) (v : V) (σ : St) (H3 : Hp) (D : Ends) : Prop
  | mk : ∀ a H4, (x = .ref a) → (DPut H3 a y v H4) → (D.nx σ H4) → I_sDPut x y v σ H3 D
noncomputable def sDPut (td ty tv : TE) : TS := fun D σ H => tv σ H fun v H1 => td σ H1 fun x H2 => ty σ H2 fun y H3 => I_sDPut x y v σ H3 D
noncomputable def sDAug (td ty tv : TE) (rd : V → V → Hp → VK → Prop) : TS := fun D σ H => td σ H fun x H1 => ty σ H1 fun y H2 => ∃ a v, x = .ref a ∧ DGet H2 a y (some v) ∧
  tv σ H2 fun y2 H3 => rd v y2 H3 fun z H4 => ∃ H5, DPut H4 a y z H5 ∧ D.nx σ H5
noncomputable def sDDel (td ty : TE) : TS := fun D σ H => td σ H fun x H1 => ty σ H1 fun y H2 => ∃ a kvs k, x = .ref a ∧ H2 a = some (.dK kvs) ∧ y = kV k ∧ (valV kvs k).isSome = true ∧ D.nx σ (upd H2 a (.dK (dropK kvs k)))

section
variable {X : Cx} {o i e value : Expr} {pos pos' tpos : Pos} {td ty tv : TE}
theorem pe_dget (hu : X.A.units + 1 < cLine) (ho : PE X o td) (hi : PE X i ty) (hs : NoSl i) : PE X (.Subscript o i pos) (tDGet td ty) := by
  intro pins s σ H Q I h
  refine subD_of PySem.F.slot_dict_getitem.lookup hs (thn (ho pins s σ H _ I h) fun u s1 ⟨x, H1, I1, rx, q1⟩ => thn (hi pins s1 σ H1 _ I1 q1) fun iv s2 ⟨y, H2, I2, ry, a, v, ex, g, q2⟩ => ?_)
  subst ex
  obtain rfl : u = Value.ref a := rx
  exact ⟨dict_typeIs I2 g, d_getItem hu I2 g ry fun w' s3 I3 rw' => ⟨v, H2, I3, rw', q2⟩⟩
theorem pc_din (hu : X.A.units + 1 < cLine) (hi : PE X i ty) (ho : PE X o td) : PC X .In i o (tDIn ty td) := by
  intro pins s σ H Q I h
  refine thn (hi pins s σ H _ I h) fun iv s1 ⟨y, H1, I1, ry, q1⟩ => thn (ho pins s1 σ H1 _ I1 q1) fun u s2 ⟨x, H2, I2, rx, a, ov, ex, g, q2⟩ => ?_
  subst ex
  obtain rfl : u = Value.ref a := rx
  exact d_in hu I2 g ry fun s3 I3 => ⟨.bl ov.isSome, H2, I3, rfl, q2⟩
theorem pc_dnotin (hu : X.A.units + 1 < cLine) (hi : PE X i ty) (ho : PE X o td) : PC X .NotIn i o (tDNotIn ty td) := by
  intro pins s σ H Q I h
  refine thn (hi pins s σ H _ I h) fun iv s1 ⟨y, H1, I1, ry, q1⟩ => thn (ho pins s1 σ H1 _ I1 q1) fun u s2 ⟨x, H2, I2, rx, a, ov, ex, g, q2⟩ => ?_
  subst ex
  obtain rfl : u = Value.ref a := rx
  exact d_notIn hu I2 g ry fun s3 I3 => ⟨.bl (!ov.isSome), H2, I3, rfl, q2⟩
theorem ps_dput (hu : X.A.units + 1 < cLine) (ho : PE X o td) (hi : PE X i ty) (hv : PE X value tv) (hs : swapsWith value (some (.Subscript o i pos')) pos.line X.env = pure false) :
    PS X (.Assign [.Subscript o i pos'] value pos) (sDPut td ty tv) := by
  intro pins s σ H D I h
  refine wpAny_Assign_Subscript (thn (hv pins s σ H _ I h) fun r s1 ⟨v, H1, I1, rv, q1⟩ => thn (ho pins s1 σ H1 _ I1 q1) fun u s2 ⟨x, H2, I2, rx, q2⟩ => thn (hi pins s2 σ H2 _ I2 q2) fun iv s3 ⟨y, H3, I3, ry, a, H4, ex, g, q3⟩ => ?_) hs
  subst ex
  obtain rfl : u = Value.ref a := rx
  exact d_setItem hu I3 g ry rv fun s4 I4 => ⟨σ, H4, I4, q3⟩
end


theorem dt_empty {P : Program} {w : World} {H : Hp} (h : Heap) (hb : sysModules < h.objs.size) : ObjOk P w H (h.push { cls := .type "dict", data := .dict #[] }) h.objs.size (.dT []) :=
  ⟨Nat.zero_le _, beq_eq_false_iff_ne.mpr (Ne.symm (Nat.ne_of_lt hb)), [], .nil, _, #[], 0, Heap.get?_push_size _ rfl, ⟨rfl, rfl, rfl⟩, rfl, rfl, List.nodup_nil⟩
noncomputable def tDNewK : TE := fun _ H Q => ∀ p, H p = none → Q (.ref p) (upd H p (.dK []))
noncomputable def tDNewT : TE := fun _ H Q => ∀ p, H p = none → Q (.ref p) (upd H p (.dT []))
section
variable {X : Cx} {pos : Pos}
theorem pe_dnewT : PE X (.Dict [] [] pos) tDNewT := fun pins s σ H Q I h =>
  wpAny_Dict_empty ⟨.ref s.heap.objs.size, _, I.laid (a := s.heap.objs.size) (o := .dT []) (t' := s.toks) (fun _ _ q => Heap.get?_push_of_some _ q) (Nat.le_refl _) (dt_empty s.heap I.big), rfl, h _ (I.hok.fresh (Nat.le_refl _))⟩
end

noncomputable def tPairs : List (TE × TE) → St → Hp → (List (V × V) → Hp → Prop) → Prop
  | [], _, H, Q => Q [] H
  | (tk, tv) :: r, σ, H, Q => tk σ H fun x H1 => tv σ H1 fun y H2 => tPairs r σ H2 fun ps H3 => Q ((x, y) :: ps) H3
noncomputable abbrev VV : List (V × V) → List (Value × Value) → Prop := Paired fun p q => RelV p.1 q.1 ∧ RelV p.2 q.2
noncomputable def PPs (X : Cx) (pos : Pos) (keys : List (Option Expr)) (values : List Expr) (trs : List (TE × TE)) : Prop :=
  ∀ (pins : List (Addr × Obj)) (s : Shared) (σ : St) (H : Hp) (Q : List (V × V) → Hp → Prop), Inv X pins σ H s → tPairs trs σ H Q →
    wpAny (model X.prog X.w) X.A (evalPairs (pairTrees keys values X.env pos)) (fun vs s' => ∃ ps H', Inv X pins σ H' s' ∧ VV ps vs ∧ Q ps H') X.xe s

noncomputable def mergeK (kvs more : List (Key × V)) : List (Key × V) := more.foldl (fun acc kv => putK acc kv.1 kv.2) kvs
noncomputable def tDisp (trs : List (TE × TE)) : TE := fun σ H Q => ∀ p, H p = none → tPairs trs σ (upd H p (.dK [])) fun ps H2 => H2 p = some (.dK []) ∧ ∃ kvs : List (Key × V), ps = kvs.map (fun kv => (kV kv.1, kv.2)) ∧ kvs.length ≤ 15 ∧ Q (.ref p) (upd H2 p (.dK (mergeK [] kvs)))


structure M1 (X : Cx) (o : Expr) (m : Str) (apos : Pos) (e : Expr) (cpos : Pos) : Prop where
  base : attributeBase o m X.env (eval o X.env) = eval o X.env
  few : ((backTo cpos (starEach [e] X.env)).all (fun x => !x.1) && (backToKw cpos (keywordEach [] X.env)).all (fun x => x.1.isSome)
    && decide (([e] : List Expr).length + ([] : List Keyword).length + (if ([] : List Keyword).isEmpty then 0 else 1) < 30)) = true
  line : (apos.endLine == cpos.line) = true
  trees : backTo cpos (starEach [e] X.env) = [(false, eval e X.env)]
structure M2 (X : Cx) (o : Expr) (m : Str) (apos : Pos) (e f : Expr) (cpos : Pos) : Prop where
  base : attributeBase o m X.env (eval o X.env) = eval o X.env
  few : ((backTo cpos (starEach [e, f] X.env)).all (fun x => !x.1) && (backToKw cpos (keywordEach [] X.env)).all (fun x => x.1.isSome)
    && decide (([e, f] : List Expr).length + ([] : List Keyword).length + (if ([] : List Keyword).isEmpty then 0 else 1) < 30)) = true
  line : (apos.endLine == cpos.line) = true
  trees : backTo cpos (starEach [e, f] X.env) = [(false, eval e X.env), (false, eval f X.env)]

noncomputable def IsD (H : Hp) (a : Addr) : Prop := (∃ kvs, Rd H a (.dK kvs)) ∨ ∃ kvs, Rd H a (.dT kvs)

section
variable {X : Cx} {pins : List (Addr × Obj)} {σ : St} {H : Hp} {s : Shared} {a : Addr} {y d : V} {u r : Value} {o : Option V} {A : Around} {E : Value → Shared → Prop}
end

noncomputable def tDGet1 (td ty : TE) : TE := fun σ H Q => td σ H fun x H1 => ∃ a, x = .ref a ∧ IsD H1 a ∧ ty σ H1 fun y H2 => ∃ o, DGet H2 a y o ∧ Q (o.getD .non) H2
noncomputable def tDGet2 (td ty tx : TE) : TE := fun σ H Q => td σ H fun x H1 => ∃ a, x = .ref a ∧ IsD H1 a ∧ ty σ H1 fun y H2 => tx σ H2 fun z H3 => ∃ o, DGet H3 a y o ∧ Q (o.getD z) H3
noncomputable def tDPop1 (td ty : TE) : TE := fun σ H Q => td σ H fun x H1 => ∃ a, x = .ref a ∧ IsD H1 a ∧ ty σ H1 fun y H2 => ∃ kvs k v, H2 a = some (.dK kvs) ∧ y = kV k ∧ valV kvs k = some v ∧ Q v (upd H2 a (.dK (dropK kvs k)))
noncomputable def tDPop2 (td ty tx : TE) : TE := fun σ H Q => td σ H fun x H1 => ∃ a, x = .ref a ∧ IsD H1 a ∧ ty σ H1 fun y H2 => tx σ H2 fun z H3 => ∃ kvs k, H3 a = some (.dK kvs) ∧ y = kV k ∧
  (∀ v, valV kvs k = some v → Q v (upd H3 a (.dK (dropK kvs k)))) ∧ (valV kvs k = none → Q z H3)
section
variable {X : Cx} {o e f : Expr} {apos cpos : Pos} {td ty tx : TE}
end

section
variable {X : Cx} {pins : List (Addr × Obj)} {σ : St} {H : Hp} {s : Shared} {a : Addr} {kvs : List (Key × V)} {A : Around} {E : Value → Shared → Prop}
end


section
variable {X : Cx} {pins : List (Addr × Obj)} {σ : St} {H : Hp} {s : Shared} {a : Addr} {y : V} {u : Value} {A : Around} {E : Value → Shared → Prop}
end
end L2


end
section
set_option Elab.async false
set_option linter.all false
set_option maxRecDepth 100000
namespace L2
open PySem PySem.Spec PyProof.Rows

theorem closure_go (env : Env) : ∀ (names : List (Str × NameKind)) (cs : List (Str × Addr)),
    (∀ z ∈ names, z.2 = .free → ∃ c, env.cells.lookup z.1 = some c) →
    (∀ x c, cs.lookup x = some c → env.cells.lookup x = some c) →
    ∃ cl, (forIn (m := Sem) names cs fun (z : Str × NameKind) (r : List (Str × Addr)) =>
        if (z.2 == NameKind.free) = true then (do let a ← cellOf env z.1; pure (ForInStep.yield ((z.1, a) :: r))) else pure (ForInStep.yield r)) = pure cl ∧
      (∀ x c, cl.lookup x = some c → env.cells.lookup x = some c) ∧ (∀ z ∈ names, z.2 = .free → ∃ c, cl.lookup z.1 = some c) ∧
      ∀ x c, cs.lookup x = some c → ∃ c', cl.lookup x = some c'
  | [], cs, _, h2 => ⟨cs, rfl, h2, fun z hz => (nomatch hz), fun x c e => ⟨c, e⟩⟩
  | (n, k) :: r, cs, h1, h2 => by
    by_cases hk : k = .free
    · subst hk
      obtain ⟨c, hc⟩ := h1 (n, .free) List.mem_cons_self rfl
      have h2' : ∀ x d, ((n, c) :: cs).lookup x = some d → env.cells.lookup x = some d := fun x d e => by
        rw [List.lookup_cons] at e
        by_cases hx : (x == n) = true
        · rw [hx] at e
          have ex : x = n := by simpa using hx
          cases e
          rw [ex]; exact hc
        · have hx' : (x == n) = false := by simpa using hx
          rw [hx'] at e
          exact h2 x d e
      obtain ⟨cl, e1, e2, e3, e4⟩ := closure_go env r ((n, c) :: cs) (fun z hz => h1 z (List.mem_cons_of_mem _ hz)) h2'
      have e0 : cellOf env n = pure c := by unfold cellOf; rw [hc]
      refine ⟨cl, ?_, e2, fun z hz hf => ?_, fun x d e => ?_⟩
      · rw [List.forIn_cons]
        simp only [beq_self_eq_true, if_true, e0, pure_bind]
        exact e1
      · rcases List.mem_cons.mp hz with rfl | hz
        · exact e4 n c (by simp)
        · exact e3 z hz hf
      · by_cases hx : (x == n) = true
        · exact e4 x c (by rw [List.lookup_cons, hx])
        · have hx' : (x == n) = false := by simpa using hx
          exact e4 x d (by rw [List.lookup_cons, hx']; exact e)
    · have hb : (k == NameKind.free) = false := by simpa using hk
      obtain ⟨cl, e1, e2, e3, e4⟩ := closure_go env r cs (fun z hz => h1 z (List.mem_cons_of_mem _ hz)) h2
      refine ⟨cl, ?_, e2, fun z hz hf => ?_, e4⟩
      · rw [List.forIn_cons]
        simp only [hb, Bool.false_eq_true, if_false, pure_bind]
        exact e1
      · rcases List.mem_cons.mp hz with rfl | hz
        · exact absurd hf hk
        · exact e3 z hz hf
theorem closure_ok {scope : Scope} {env : Env} (h : ∀ z ∈ scope.names, z.2 = .free → ∃ c, env.cells.lookup z.1 = some c) :
    ∃ cl, closureFor scope env = pure cl ∧ (∀ x c, cl.lookup x = some c → env.cells.lookup x = some c) ∧ ∀ z ∈ scope.names, z.2 = .free → ∃ c, cl.lookup z.1 = some c := by
  obtain ⟨cl, e1, e2, e3, _⟩ := closure_go env scope.names [] h (fun x c e => by simp at e)
  refine ⟨cl, ?_, e2, e3⟩
  simp only [closureFor]
  rw [show (forIn (m := Sem) scope.names ([] : List (Str × Addr)) _) = pure cl from e1]
  rfl
theorem relabel_free {env : Env} : ∀ {names : List (Str × NameKind)} {x : Str}, names.lookup x = some .free →
    (names.map fun (n, k) => if (k == NameKind.free && env.scope.kind == .function && env.kindOf n == some .cell) then (n, NameKind.cell) else (n, k)).lookup x = some .cell ∨
    (names.map fun (n, k) => if (k == NameKind.free && env.scope.kind == .function && env.kindOf n == some .cell) then (n, NameKind.cell) else (n, k)).lookup x = some .free
  | [], _, h => by simp at h
  | (n, k) :: r, x, h => by
    have ih := @relabel_free env r x
    show List.lookup x ((if (k == NameKind.free && env.scope.kind == .function && env.kindOf n == some .cell) = true then (n, NameKind.cell) else (n, k)) :: _) = _ ∨
      List.lookup x ((if (k == NameKind.free && env.scope.kind == .function && env.kindOf n == some .cell) = true then (n, NameKind.cell) else (n, k)) :: _) = _
    cases hx : x == n with
    | true =>
      simp only [List.lookup_cons, hx] at h
      cases h
      split <;> simp [List.lookup_cons, hx]
    | false =>
      simp only [List.lookup_cons, hx] at h
      split <;> (simp only [List.lookup_cons, hx]; exact ih h)
theorem relabel_back {env : Env} : ∀ {names : List (Str × NameKind)} {x : Str} {q : NameKind}, (∀ z ∈ names, z.2 ≠ .cell) → (q = .cell ∨ q = .free) →
    (names.map fun (n, k) => if (k == NameKind.free && env.scope.kind == .function && env.kindOf n == some .cell) then (n, NameKind.cell) else (n, k)).lookup x = some q →
    ∃ z ∈ names, z.1 = x ∧ z.2 = .free
  | [], _, _, _, _, h => by simp at h
  | (n, k) :: r, x, q, hc, hq, h => by
    have ih := @relabel_back env r x q (fun z hz => hc z (List.mem_cons_of_mem _ hz)) hq
    have h : List.lookup x ((if (k == NameKind.free && env.scope.kind == .function && env.kindOf n == some .cell) = true then (n, NameKind.cell) else (n, k)) :: _) = some q := h
    cases hx : x == n with
    | true =>
      have ex : x = n := by simpa using hx
      refine ⟨(n, k), List.mem_cons_self, ex.symm, ?_⟩
      have hk := hc (n, k) List.mem_cons_self
      by_cases hf : k = .free
      · exact hf
      · exfalso
        have hb : (k == NameKind.free) = false := by simpa using hf
        simp only [hb, Bool.false_and, Bool.false_eq_true, if_false, List.lookup_cons, hx] at h
        cases h
        rcases hq with z | z
        · exact hk z
        · exact hf z
    | false =>
      have h' : List.lookup x (r.map fun (n, k) => if (k == NameKind.free && env.scope.kind == .function && env.kindOf n == some .cell) then (n, NameKind.cell) else (n, k)) = some q := by
        split at h <;> (rw [List.lookup_cons, hx] at h; exact h)
      obtain ⟨z, hz, e⟩ := ih h'
      exact ⟨z, List.mem_cons_of_mem _ hz, e⟩

noncomputable def cxC (X : Cx) (scope : Scope) (cl : List (Str × Addr)) (N' : List Str) (s3 : Shared) (H3 : Hp) (fp : List Addr) : Cx :=
  { X with N := N', s₀ := s3, H₀ := H3, env := compEnvC scope cl s3.heap.objs.size X.env, outer := X.stack, ex := fp, fn := fun _ => false, pn := [], xe := fun _ _ => False }

structure CScope (X : Cx) (scope : Scope) (x : Str) (ys : List Str) (ix : List Nat) : Prop where
  kind : scope.kind = .function
  nocell : ∀ z ∈ scope.names, z.2 ≠ .cell
  hx : scope.names.lookup x = some .local
  names : ∀ z ∈ scope.names, z.2 = .local → scope.names.lookup z.1 = some .local
  nd : (x :: ys).Nodup
  free : ∀ z ∈ scope.names, z.2 = .free → (X.env.kindOf z.1 = some .cell ∨ X.env.kindOf z.1 = some .free)
  ysf : ∀ y ∈ ys, scope.names.lookup y = some .free
  ysn : ∀ y ∈ ys, (X.env.kindOf y = some .cell ∨ X.env.kindOf y = some .free)
  ixs : ys.map some = ix.map (fun i => X.N[i]?)

noncomputable def slotsC (ix : List Nat) (σ : St) : St := ix.map fun i => σ.getD i none

section
variable {X : Cx} {pins : List (Addr × Obj)} {σ : St} {H : Hp} {s : Shared} {scope : Scope} {x : Str} {ys : List Str} {ix : List Nat} {cl : List (Str × Addr)} {fp : List Addr}

theorem inv_block {m : Str → Option Value} {tk : Nat} {h' : Heap} (I : Inv X pins σ H s) (S : CScope X scope x ys ix)
    (c1 : ∀ y c, cl.lookup y = some c → X.env.cells.lookup y = some c) (c2 : ∀ z ∈ scope.names, z.2 = .free → ∃ c, cl.lookup z.1 = some c)
    (hf : ∀ b ∈ fp, FpOk X pins H b) (hfs : ∀ b ∈ fp, b < s.heap.objs.size)
    (hns : h'.Ns s.heap.objs.size m) (hk : ∀ b o, s.heap.get? b = some o → h'.get? b = some o) :
    Inv (cxC X scope cl (x :: ys) s H fp) [] (none :: slotsC ix σ) H { s with heap := h', toks := tk } := by
  have hlen : ix.length = ys.length := by have := congrArg List.length S.ixs; simpa using this.symm
  refine ⟨⟨I.ok.mod, S.kind, I.ok.glob, I.ok.blt, Nat.le_refl _, fun y z c h1 h2 => I.ok.inj y z c (c1 y c h1) (c1 z c h2), fun y hy => ?_, fun y c hh _ => (by cases hh), I.ok.hd, I.ok.frames, .inl rfl, fun b hb => ⟨Nat.ne_of_lt (hfs b hb), fun y c e => (hf b hb).2.2.2.2.1 y c (c1 y c e)⟩,
    I.bs, Nat.le_trans I.ok.bsz I.sz, fun b o e hb => ?_, fun b hb => ?_, I.stack, I.stkFree⟩, rfl, I.bare, Un.kept hk, ⟨m, hns, fun i y v e1 e2 e3 => ?_⟩, fun y c e => ?_, I.hok.fresh (Nat.le_refl _), fun y c e => I.freeC y c (c1 y c e), fun p hp => absurd (show p ∈ ([] : List (Addr × Obj)) from hp) (by simp), I.hok.kept hk, ?_⟩
  · have hy' : ∃ z ∈ scope.names, z.1 = y ∧ z.2 = .free := by
      rcases hy with hy | hy
      · exact relabel_back S.nocell (.inl rfl) hy
      · exact relabel_back S.nocell (.inr rfl) hy
    obtain ⟨z, hz, rfl, hfz⟩ := hy'
    exact c2 z hz hfz
  · rcases (hf b hb).2.2.2.1 with z | z
    · exact I.ok.noex b o e z
    · exact absurd (Nat.lt_of_lt_of_le (Heap.lt_size e) (Nat.le_trans I.ok.bsz z)) (Nat.lt_irrefl _)
  · intro z
    rcases List.mem_cons.mp (I.stkSub b z) with e | e
    · exact (hf b hb).2.1 e
    · exact (hf b hb).2.2.1 e
  · cases i with
    | zero => simp at e2
    | succ j =>
      have e1' : ys[j]? = some y := by simpa [cxC] using e1
      have e2' : (slotsC ix σ)[j]? = some (some v) := by simpa using e2
      have hy : y ∈ ys := List.mem_of_getElem? e1'
      have e4 : (ys.map some)[j]? = some (some y) := by rw [List.getElem?_map, e1']; rfl
      rw [S.ixs, List.getElem?_map] at e4
      unfold slotsC at e2'
      rw [List.getElem?_map] at e2'
      cases hj : ix[j]? with
      | none => rw [hj] at e4; cases e4
      | some i =>
        rw [hj] at e4 e2'
        have e5 : X.N[i]? = some y := by simpa using e4
        have e6 : σ.getD i none = some v := by simpa using e2'
        have e7 : σ[i]? = some (some v) := by
          rw [List.getD_eq_getElem?_getD] at e6
          cases hq : σ[i]? with
          | none => rw [hq] at e6; cases e6
          | some o => rw [hq] at e6; cases e6; rfl
        obtain ⟨m0, hn0, hl0⟩ := I.loc
        have vis : Vis X.env.scope y := by
          rcases S.ysn y hy with q | q
          · exact .inr (.inl q)
          · exact .inr (.inr q)
        obtain ⟨u, r, l⟩ := hl0 i y v e5 e7 vis
        refine ⟨u, r, .inr ⟨relabel_free (S.ysf y hy), ?_⟩⟩
        rcases l with ⟨l1, _⟩ | ⟨_, c, l1, l2⟩
        · rcases S.ysn y hy with q | q <;> (rw [l1] at q; cases q)
        · obtain ⟨c', hc'⟩ := c2 (y, .free) (PySem.mem_of_lookup (S.ysf y hy)) rfl
          have : c' = c := by
            have z := c1 y c' hc'
            rw [l1] at z; cases z; rfl
          subst this
          obtain ⟨o, ho, hd⟩ := l2
          exact ⟨c', hc', o, hk c' o ho, hd⟩
  · obtain ⟨v, o, ho, hd⟩ := I.cell y c (c1 y c e)
    exact ⟨v, o, hk c o ho, hd⟩
  · show (none :: slotsC ix σ).length = (x :: ys).length
    simp [slotsC, hlen]

theorem inv_behind {s' : Shared} {H' : Hp} {σ' : St} {pins' : List (Addr × Obj)} {N' : List Str} (I : Inv X pins σ H s) (hf : ∀ b ∈ fp, FpOk X pins H b)
    (J : Inv (cxC X scope cl N' s H fp) pins' σ' H' s') : Inv X pins σ H' s' ∧ FpOk X pins H' s.heap.objs.size := by
  have hI := I.call' (s' := s') (H' := H') (ch := fp) J.os J.base J.hok J.bare fun b hb => ⟨(hf b hb).2.2.2.1, (hf b hb).2.1, (hf b hb).2.2.2.2.1, (hf b hb).2.2.2.2.2⟩
  exact ⟨hI, I.fpOk (Nat.le_refl _) J.free⟩
end

noncomputable def bodyC (J : It) (tc : TT) (te : TE) (σf : St) (Q : VK) (H1 : Hp) : Prop :=
  ∀ D, H1 D = none → ∃ W : Nat → Nat → List V → Hp → Prop, (∃ m, W 0 m [] (upd H1 D (.lst []))) ∧ ∀ i m ys H, W i m ys H →
    ((J.stop i H ∧ Q (.ref D) H) ∨ (J.go i H ∧ ys.length < sizeLine ∧ ∃ N : List V → Hp → Prop, (∀ ys' H', N ys' H' → ∃ m', m' < m ∧ W (i + 1) m' ys' H') ∧
      ∀ x H', J.yld i H x H' → tc (some x :: σf) H' fun b H2 => if b = true then te (some x :: σf) H2 fun y H3 => H3 D = some (.lst ys) ∧ N (ys ++ [y]) (upd H3 D (.lst (ys ++ [y]))) else N ys H2))
noncomputable def tComp (wi : TI) (ix : List Nat) (tc : TT) (te : TE) : TE := fun σ H Q => wi σ H fun J H1 => bodyC J tc te (slotsC ix σ) Q H1
noncomputable def noIf : TT := fun _ H Q => Q true H
noncomputable def PTests (X : Cx) (ifs : List Expr) (tc : TT) : Prop :=
  ∀ (pins : List (Addr × Obj)) (s : Shared) (σ : St) (H : Hp) (Q : Bool → Hp → Prop), Inv X pins σ H s → tc σ H Q →
    wpAny (model X.prog X.w) X.A (forIn ifs true fun c r => if r = true then do let ok ← isTrue c X.env (eval c X.env); pure (ForInStep.yield ok) else pure (ForInStep.yield r)) (TP X pins σ Q) X.xe s
theorem pts_nil {X : Cx} : PTests X [] noIf := fun pins s σ H Q I h => wpAny_tests_nil ⟨H, I, h⟩
theorem pts_one {X : Cx} {c : Expr} {tc : TT} (hc : PT X c tc) : PTests X [c] tc := fun pins s σ H Q I h => wpAny_tests_one (hc pins s σ H Q I h)

section
variable {prog : Program} {w : World} {A : Around} {R : Result → Shared → Prop} {s : Shared}
theorem loop_own {elt target iter : Expr} {ifs : List Expr} {scope : Scope} {pos : Pos} {it acc : Value} {env : Env} (I : Nat → Shared → Prop)
    (turn : ∀ n s, I n s → wpAny (model prog w) A (pyNext it) (fun r s₁ => match r with
      | none => R (.ok .next) s₁
      | some v => wpAny (model prog w) A (letOwnedTupleGo target it v) (fun _ s₂ => wpAny (model prog w) A (assign target env v) (fun _ s₃ =>
          wpAny (model prog w) A (forIn ifs true fun c r => if r = true then do let ok ← isTrue c env (eval c env); pure (ForInStep.yield ok) else pure (ForInStep.yield r)) (fun ok s₄ =>
            if ok = true then wpAny (model prog w) A (eval elt env) (fun y s₅ =>
              wpAny (model prog w) A (call (.builtin "list.append") [acc, y]) (fun _ s₆ => ∃ m, m < n ∧ I m s₆) (fun _ _ => False) s₅) (fun _ _ => False) s₄
            else ∃ m, m < n ∧ I m s₄) (fun _ _ => False) s₃) (fun _ _ => False) s₂) (fun _ _ => False) s₁) (fun _ _ => False) s)
    (n : Nat) (h : I n s) : codeAny (model prog w) A (.compLoop (.ListComp elt [⟨target, iter, ifs, 0⟩] scope pos) 0 it acc env) R s := by
  refine codeAny_loop rfl I (fun n s hI => ?_) n h
  show wpAny _ A ((compTurn (.ListComp elt [⟨target, iter, ifs, 0⟩] scope pos) 0 it acc env).onRaise (fun x => do noteFrame x env; theTreesLotGoes x)) _ _ s
  refine wpAny_noted ?_
  rw [compTurn_list]
  have no : ∀ {F : Value → Shared → Prop} (e : Value) (s' : Shared), False → F e s' := fun _ _ z => z.elim
  refine wpAny_bind (wpAny_standAt (wpAny_bind (wpAny_mono (turn n s hI) (fun r s₁ h₁ => ?_) no)))
  cases r with
  | none => exact wpAny_pure h₁
  | some v =>
    refine wpAny_bind (wpAny_mono h₁ (fun _ s₂ h₂ => wpAny_bind (wpAny_mono h₂ (fun _ s₃ h₃ => wpAny_bind (wpAny_mono h₃ (fun ok s₄ h₄ => ?_) no)) no)) no)
    cases ok with
    | false => exact wpAny_pure ⟨rfl, h₄⟩
    | true =>
      exact wpAny_bind (wpAny_bind (wpAny_mono h₄ (fun y s₅ h₅ => wpAny_bind (wpAny_mono h₅ (fun _ s₆ h₆ => wpAny_pure (wpAny_pure ⟨rfl, h₆⟩)) no)) no))
end

section
variable {X : Cx} {scope : Scope} {x : Str} {ys : List Str} {ix : List Nat} {wi : TI} {tc : TT} {te : TE} {elt iter : Expr} {ifs : List Expr} {px pos : Pos} {cl : List (Str × Addr)}

theorem comp_walk {pins : List (Addr × Obj)} {σ : St} {H2 : Hp} {s2 : Shared} {J : It} {fp : List Addr} {it : Addr} {tn : Nat → Heap → Prop} {Q : VK} {E : Value → Shared → Prop} {RR : Value → Addr → Result → Shared → Prop}
    (hc : X.calm = true) (S : CScope X scope x ys ix)
    (c1 : ∀ y c, cl.lookup y = some c → X.env.cells.lookup y = some c) (c2 : ∀ z ∈ scope.names, z.2 = .free → ∃ c, cl.lookup z.1 = some c)
    (ht : ∀ s3 H3 fp, PTests (cxC X scope cl (x :: ys) s3 H3 fp) ifs tc) (he : ∀ s3 H3 fp, PE (cxC X scope cl (x :: ys) s3 H3 fp) elt te)
    (I : Inv X pins σ H2 s2) (T : Turn X.prog X.w X.K (.Name x px) J fp it tn) (st : tn 0 s2.heap) (hf : ∀ b ∈ fp, FpOk X pins H2 b)
    (hq : bodyC J tc te (slotsC ix σ) Q H2)
    (hRR : ∀ D C s' H', Inv X pins σ H' s' → (∃ m, s'.heap.Ns C m) → FpOk X pins H' C → Q (.ref D) H' → RR (.ref D) C (.ok .next) s') :
    wpAny (model X.prog X.w) X.A (newList []) (fun acc s3 => wpAny (model X.prog X.w) X.A (newFunctionEnv scope X.env.globals cl [] X.env.qual none .none (some X.env)) (fun cenv s4 =>
      codeAny (model X.prog X.w) X.A (.compStart (.ListComp elt [⟨.Name x px, iter, ifs, 0⟩] scope pos) 0 (.ref it) acc { cenv with scope := relabel scope X.env }) (RR acc cenv.locals) s4) E s3) E s2 := by
  refine wpAny_newObj_type ?_
  have hD : H2 s2.heap.objs.size = none := I.hok.fresh (Nat.le_refl _)
  have I3 : Inv X pins σ (upd H2 s2.heap.objs.size (.lst [])) { s2 with heap := s2.heap.push { cls := .type "list", dict := none, data := .seq ([] : List Value).toArray } } :=
    I.lnew (t' := s2.toks) (ys := []) (its := []) .nil (Nat.zero_le _)
  obtain ⟨W, ⟨m0, w0⟩, turn⟩ := hq _ hD
  generalize hD' : s2.heap.objs.size = D at *
  have hfD : ∀ b ∈ fp, b ≠ D := fun b hb e => by
    obtain ⟨o, ho, _⟩ := T.obj 0 _ st b hb
    have q := Heap.lt_size ho
    rw [hD', e] at q
    exact Nat.lt_irrefl _ q
  have hf3 : ∀ b ∈ fp, FpOk X pins (upd H2 D (.lst [])) b := fun b hb => ⟨by rw [upd_ne (hfD b hb)]; exact (hf b hb).1, (hf b hb).2⟩
  generalize hs3 : ({ s2 with heap := s2.heap.push { cls := .type "list", dict := none, data := .seq ([] : List Value).toArray } } : Shared) = s3 at *
  have st3 : tn 0 s3.heap := T.keep _ _ _ st fun b hb o e => by rw [← hs3]; exact Heap.get?_push_of_some _ e
  have hfs : ∀ b ∈ fp, b < s3.heap.objs.size := fun b hb => by
    obtain ⟨o, ho, _⟩ := T.obj 0 _ st3 b hb
    exact Heap.lt_size ho
  refine wpAny_newFunctionEnv S.nocell (by intro y hy; simp at hy) (fun h₁ hns₁ hsb₁ => ?_) S.kind
  have old : ∀ b o, s3.heap.get? b = some o → h₁.get? b = some o := fun b o e => hsb₁.extBut b o (Nat.ne_of_lt (Heap.lt_size e)) (Heap.get?_push_of_some _ e)
  have I4 := inv_block (tk := s3.toks + ([] : List (Str × Value)).length) I3 S c1 c2 hf3 hfs hns₁ old
  have st4 : tn 0 h₁ := T.keep _ _ _ st3 fun b _ o e => old b o e
  have hx' : (cxC X scope cl (x :: ys) s3 (upd H2 D (.lst [])) fp).env.scope.names.lookup x = some .local := lookup_relabel_local S.hx
  have stat : ∀ {H' : Hp}, (∀ b ∈ fp, H' b = none) → ∀ b ∈ fp, FpOk (cxC X scope cl (x :: ys) s3 (upd H2 D (.lst [])) fp) [] H' b := fun hn b hb =>
    ⟨hn b hb, Nat.ne_of_lt (hfs b hb), fun z => by
      rcases List.mem_cons.mp (I3.stkSub b z) with e | e
      · exact (hf b hb).2.1 e
      · exact (hf b hb).2.2.1 e, .inl hb, fun y c e => (hf b hb).2.2.2.2.1 y c (c1 y c e), fun p hp => absurd (show p ∈ ([] : List (Addr × Obj)) from hp) (by simp)⟩
  have loop : codeAny (model X.prog X.w) X.A (.compLoop (.ListComp elt [⟨.Name x px, iter, ifs, 0⟩] scope pos) 0 (.ref it) (.ref D) (compEnvC scope cl s3.heap.objs.size X.env))
      (RR (.ref D) s3.heap.objs.size) { s3 with heap := h₁, toks := s3.toks + ([] : List (Str × Value)).length } := by
    refine loop_own (fun n s' => ∃ i ys' σ' H', Inv (cxC X scope cl (x :: ys) s3 (upd H2 D (.lst [])) fp) [] σ' H' s' ∧ tn i s'.heap ∧ (∀ b ∈ fp, H' b = none) ∧ W i n ys' H' ∧ ∃ o, σ' = o :: slotsC ix σ) ?_ m0
      ⟨0, [], _, _, I4, st4, fun b hb => (hf3 b hb).1, w0, _, rfl⟩
    rintro n s5 ⟨i, ys', σ5, H5, I5, st5, fr5, w5, o5, rfl⟩
    rcases turn i n ys' H5 w5 with ⟨stop, qn⟩ | ⟨go, hlen, N, hN, step⟩
    · refine thn (T.done (cxC X scope cl (x :: ys) s3 (upd H2 D (.lst [])) fp) rfl rfl rfl hc i [] s5 _ H5 _ I5 (stat fr5) st5 stop) fun r s6 ⟨hr, I6⟩ => ?_
      subst hr
      obtain ⟨J1, J2⟩ := inv_behind I3 hf3 I6
      obtain ⟨m6, hn6, _⟩ := I6.loc
      exact hRR D _ s6 H5 J1 ⟨m6, hn6⟩ J2 qn
    · refine thn (T.item (cxC X scope cl (x :: ys) s3 (upd H2 D (.lst [])) fp) rfl rfl rfl hc i [] s5 _ H5 _ I5 (stat fr5) st5 go) fun r s6 ⟨u, hr, h6⟩ => ?_
      subst hr
      refine thn h6 fun _ s7 ⟨v, H7, I7, r7, y7, st7, fr7⟩ => ?_
      have I7' := I7.pinned (stat fr7) (T.obj _ _ st7)
      have q7 := step v H7 y7
      refine wpAny_assign_Name (store_ok (i := 0) I7' S.nd rfl (.inl hx') r7 (fun s8 I8 => ?_) (.inr hx'))
      have I8 : Inv (cxC X scope cl (x :: ys) s3 (upd H2 D (.lst [])) fp) ([] ++ pinsAt fp s7.heap) (some v :: slotsC ix σ) H7 s8 := I8
      refine thn (ht _ _ _ _ s8 _ H7 _ I8 q7) fun ok s9 ⟨H9, I9, q9⟩ => ?_
      have again : ∀ {ys'' : List V} {H10 : Hp} {s10 : Shared}, Inv (cxC X scope cl (x :: ys) s3 (upd H2 D (.lst [])) fp) ([] ++ pinsAt fp s7.heap) (some v :: slotsC ix σ) H10 s10 → N ys'' H10 →
          ∃ m, m < n ∧ ∃ i ys' σ' H', Inv (cxC X scope cl (x :: ys) s3 (upd H2 D (.lst [])) fp) [] σ' H' s10 ∧ tn i s10.heap ∧ (∀ b ∈ fp, H' b = none) ∧ W i m ys' H' ∧ ∃ o, σ' = o :: slotsC ix σ := fun {ys'' H10 s10} I10 n10 => by
        obtain ⟨m', hm, w10⟩ := hN _ _ n10
        refine ⟨m', hm, i + 1, ys'', _, H10, I10.unpinned, T.keep _ _ _ st7 fun b hb o e => (I10.pin (b, o) (List.mem_append_right _ (List.mem_append_right _ (mem_pinsAt hb e)))).1, fun b hb => ?_, w10, _, rfl⟩
        obtain ⟨o, e, d⟩ := T.obj _ _ st7 b hb
        exact (I10.pin (b, o) (List.mem_append_right _ (List.mem_append_right _ (mem_pinsAt hb e)))).2.1
      cases ok with
      | false => exact again I9 q9
      | true =>
        refine thn (he _ _ _ _ s9 _ H9 _ I9 q9) fun y s10 ⟨vy, H10, I10, r10, d10, n10⟩ => ?_
        refine thn (mt_append _ s10 _ H10 (.ref D) [vy] _ _ (fun z H11 => z = .non ∧ H11 = upd H10 D (.lst (ys' ++ [vy]))) I10 rfl (.cons r10 .nil) ⟨D, ys', vy, rfl, rfl, d10, hlen, rfl, rfl⟩) fun _ s11 ⟨_, H11, I11, _, _, e11⟩ => ?_
        subst e11
        exact again I11 n10
  exact codeAny_compStart_list loop (T.self _ 0 _ _ _ st4 loop)

theorem cells_of {pins : List (Addr × Obj)} {σ : St} {H : Hp} {s : Shared} (I : Inv X pins σ H s) (S : CScope X scope x ys ix) :
    ∃ cl, closureFor scope X.env = pure cl ∧ (∀ y c, cl.lookup y = some c → X.env.cells.lookup y = some c) ∧ ∀ z ∈ scope.names, z.2 = .free → ∃ c, cl.lookup z.1 = some c :=
  closure_ok fun z hz hf => I.ok.has z.1 (S.free z hz hf)

theorem pe_comp (S : CScope X scope x ys ix) (hc : X.calm = true) (hi : PI X (.Name x px) iter wi) (ht : ∀ cl s3 H3 fp, PTests (cxC X scope cl (x :: ys) s3 H3 fp) ifs tc)
    (he : ∀ cl s3 H3 fp, PE (cxC X scope cl (x :: ys) s3 H3 fp) elt te) (hs : ∀ x, foldedSetIterable iter X.env x = pure x := by intro _; rfl) :
    PE X (.ListComp elt [⟨.Name x px, iter, ifs, 0⟩] scope pos) (tComp wi ix tc te) := by
  intro pins s σ H Q I h
  obtain ⟨cl, e1, c1, c2⟩ := cells_of I S
  rw [eval_ListComp]
  refine wpAny_comprehension_free (use := none) rfl hs e1 S.kind S.names (thn (hi pins s σ H _ I h) fun v s1 h1 => thn h1 fun itv s2 h2 => ?_)
  obtain ⟨it, fp, tn, J, H2, e, I2, T, st2, f2, q2⟩ := h2
  subst e
  refine comp_walk hc S c1 c2 (ht cl) (he cl) I2 T st2 f2 q2 fun D C s' H' I' hm fc q' => ?_
  obtain ⟨m, hn⟩ := hm
  exact ⟨m, hn, fun h' sb => ⟨.ref D, H', I'.turned (t' := s'.toks) (fun b o hb e => sb.extBut b o hb e) fc.1 fc.2.1 fc.2.2.2.1 fc.2.2.2.2.1 fc.2.2.2.2.2, rfl, q'⟩⟩

theorem ps_setC {i : Nat} {y : Str} {py spos : Pos} (S : CScope X scope x ys ix) (hc : X.calm = true) (hN : X.N.Nodup) (hi' : X.N[i]? = some y) (hy : X.env.scope.names.lookup y = some .local)
    (hi : PI X (.Name x px) iter wi) (ht : ∀ cl s3 H3 fp, PTests (cxC X scope cl (x :: ys) s3 H3 fp) ifs tc)
    (he : ∀ cl s3 H3 fp, PE (cxC X scope cl (x :: ys) s3 H3 fp) elt te)
    (hsw : swapsWith (.ListComp elt [⟨.Name x px, iter, ifs, 0⟩] scope pos) (some (.Name y py)) spos.line X.env = pure true := by rfl) (hs : ∀ x, foldedSetIterable iter X.env x = pure x := by intro _; rfl) :
    PS X (.Assign [.Name y py] (.ListComp elt [⟨.Name x px, iter, ifs, 0⟩] scope pos) spos) (tAsg (tComp wi ix tc te) (gName i)) := by
  intro pins s σ H D I h
  obtain ⟨cl, e1, c1, c2⟩ := cells_of I S
  rw [exec_Assign_Name_used _ _ _ _ hsw]
  refine wpAny_bind (wpAny_standAt (wpAny_bind ?_))
  show wpAny _ X.A (do let _ ← comprehension (.ListComp elt [⟨.Name x px, iter, ifs, 0⟩] scope pos) scope X.env _ (newList []) false (eval iter X.env) (some (assign (.Name y py) X.env))) _ _ s
  refine wpAny_bind (thn (Q := fun _ s' => SP X pins D .next s') (wpAny_comprehension_free (use := some (assign (.Name y py) X.env)) rfl hs e1 S.kind S.names
    (thn (hi pins s σ H _ I h) fun v s1 h1 => thn h1 fun itv s2 h2 => ?_)) fun _ s' hq => wpAny_pure (wpAny_pure hq))
  obtain ⟨it, fp, tn, J, H2, e, I2, T, st2, f2, q2⟩ := h2
  subst e
  refine comp_walk hc S c1 c2 (ht cl) (he cl) I2 T st2 f2 q2 fun D' C s' H' I' hm fc q' => ?_
  obtain ⟨m, hn⟩ := hm
  show wpAny _ X.A (assign (.Name y py) X.env (.ref D')) _ _ s'
  refine wpAny_assign_Name (store_ok2 (v := .ref D') I' hN hi' (.inl hy) rfl (fun s'' I'' ch => ?_) (.inr hy))
  obtain ⟨a, sb, ha⟩ := ch
  have hCa : C ≠ a := by
    rcases ha with z | z
    · rw [z]; exact fc.2.1
    · exact fun q => fc.2.2.2.2.1 y a z q.symm
  refine ⟨m, hn.sameBut sb hCa, fun h' sb' => ?_⟩
  exact ⟨_, H', I''.turned (t' := s''.toks) (fun b o hb e => sb'.extBut b o hb e) fc.1 fc.2.1 fc.2.2.2.1 fc.2.2.2.2.1 fc.2.2.2.2.2, q'⟩
end
end L2


end
section
set_option Elab.async false
set_option linter.all false
set_option maxRecDepth 100000
namespace L2
open PySem PySem.Spec PyProof.Rows

noncomputable def TupLe (H H' : Hp) : Prop := ∀ b xs, H b = some (.tup xs) → H' b = some (.tup xs)
theorem Same.tup {H H' : Hp} (h : Same H H') : TupLe H H' := fun b xs e => h b _ e
theorem TupLe.trans {H H1 H2 : Hp} (a : TupLe H H1) (b : TupLe H1 H2) : TupLe H H2 := fun c o h => b c o (a c o h)
theorem tup_upd {H : Hp} {a : Addr} {o : HO} (h : ∀ xs, H a ≠ some (.tup xs)) : TupLe H (upd H a o) := fun b xs e => by
  by_cases hb : b = a
  · subst hb; exact absurd e (h xs)
  · rw [upd_ne hb]; exact e
theorem Same.new {H : Hp} {p : Addr} (h : H p = none) (o : HO) : Same H (upd H p o) := fun b u q => by
  rw [upd_ne (ne_of_none q h)]; exact q
theorem Same.seqT {K : PySem.W.Frag} {H H' : Hp} {a : Addr} {xs : List V} (e : Same H H') (h : SqT K H a xs) : SqT K H' a xs := by
  rcases h with (h | ⟨o, h⟩) | h
  · exact .inl (.inl (e _ _ h))
  · exact .inl (.inr ⟨o, e _ _ h⟩)
  · exact .inr h
theorem Same.updNew {H H' : Hp} {p : Addr} {o : HO} (h : Same H H') (n : H p = none) : Same H (upd H' p o) := fun b u q => by
  rw [upd_ne (ne_of_none q n)]; exact h b u q

theorem body_items {J : It} {xs : List V} {te : TE} {σf : St} {Q : VK} {H1 : Hp} (G : Nat → V → Hp → Prop) (hlen : xs.length ≤ sizeLine)
    (hJ : ∀ i H, Same H1 H → (i < xs.length → J.go i H ∧ ∀ x H', J.yld i H x H' → H' = H ∧ xs[i]? = some x) ∧ (i = xs.length → J.stop i H))
    (stable : ∀ i y H H', TupLe H H' → G i y H → G i y H')
    (step : ∀ i x H (R : VK), xs[i]? = some x → Same H1 H → (∀ y H', Same H H' → G i y H' → R y H') → te (some x :: σf) H R)
    (fin : ∀ D ys H', H1 D = none → Same H1 H' → H' D = some (.lst ys) → ys.length = xs.length → (∀ i y, ys[i]? = some y → G i y H') → Q (.ref D) H') :
    bodyC J noIf te σf Q H1 := by
  intro D hD
  refine ⟨fun i m ys H => m = xs.length - i ∧ i ≤ xs.length ∧ ys.length = i ∧ Same H1 H ∧ H D = some (.lst ys) ∧ ∀ j y, ys[j]? = some y → G j y H,
    ⟨xs.length, by simp, Nat.zero_le _, rfl, Same.new hD _, upd_same, fun j y e => by simp at e⟩, ?_⟩
  rintro i m ys H ⟨rfl, hi, hl, hS, hH, hG⟩
  obtain ⟨j1, j2⟩ := hJ i H hS
  by_cases hlt : i < xs.length
  · obtain ⟨go, yl⟩ := j1 hlt
    refine .inr ⟨go, by lia, fun ys' H' => ys'.length = i + 1 ∧ Same H1 H' ∧ H' D = some (.lst ys') ∧ ∀ j y, ys'[j]? = some y → G j y H', fun ys' H' ⟨a, b, c, d⟩ => ⟨xs.length - (i + 1), by lia, rfl, hlt, a, b, c, d⟩, fun x H' y => ?_⟩
    obtain ⟨rfl, hx⟩ := yl x H' y
    unfold noIf
    refine iteT ?_
    refine step i x _ _ hx hS fun y H2 hS2 hg => ?_
    refine ⟨hS2 _ _ hH, by simp [hl], (hS.trans hS2).updNew hD, upd_same, fun j z e => ?_⟩
    have tl : TupLe H2 (upd H2 D (.lst (ys ++ [y]))) := tup_upd fun zs q => by rw [hS2 _ _ hH] at q; cases q
    by_cases hj : j < ys.length
    · rw [List.getElem?_append_left hj] at e
      exact stable j z _ _ (hS2.tup.trans tl) (hG j z e)
    · have ej : j = ys.length := by
        have := (List.getElem?_eq_some_iff.mp e).1
        simp at this
        lia
      subst ej
      rw [List.getElem?_append_right (Nat.le_refl _)] at e
      simp at e
      subst e
      rw [hl]
      exact stable i _ _ _ tl hg
  · have e : i = xs.length := by lia
    exact .inl ⟨j2 e, fin D ys H hD hS hH (hl.trans e) hG⟩
theorem body_list {K : PySem.W.Frag} {a : Addr} {xs : List V} {te : TE} {σf : St} {Q : VK} {H1 : Hp} (hS : SqL K H1 a xs) (hlen : xs.length ≤ sizeLine) (G : Nat → V → Hp → Prop)
    (stable : ∀ i y H H', TupLe H H' → G i y H → G i y H')
    (step : ∀ i x H (R : VK), xs[i]? = some x → Same H1 H → (∀ y H', Same H H' → G i y H' → R y H') → te (some x :: σf) H R)
    (fin : ∀ D ys H', H1 D = none → Same H1 H' → H' D = some (.lst ys) → ys.length = xs.length → (∀ i y, ys[i]? = some y → G i y H') → Q (.ref D) H') :
    bodyC (Itl K a) noIf te σf Q H1 :=
  body_items G hlen (fun i H s => ⟨fun hi => ⟨⟨xs, xs[i], s.seq hS, by simp [hi]⟩, fun x H' ⟨e, y⟩ => ⟨e, y xs (s.seq hS)⟩⟩, fun e => ⟨xs, s.seq hS, by lia⟩⟩) stable step fin
theorem body_tup {K : PySem.W.Frag} {a : Addr} {xs : List V} {te : TE} {σf : St} {Q : VK} {H1 : Hp} (hS : SqT K H1 a xs) (hlen : xs.length ≤ sizeLine) (G : Nat → V → Hp → Prop)
    (stable : ∀ i y H H', TupLe H H' → G i y H → G i y H')
    (step : ∀ i x H (R : VK), xs[i]? = some x → Same H1 H → (∀ y H', Same H H' → G i y H' → R y H') → te (some x :: σf) H R)
    (fin : ∀ D ys H', H1 D = none → Same H1 H' → H' D = some (.lst ys) → ys.length = xs.length → (∀ i y, ys[i]? = some y → G i y H') → Q (.ref D) H') :
    bodyC (Itt K a) noIf te σf Q H1 :=
  body_items G hlen (fun i H s => ⟨fun hi => ⟨⟨xs, xs[i], s.seqT hS, by simp [hi]⟩, fun x H' ⟨e, y⟩ => ⟨e, y xs (s.seqT hS)⟩⟩, fun e => ⟨xs, s.seqT hS, by lia⟩⟩) stable step fin
theorem body_rng {lo : Int} {n : Nat} {te : TE} {σf : St} {Q : VK} {H1 : Hp} (hlen : n ≤ sizeLine) (G : Nat → V → Hp → Prop)
    (stable : ∀ i y H H', TupLe H H' → G i y H → G i y H')
    (step : ∀ i H (R : VK), i < n → Same H1 H → (∀ y H', Same H H' → G i y H' → R y H') → te (some (.int (lo + i)) :: σf) H R)
    (fin : ∀ D ys H', H1 D = none → Same H1 H' → H' D = some (.lst ys) → ys.length = n → (∀ i y, ys[i]? = some y → G i y H') → Q (.ref D) H') :
    bodyC (Itr lo n) noIf te σf Q H1 :=
  body_items (xs := (List.range n).map fun (i : Nat) => V.int (lo + i)) G (by simpa using hlen)
    (fun i H s => ⟨fun hi => ⟨by simpa [Itr] using hi, fun x H' ⟨e, y⟩ => ⟨e, by
      have hi' : i < n := by simpa using hi
      rw [List.getElem?_map, List.getElem?_range hi', y]; rfl⟩⟩, fun e => by
        have : i = n := by simpa using e
        exact Nat.le_of_eq this.symm⟩) stable
    (fun i x H R hx => by
      have hi : i < n := by have := (List.getElem?_eq_some_iff.mp hx).1; simpa using this
      rw [List.getElem?_map, List.getElem?_range hi] at hx
      cases hx
      exact step i H R hi) (fun D ys H' a b c d => fin D ys H' a b c (by simpa using d))

noncomputable def Callee (P : Program) (w : World) (K : PySem.W.Frag) (mg : Str → Option Value) (base : Heap) (x : Str) (k : Nat) (ps : List Str) (sp : Sp) : Prop :=
  ∃ f fd, FnOk P w K mg base CX0 k f fd ps sp ∧ Binds K fd ps [] ∧ PySem.W.keepIn K (.ref f) = true ∧ mg x = some (.ref f)
section
variable {X : Cx} {x : Str} {k k' : Nat} {ps : List Str} {sp : Sp} {e : Expr} {es : List Expr} {t : TA} {p pos : Pos}
theorem pe_callD (D : Callee X.prog X.w X.K X.mg X.base x k ps sp) (hr : Room k' X.A) (hk : k ≤ k') (hg : Gl X x) (ha : PA X (e :: es) t)
    (hdb : (x == ("__debug__" : Str)) = false := by decide) (he : starEach (e :: es) X.env = (false, eval e X.env) :: starEach es X.env := by rfl)
    (hpl : (backTo pos (starEach es X.env)).any (·.1) = false := by rfl) : PE X (.Call (.Name x p) (e :: es) [] pos) (tCall sp [] E0 t) := by
  obtain ⟨f, fd, F, b, kp, m⟩ := D
  exact pe_call F (hr.mono hk) hg m kp b .nil pass0 ha hdb he hpl
end
theorem iteFh {c : Bool} {A B : Prop} (h : c = false) (b : B) : if c = true then A else B := by rw [h]; exact iteF b
theorem iteTh {c : Bool} {A B : Prop} (h : c = true) (a : A) : if c = true then A else B := by rw [h]; exact iteT a
end L2
namespace L2
open PySem PySem.Spec PyProof.Rows
structure CSc (osc : Scope) (N : List Str) (scope : Scope) (x : Str) (ys : List Str) (ix : List Nat) : Prop where
  kind : scope.kind = .function := by rfl
  nocell : ∀ z ∈ scope.names, z.2 ≠ .cell := by decide +kernel
  hx : scope.names.lookup x = some .local := by decide +kernel
  names : ∀ z ∈ scope.names, z.2 = .local → scope.names.lookup z.1 = some .local := by decide +kernel
  nd : (x :: ys).Nodup := by decide +kernel
  free : ∀ z ∈ scope.names, z.2 = .free → (osc.names.lookup z.1 = some .cell ∨ osc.names.lookup z.1 = some .free) := by decide +kernel
  ysf : ∀ y ∈ ys, scope.names.lookup y = some .free := by decide +kernel
  ysn : ∀ y ∈ ys, (osc.names.lookup y = some .cell ∨ osc.names.lookup y = some .free) := by decide +kernel
  ixs : ys.map some = ix.map (fun i => N[i]?) := by decide +kernel
theorem CScope.of {X : Cx} {osc : Scope} {N ps : List Str} {scope : Scope} {x : Str} {ys : List Str} {ix : List Nat} (S : FnScope N ps osc) (c : CSc osc N scope x ys ix) (e1 : X.env.scope = osc := by rfl) (e2 : X.N = N := by rfl) : CScope X scope x ys ix :=
  ⟨c.kind, c.nocell, c.hx, c.names, c.nd, fun z hz hf => by unfold Env.kindOf; rw [e1]; exact c.free z hz hf, c.ysf, fun y hy => by unfold Env.kindOf; rw [e1]; exact c.ysn y hy, by rw [e2]; exact c.ixs⟩
end L2
namespace L2
open PySem PySem.Spec PyProof.Rows
section
variable {X : Cx} {st : Stmt} {t : TS}
noncomputable def tJoin (t : TS) : TS := fun D σ H => ∃ C : St → Hp → Prop, t { D with nx := C } σ H ∧ ∀ σ' H', C σ' H' → D.nx σ' H'
theorem ix_listK {K : PySem.W.Frag} (h : X.K = K) : IxR X (rIxL K) := h ▸ ix_list
theorem ix_tupK {K : PySem.W.Frag} (h : X.K = K) : IxR X (rIxT K) := h ▸ ix_tup
theorem sl_tupK {K : PySem.W.Frag} (h : X.K = K) : SlR X (rSlT K) := h ▸ sl_tup
theorem op_in_seqK {K : PySem.W.Frag} (h : X.K = K) : OpR X (compareOp .In) (rIn K false) := h ▸ op_in_seq
theorem call_len_seqK {K : PySem.W.Frag} (h : X.K = K) : CallR X (.builtin "len") (rLen K) := h ▸ call_len_seq
inductive I_rIsI (K : PySem.W.Frag) (xs : List V) (H : Hp) (Q : VK) : Prop
  | mk : ∀ x T t b, (xs = [x, .ty T]) → (TyOf K H x t) → (PySem.W.kitOne K t (.type T) = some b) → (Q (.bl b) H) → I_rIsI K xs H Q
noncomputable def rIsI (K : PySem.W.Frag) : List V → Hp → VK → Prop := fun xs H Q => I_rIsI K xs H Q
theorem call_isinst {K : PySem.W.Frag} (h : X.K = K) : CallR X (.builtin "isinstance") (rIsI K) := by
  subst h
  intro pins s σ H xs us Q I r q
  obtain ⟨x, T, t, b, rfl, ty, e, q⟩ := q
  obtain ⟨u, v, rfl, r1, r2⟩ := r.two
  cases r2
  exact isinst_ok I r1 ty e fun tk => ⟨.bl b, H, I.tok tk, rfl, q⟩
end
end L2


end
section
set_option Elab.async false
set_option linter.all false
set_option maxRecDepth 100000
namespace L2
open PySem PySem.Spec PyProof.Rows
structure CScope2 (X : Cx) (scope : Scope) (x x2 : Str) (ys : List Str) (ix : List Nat) : Prop where
  kind : scope.kind = .function
  nocell : ∀ z ∈ scope.names, z.2 ≠ .cell
  hx : scope.names.lookup x = some .local
  hx2 : scope.names.lookup x2 = some .local
  names : ∀ z ∈ scope.names, z.2 = .local → scope.names.lookup z.1 = some .local
  nd : (x :: x2 :: ys).Nodup
  free : ∀ z ∈ scope.names, z.2 = .free → (X.env.kindOf z.1 = some .cell ∨ X.env.kindOf z.1 = some .free)
  ysf : ∀ y ∈ ys, scope.names.lookup y = some .free
  ysn : ∀ y ∈ ys, (X.env.kindOf y = some .cell ∨ X.env.kindOf y = some .free)
  ixs : ys.map some = ix.map (fun i => X.N[i]?)
structure CSc2 (osc : Scope) (N : List Str) (scope : Scope) (x x2 : Str) (ys : List Str) (ix : List Nat) : Prop where
  kind : scope.kind = .function := by rfl
  nocell : ∀ z ∈ scope.names, z.2 ≠ .cell := by decide +kernel
  hx : scope.names.lookup x = some .local := by decide +kernel
  hx2 : scope.names.lookup x2 = some .local := by decide +kernel
  names : ∀ z ∈ scope.names, z.2 = .local → scope.names.lookup z.1 = some .local := by decide +kernel
  nd : (x :: x2 :: ys).Nodup := by decide +kernel
  free : ∀ z ∈ scope.names, z.2 = .free → (osc.names.lookup z.1 = some .cell ∨ osc.names.lookup z.1 = some .free) := by decide +kernel
  ysf : ∀ y ∈ ys, scope.names.lookup y = some .free := by decide +kernel
  ysn : ∀ y ∈ ys, (osc.names.lookup y = some .cell ∨ osc.names.lookup y = some .free) := by decide +kernel
  ixs : ys.map some = ix.map (fun i => N[i]?) := by decide +kernel
theorem CScope2.of {X : Cx} {osc : Scope} {N ps : List Str} {scope : Scope} {x x2 : Str} {ys : List Str} {ix : List Nat} (S : FnScope N ps osc) (c : CSc2 osc N scope x x2 ys ix) (e1 : X.env.scope = osc := by rfl) (e2 : X.N = N := by rfl) : CScope2 X scope x x2 ys ix :=
  ⟨c.kind, c.nocell, c.hx, c.hx2, c.names, c.nd, fun z hz hf => by unfold Env.kindOf; rw [e1]; exact c.free z hz hf, c.ysf, fun y hy => by unfold Env.kindOf; rw [e1]; exact c.ysn y hy, by rw [e2]; exact c.ixs⟩
section
variable {X : Cx} {pins : List (Addr × Obj)} {σ : St} {H : Hp} {s : Shared} {scope : Scope} {x x2 : Str} {ys : List Str} {ix : List Nat} {cl : List (Str × Addr)} {fp : List Addr}
theorem inv_block2 {m : Str → Option Value} {tk : Nat} {h' : Heap} (I : Inv X pins σ H s) (S : CScope2 X scope x x2 ys ix)
    (c1 : ∀ y c, cl.lookup y = some c → X.env.cells.lookup y = some c) (c2 : ∀ z ∈ scope.names, z.2 = .free → ∃ c, cl.lookup z.1 = some c)
    (hf : ∀ b ∈ fp, FpOk X pins H b) (hfs : ∀ b ∈ fp, b < s.heap.objs.size)
    (hns : h'.Ns s.heap.objs.size m) (hk : ∀ b o, s.heap.get? b = some o → h'.get? b = some o) :
    Inv (cxC X scope cl (x :: x2 :: ys) s H fp) [] (none :: none :: slotsC ix σ) H { s with heap := h', toks := tk } := by
  have hlen : ix.length = ys.length := by have := congrArg List.length S.ixs; simpa using this.symm
  refine ⟨⟨I.ok.mod, S.kind, I.ok.glob, I.ok.blt, Nat.le_refl _, fun y z c h1 h2 => I.ok.inj y z c (c1 y c h1) (c1 z c h2), fun y hy => ?_, fun y c hh _ => (by cases hh), I.ok.hd, I.ok.frames, .inl rfl, fun b hb => ⟨Nat.ne_of_lt (hfs b hb), fun y c e => (hf b hb).2.2.2.2.1 y c (c1 y c e)⟩,
    I.bs, Nat.le_trans I.ok.bsz I.sz, fun b o e hb => ?_, fun b hb => ?_, I.stack, I.stkFree⟩, rfl, I.bare, Un.kept hk, ⟨m, hns, fun i y v e1 e2 e3 => ?_⟩, fun y c e => ?_, I.hok.fresh (Nat.le_refl _), fun y c e => I.freeC y c (c1 y c e), fun p hp => absurd (show p ∈ ([] : List (Addr × Obj)) from hp) (by simp), I.hok.kept hk, ?_⟩
  · have hy' : ∃ z ∈ scope.names, z.1 = y ∧ z.2 = .free := by
      rcases hy with hy | hy
      · exact relabel_back S.nocell (.inl rfl) hy
      · exact relabel_back S.nocell (.inr rfl) hy
    obtain ⟨z, hz, rfl, hfz⟩ := hy'
    exact c2 z hz hfz
  · rcases (hf b hb).2.2.2.1 with z | z
    · exact I.ok.noex b o e z
    · exact absurd (Nat.lt_of_lt_of_le (Heap.lt_size e) (Nat.le_trans I.ok.bsz z)) (Nat.lt_irrefl _)
  · intro z
    rcases List.mem_cons.mp (I.stkSub b z) with e | e
    · exact (hf b hb).2.1 e
    · exact (hf b hb).2.2.1 e
  · cases i with
    | zero => simp at e2
    | succ j =>
      cases j with
      | zero => simp at e2
      | succ j =>
      have e1' : ys[j]? = some y := by simpa [cxC] using e1
      have e2' : (slotsC ix σ)[j]? = some (some v) := by simpa using e2
      have hy : y ∈ ys := List.mem_of_getElem? e1'
      have e4 : (ys.map some)[j]? = some (some y) := by rw [List.getElem?_map, e1']; rfl
      rw [S.ixs, List.getElem?_map] at e4
      unfold slotsC at e2'
      rw [List.getElem?_map] at e2'
      cases hj : ix[j]? with
      | none => rw [hj] at e4; cases e4
      | some i =>
        rw [hj] at e4 e2'
        have e5 : X.N[i]? = some y := by simpa using e4
        have e6 : σ.getD i none = some v := by simpa using e2'
        have e7 : σ[i]? = some (some v) := by
          rw [List.getD_eq_getElem?_getD] at e6
          cases hq : σ[i]? with
          | none => rw [hq] at e6; cases e6
          | some o => rw [hq] at e6; cases e6; rfl
        obtain ⟨m0, hn0, hl0⟩ := I.loc
        have vis : Vis X.env.scope y := by
          rcases S.ysn y hy with q | q
          · exact .inr (.inl q)
          · exact .inr (.inr q)
        obtain ⟨u, r, l⟩ := hl0 i y v e5 e7 vis
        refine ⟨u, r, .inr ⟨relabel_free (S.ysf y hy), ?_⟩⟩
        rcases l with ⟨l1, _⟩ | ⟨_, c, l1, l2⟩
        · rcases S.ysn y hy with q | q <;> (rw [l1] at q; cases q)
        · obtain ⟨c', hc'⟩ := c2 (y, .free) (PySem.mem_of_lookup (S.ysf y hy)) rfl
          have : c' = c := by
            have z := c1 y c' hc'
            rw [l1] at z; cases z; rfl
          subst this
          obtain ⟨o, ho, hd⟩ := l2
          exact ⟨c', hc', o, hk c' o ho, hd⟩
  · obtain ⟨v, o, ho, hd⟩ := I.cell y c (c1 y c e)
    exact ⟨v, o, hk c o ho, hd⟩
  · show (none :: none :: slotsC ix σ).length = (x :: x2 :: ys).length
    simp [slotsC, hlen]

end
noncomputable def bodyT (K : PySem.W.Frag) (J : It) (tc : TT) (te : TE) (σf : St) (Q : VK) (H1 : Hp) : Prop :=
  ∀ D, H1 D = none → ∃ W : Nat → Nat → List V → Hp → Prop, (∃ m, W 0 m [] (upd H1 D (.lst []))) ∧ ∀ i m ys H, W i m ys H →
    ((J.stop i H ∧ Q (.ref D) H) ∨ (J.go i H ∧ ys.length < sizeLine ∧ ∃ N : List V → Hp → Prop, (∀ ys' H', N ys' H' → ∃ m', m' < m ∧ W (i + 1) m' ys' H') ∧
      ∀ x H', J.yld i H x H' → ∃ a xs, x = .ref a ∧ SqT K H' a xs ∧ ∃ v1 v2, xs = [v1, v2] ∧ tc (some v1 :: some v2 :: σf) H' fun b H2 => if b = true then te (some v1 :: some v2 :: σf) H2 fun y H3 => H3 D = some (.lst ys) ∧ N (ys ++ [y]) (upd H3 D (.lst (ys ++ [y]))) else N ys H2))
noncomputable def tComp2 (K : PySem.W.Frag) (wi : TI) (ix : List Nat) (tc : TT) (te : TE) : TE := fun σ H Q => wi σ H fun J H1 => bodyT K J tc te (slotsC ix σ) Q H1
section
variable {X : Cx} {scope : Scope} {x x2 : Str} {ys : List Str} {ix : List Nat} {wi : TI} {tc : TT} {te : TE} {elt iter : Expr} {ifs : List Expr} {px px2 pt pos : Pos} {cl : List (Str × Addr)}
theorem comp_walk2 {k2} {pins : List (Addr × Obj)} {σ : St} {H2 : Hp} {s2 : Shared} {J : It} {fp : List Addr} {it : Addr} {tn : Nat → Heap → Prop} {Q : VK} {E : Value → Shared → Prop} {RR : Value → Addr → Result → Shared → Prop}
    (hc : X.calm = true) (S : CScope2 X scope x x2 ys ix)
    (c1 : ∀ y c, cl.lookup y = some c → X.env.cells.lookup y = some c) (c2 : ∀ z ∈ scope.names, z.2 = .free → ∃ c, cl.lookup z.1 = some c)
    (ht : ∀ s3 H3 fp, PTests (cxC X scope cl (x :: x2 :: ys) s3 H3 fp) ifs tc) (he : ∀ s3 H3 fp, PE (cxC X scope cl (x :: x2 :: ys) s3 H3 fp) elt te)
    (I : Inv X pins σ H2 s2) (T : Turn X.prog X.w X.K (.Tuple [.Name x px, .Name x2 px2] k2 pt) J fp it tn) (st : tn 0 s2.heap) (hf : ∀ b ∈ fp, FpOk X pins H2 b)
    (hq : bodyT X.K J tc te (slotsC ix σ) Q H2)
    (hRR : ∀ D C s' H', Inv X pins σ H' s' → (∃ m, s'.heap.Ns C m) → FpOk X pins H' C → Q (.ref D) H' → RR (.ref D) C (.ok .next) s') :
    wpAny (model X.prog X.w) X.A (newList []) (fun acc s3 => wpAny (model X.prog X.w) X.A (newFunctionEnv scope X.env.globals cl [] X.env.qual none .none (some X.env)) (fun cenv s4 =>
      codeAny (model X.prog X.w) X.A (.compStart (.ListComp elt [⟨.Tuple [.Name x px, .Name x2 px2] k2 pt, iter, ifs, 0⟩] scope pos) 0 (.ref it) acc { cenv with scope := relabel scope X.env }) (RR acc cenv.locals) s4) E s3) E s2 := by
  refine wpAny_newObj_type ?_
  have hD : H2 s2.heap.objs.size = none := I.hok.fresh (Nat.le_refl _)
  have I3 : Inv X pins σ (upd H2 s2.heap.objs.size (.lst [])) { s2 with heap := s2.heap.push { cls := .type "list", dict := none, data := .seq ([] : List Value).toArray } } :=
    I.lnew (t' := s2.toks) (ys := []) (its := []) .nil (Nat.zero_le _)
  obtain ⟨W, ⟨m0, w0⟩, turn⟩ := hq _ hD
  generalize hD' : s2.heap.objs.size = D at *
  have hfD : ∀ b ∈ fp, b ≠ D := fun b hb e => by
    obtain ⟨o, ho, _⟩ := T.obj 0 _ st b hb
    have q := Heap.lt_size ho
    rw [hD', e] at q
    exact Nat.lt_irrefl _ q
  have hf3 : ∀ b ∈ fp, FpOk X pins (upd H2 D (.lst [])) b := fun b hb => ⟨by rw [upd_ne (hfD b hb)]; exact (hf b hb).1, (hf b hb).2⟩
  generalize hs3 : ({ s2 with heap := s2.heap.push { cls := .type "list", dict := none, data := .seq ([] : List Value).toArray } } : Shared) = s3 at *
  have st3 : tn 0 s3.heap := T.keep _ _ _ st fun b hb o e => by rw [← hs3]; exact Heap.get?_push_of_some _ e
  have hfs : ∀ b ∈ fp, b < s3.heap.objs.size := fun b hb => by
    obtain ⟨o, ho, _⟩ := T.obj 0 _ st3 b hb
    exact Heap.lt_size ho
  refine wpAny_newFunctionEnv S.nocell (by intro y hy; simp at hy) (fun h₁ hns₁ hsb₁ => ?_) S.kind
  have old : ∀ b o, s3.heap.get? b = some o → h₁.get? b = some o := fun b o e => hsb₁.extBut b o (Nat.ne_of_lt (Heap.lt_size e)) (Heap.get?_push_of_some _ e)
  have I4 := inv_block2 (tk := s3.toks + ([] : List (Str × Value)).length) I3 S c1 c2 hf3 hfs hns₁ old
  have st4 : tn 0 h₁ := T.keep _ _ _ st3 fun b _ o e => old b o e
  have hx2' : (cxC X scope cl (x :: x2 :: ys) s3 (upd H2 D (.lst [])) fp).env.scope.names.lookup x2 = some .local := lookup_relabel_local S.hx2
  have hx' : (cxC X scope cl (x :: x2 :: ys) s3 (upd H2 D (.lst [])) fp).env.scope.names.lookup x = some .local := lookup_relabel_local S.hx
  have stat : ∀ {H' : Hp}, (∀ b ∈ fp, H' b = none) → ∀ b ∈ fp, FpOk (cxC X scope cl (x :: x2 :: ys) s3 (upd H2 D (.lst [])) fp) [] H' b := fun hn b hb =>
    ⟨hn b hb, Nat.ne_of_lt (hfs b hb), fun z => by
      rcases List.mem_cons.mp (I3.stkSub b z) with e | e
      · exact (hf b hb).2.1 e
      · exact (hf b hb).2.2.1 e, .inl hb, fun y c e => (hf b hb).2.2.2.2.1 y c (c1 y c e), fun p hp => absurd (show p ∈ ([] : List (Addr × Obj)) from hp) (by simp)⟩
  have loop : codeAny (model X.prog X.w) X.A (.compLoop (.ListComp elt [⟨.Tuple [.Name x px, .Name x2 px2] k2 pt, iter, ifs, 0⟩] scope pos) 0 (.ref it) (.ref D) (compEnvC scope cl s3.heap.objs.size X.env))
      (RR (.ref D) s3.heap.objs.size) { s3 with heap := h₁, toks := s3.toks + ([] : List (Str × Value)).length } := by
    refine loop_own (fun n s' => ∃ i ys' σ' H', Inv (cxC X scope cl (x :: x2 :: ys) s3 (upd H2 D (.lst [])) fp) [] σ' H' s' ∧ tn i s'.heap ∧ (∀ b ∈ fp, H' b = none) ∧ W i n ys' H' ∧ ∃ o o', σ' = o :: o' :: slotsC ix σ) ?_ m0
      ⟨0, [], _, _, I4, st4, fun b hb => (hf3 b hb).1, w0, _, _, rfl⟩
    rintro n s5 ⟨i, ys', σ5, H5, I5, st5, fr5, w5, o5, o5', rfl⟩
    rcases turn i n ys' H5 w5 with ⟨stop, qn⟩ | ⟨go, hlen, N, hN, step⟩
    · refine thn (T.done (cxC X scope cl (x :: x2 :: ys) s3 (upd H2 D (.lst [])) fp) rfl rfl rfl hc i [] s5 _ H5 _ I5 (stat fr5) st5 stop) fun r s6 ⟨hr, I6⟩ => ?_
      subst hr
      obtain ⟨J1, J2⟩ := inv_behind I3 hf3 I6
      obtain ⟨m6, hn6, _⟩ := I6.loc
      exact hRR D _ s6 H5 J1 ⟨m6, hn6⟩ J2 qn
    · refine thn (T.item (cxC X scope cl (x :: x2 :: ys) s3 (upd H2 D (.lst [])) fp) rfl rfl rfl hc i [] s5 _ H5 _ I5 (stat fr5) st5 go) fun r s6 ⟨u, hr, h6⟩ => ?_
      subst hr
      refine thn h6 fun _ s7 ⟨v, H7, I7, r7, y7, st7, fr7⟩ => ?_
      have I7' := I7.pinned (stat fr7) (T.obj _ _ st7)
      have q7 := step v H7 y7
      obtain ⟨av, xs7, rfl, sq7, v1, v2, rfl, q7⟩ := q7
      have hG : PG (cxC X scope cl (x :: x2 :: ys) s3 (upd H2 D (.lst [])) fp) (.Tuple [.Name x px, .Name x2 px2] k2 pt) _ := pg_tup hc (pgs_cons (pg_name (i := 0) S.nd rfl (.inl hx') (.inr hx')) (pgs_cons (pg_name (i := 1) S.nd rfl (.inl hx2') (.inr hx2')) pgs_nil))
      refine thn (hG _ s7 _ H7 (.ref av) u (fun σ' H' => H7 = H' ∧ σ' = some v1 :: some v2 :: slotsC ix σ) I7' r7 ⟨av, [v1, v2], rfl, sq7, rfl, v1, [v2], rfl, v2, [], rfl, rfl, rfl, rfl⟩) fun _ s8 ⟨σ8, H8, I8, e8, e8'⟩ => ?_
      subst e8 e8'
      refine thn (ht _ _ _ _ s8 _ H7 _ I8 q7) fun ok s9 ⟨H9, I9, q9⟩ => ?_
      have again : ∀ {ys'' : List V} {H10 : Hp} {s10 : Shared}, Inv (cxC X scope cl (x :: x2 :: ys) s3 (upd H2 D (.lst [])) fp) ([] ++ pinsAt fp s7.heap) (some v1 :: some v2 :: slotsC ix σ) H10 s10 → N ys'' H10 →
          ∃ m, m < n ∧ ∃ i ys' σ' H', Inv (cxC X scope cl (x :: x2 :: ys) s3 (upd H2 D (.lst [])) fp) [] σ' H' s10 ∧ tn i s10.heap ∧ (∀ b ∈ fp, H' b = none) ∧ W i m ys' H' ∧ ∃ o o', σ' = o :: o' :: slotsC ix σ := fun {ys'' H10 s10} I10 n10 => by
        obtain ⟨m', hm, w10⟩ := hN _ _ n10
        refine ⟨m', hm, i + 1, ys'', _, H10, I10.unpinned, T.keep _ _ _ st7 fun b hb o e => (I10.pin (b, o) (List.mem_append_right _ (List.mem_append_right _ (mem_pinsAt hb e)))).1, fun b hb => ?_, w10, _, _, rfl⟩
        obtain ⟨o, e, d⟩ := T.obj _ _ st7 b hb
        exact (I10.pin (b, o) (List.mem_append_right _ (List.mem_append_right _ (mem_pinsAt hb e)))).2.1
      cases ok with
      | false => exact again I9 q9
      | true =>
        refine thn (he _ _ _ _ s9 _ H9 _ I9 q9) fun y s10 ⟨vy, H10, I10, r10, d10, n10⟩ => ?_
        refine thn (mt_append _ s10 _ H10 (.ref D) [vy] _ _ (fun z H11 => z = .non ∧ H11 = upd H10 D (.lst (ys' ++ [vy]))) I10 rfl (.cons r10 .nil) ⟨D, ys', vy, rfl, rfl, d10, hlen, rfl, rfl⟩) fun _ s11 ⟨_, H11, I11, _, _, e11⟩ => ?_
        subst e11
        exact again I11 n10
  exact codeAny_compStart_list loop (T.self _ 0 _ _ _ st4 loop)

theorem cells_of2 {pins : List (Addr × Obj)} {σ : St} {H : Hp} {s : Shared} (I : Inv X pins σ H s) (S : CScope2 X scope x x2 ys ix) :
    ∃ cl, closureFor scope X.env = pure cl ∧ (∀ y c, cl.lookup y = some c → X.env.cells.lookup y = some c) ∧ ∀ z ∈ scope.names, z.2 = .free → ∃ c, cl.lookup z.1 = some c :=
  closure_ok fun z hz hf => I.ok.has z.1 (S.free z hz hf)
theorem pe_comp2 {k2} (S : CScope2 X scope x x2 ys ix) (hc : X.calm = true) (hi : PI X (.Tuple [.Name x px, .Name x2 px2] k2 pt) iter wi) (ht : ∀ cl s3 H3 fp, PTests (cxC X scope cl (x :: x2 :: ys) s3 H3 fp) ifs tc)
    (he : ∀ cl s3 H3 fp, PE (cxC X scope cl (x :: x2 :: ys) s3 H3 fp) elt te) (hs : ∀ x, foldedSetIterable iter X.env x = pure x := by intro _; rfl) :
    PE X (.ListComp elt [⟨.Tuple [.Name x px, .Name x2 px2] k2 pt, iter, ifs, 0⟩] scope pos) (tComp2 X.K wi ix tc te) := by
  intro pins s σ H Q I h
  obtain ⟨cl, e1, c1, c2⟩ := cells_of2 I S
  rw [eval_ListComp]
  refine wpAny_comprehension_free (use := none) rfl hs e1 S.kind S.names (thn (hi pins s σ H _ I h) fun v s1 h1 => thn h1 fun itv s2 h2 => ?_)
  obtain ⟨it, fp, tn, J, H2, e, I2, T, st2, f2, q2⟩ := h2
  subst e
  refine comp_walk2 hc S c1 c2 (ht cl) (he cl) I2 T st2 f2 q2 fun D C s' H' I' hm fc q' => ?_
  obtain ⟨m, hn⟩ := hm
  exact ⟨m, hn, fun h' sb => ⟨.ref D, H', I'.turned (t' := s'.toks) (fun b o hb e => sb.extBut b o hb e) fc.1 fc.2.1 fc.2.2.2.1 fc.2.2.2.2.1 fc.2.2.2.2.2, rfl, q'⟩⟩

end
end L2


end
section
set_option Elab.async false
set_option linter.all false
set_option maxRecDepth 100000
namespace RR
open PySem L2

inductive Wd where
  | on | off | relay (k : Int) | button (k : Int) | nt (a : Wd) | an (a b : Wd) | or (a b : Wd)
deriving DecidableEq

noncomputable def WAt (H : Hp) : Wd → V → Prop
  | .on, v => ∃ p, v = .ref p ∧ H p = some (.tup [.str "on"])
  | .off, v => ∃ p, v = .ref p ∧ H p = some (.tup [.str "off"])
  | .relay k, v => ∃ p, v = .ref p ∧ H p = some (.tup [.str "relay", .int k])
  | .button k, v => ∃ p, v = .ref p ∧ H p = some (.tup [.str "button", .int k])
  | .nt a, v => ∃ p x, v = .ref p ∧ H p = some (.tup [.str "not", x]) ∧ WAt H a x
  | .an a b, v => ∃ p x y, v = .ref p ∧ H p = some (.tup [.str "and", x, y]) ∧ WAt H a x ∧ WAt H b y
  | .or a b, v => ∃ p x y, v = .ref p ∧ H p = some (.tup [.str "or", x, y]) ∧ WAt H a x ∧ WAt H b y
theorem WAt.mono {H H' : Hp} (h : TupLe H H') : ∀ {w : Wd} {v : V}, WAt H w v → WAt H' w v
  | .on, _, ⟨p, e, q⟩ => ⟨p, e, h _ _ q⟩
  | .off, _, ⟨p, e, q⟩ => ⟨p, e, h _ _ q⟩
  | .relay _, _, ⟨p, e, q⟩ => ⟨p, e, h _ _ q⟩
  | .button _, _, ⟨p, e, q⟩ => ⟨p, e, h _ _ q⟩
  | .nt _, _, ⟨p, x, e, q, a⟩ => ⟨p, x, e, h _ _ q, a.mono h⟩
  | .an _ _, _, ⟨p, x, y, e, q, a, b⟩ => ⟨p, x, y, e, h _ _ q, a.mono h, b.mono h⟩
  | .or _ _, _, ⟨p, x, y, e, q, a, b⟩ => ⟨p, x, y, e, h _ _ q, a.mono h, b.mono h⟩
noncomputable def Wd.depth : Wd → Nat
  | .nt a => a.depth + 1
  | .an a b => max a.depth b.depth + 1
  | .or a b => max a.depth b.depth + 1
  | _ => 1
noncomputable def Wd.ok (R B : Int) : Wd → Prop
  | .relay k => 0 ≤ k ∧ k < R
  | .button k => 0 ≤ k ∧ k < B
  | .nt a => a.ok R B
  | .an a b => a.ok R B ∧ b.ok R B
  | .or a b => a.ok R B ∧ b.ok R B
  | _ => True
noncomputable def Wd.worth (st pr : List Bool) : Wd → Bool
  | .on => true
  | .off => false
  | .relay k => st.getD k.toNat false
  | .button k => pr.getD k.toNat false
  | .nt a => !a.worth st pr
  | .an a b => a.worth st pr && b.worth st pr
  | .or a b => a.worth st pr || b.worth st pr
theorem bools_at {st : List Bool} {k : Int} (h0 : 0 ≤ k) (h1 : k < st.length) : atI (st.map V.bl) k = some (.bl (st.getD k.toNat false)) := by
  obtain ⟨j, rfl⟩ : ∃ j : Nat, k = (j : Int) := ⟨k.toNat, by lia⟩
  have hk : j < st.length := by lia
  refine atI_nat ?_
  rw [List.getElem?_map, List.getElem?_eq_getElem hk, Int.toNat_natCast]
  simp [hk]

noncomputable def cellAt (ns : List Int) (k : Int) : Int := if k < ns.length then ns.getD k.toNat 0 else 0
noncomputable def pick (ns : List Int) (k : Int) : Int := if k < ns.length then ns.getD k.toNat 0 else (cellAt ns 0 + 7 * k + 3) * 48271 % 2147483647 / 13
noncomputable def mix1 (cell k : Int) : Int := (cell * 69621 + 7001 * k + 3) % 2147483629
noncomputable def mix2 (m k : Int) : Int := (m * m + 39373 * m + k) % 2147483647
noncomputable def mix3 (m k : Int) : Int := (m * m + 16807 * m + 7 * k) % 2147483587
noncomputable def mix (cell k : Int) : Int := mix3 (mix2 (mix1 cell k) k) k
noncomputable def leaf (m R B : Int) : Wd :=
  if m % (R + B + 1) < R then .relay (m % (R + B + 1)) else if m % (R + B + 1) < R + B then .button (m % (R + B + 1) - R) else if m / 64 % 2 = 0 then .on else .off
noncomputable def lword (cell R B : Int) : Nat → Int → Wd
  | 0, k => leaf (mix cell k / 7 / 10) R B
  | d + 1, k =>
    if d = 0 ∨ mix cell k / 7 % 10 < 3 then leaf (mix cell k / 7 / 10) R B
    else if mix cell k / 7 % 10 < 5 then .nt (lword cell R B d (2 * k + 1))
    else if mix cell k / 7 % 10 % 2 = 0 then .an (lword cell R B d (2 * k + 1)) (lword cell R B d (2 * k + 2))
    else .or (lword cell R B d (2 * k + 1)) (lword cell R B d (2 * k + 2))
noncomputable def bitsOf (n : Int) (size : Nat) : List Bool := (List.range size).map fun k => decide (n / 2 ^ k % 2 = 1)
noncomputable def wrapN : Nat → Wd → Wd
  | 0, w => w
  | n + 1, w => .nt (wrapN n w)
noncomputable def wraps (m : Int) : Nat := (m % 4 * (if m / 4 % 4 = 1 then 1 else 0)).toNat
theorem leaf_ok {m R B : Int} (hR : 1 ≤ R) (hB : 0 ≤ B) : (leaf m R B).ok R B := by
  have h0 : 0 ≤ m % (R + B + 1) := Int.emod_nonneg _ (by lia)
  unfold leaf
  split
  · exact ⟨h0, by assumption⟩
  · split
    · exact ⟨by lia, by lia⟩
    · split <;> trivial
theorem lword_ok {cell R B : Int} (hR : 1 ≤ R) (hB : 0 ≤ B) : ∀ (d : Nat) (k : Int), (lword cell R B d k).ok R B
  | 0, k => leaf_ok hR hB
  | d + 1, k => by
    unfold lword
    split
    · exact leaf_ok hR hB
    · split
      · exact lword_ok hR hB d _
      · split <;> exact ⟨lword_ok hR hB d _, lword_ok hR hB d _⟩
theorem leaf_depth {m R B : Int} : (leaf m R B).depth = 1 := by
  unfold leaf
  split
  · rfl
  · split
    · rfl
    · split <;> rfl
theorem lword_depth {cell R B : Int} : ∀ (d : Nat) (k : Int), (lword cell R B d k).depth ≤ max d 1
  | 0, k => by unfold lword; rw [leaf_depth]; lia
  | d + 1, k => by
    have a := lword_depth (cell := cell) (R := R) (B := B) d (2 * k + 1)
    have b := lword_depth (cell := cell) (R := R) (B := B) d (2 * k + 2)
    unfold lword
    split
    · rw [leaf_depth]; lia
    · rename_i h
      have hd : d ≠ 0 := fun z => h (.inl z)
      split
      · show Wd.depth _ + 1 ≤ _
        lia
      · split
        · show max (Wd.depth _) (Wd.depth _) + 1 ≤ _
          lia
        · show max (Wd.depth _) (Wd.depth _) + 1 ≤ _
          lia
theorem bits_length (n : Int) (size : Nat) : (bitsOf n size).length = size := by unfold bitsOf; simp
theorem cell_get {ns : List Int} {k : Int} (h0 : 0 ≤ k) (h1 : k < ns.length) : atI (ns.map V.int) k = some (.int (ns.getD k.toNat 0)) := by
  obtain ⟨j, rfl⟩ : ∃ j : Nat, k = (j : Int) := ⟨k.toNat, by lia⟩
  have hk : j < ns.length := by lia
  refine atI_nat ?_
  rw [List.getElem?_map, List.getElem?_eq_getElem hk, Int.toNat_natCast]
  simp [hk]
end RR


end
section
set_option Elab.async false
set_option linter.all false
set_option maxRecDepth 100000
namespace L2
open PySem PySem.Spec PyProof.Rows
mutual
inductive DAt (K : PySem.W.Frag) (H : Hp) : PyData → V → Prop where
  | none : DAt K H .none .non
  | bool (b : Bool) : DAt K H (.bool b) (.bl b)
  | int (i : Int) : DAt K H (.int i) (.int i)
  | str (x : Str) : DAt K H (.str x) (.str x)
  | list {a : Addr} {xs : List V} {ds : List PyData} : SqL K H a xs → DsAt K H ds xs → DAt K H (.list ds) (.ref a)
  | tuple {a : Addr} {xs : List V} {ds : List PyData} : SqT K H a xs → DsAt K H ds xs → DAt K H (.tuple ds) (.ref a)
inductive DsAt (K : PySem.W.Frag) (H : Hp) : List PyData → List V → Prop where
  | nil : DsAt K H [] []
  | cons {d : PyData} {v : V} {ds : List PyData} {vs : List V} : DAt K H d v → DsAt K H ds vs → DsAt K H (d :: ds) (v :: vs)
end
section
variable {X : Cx} {pins : List (Addr × Obj)} {σ : St} {H : Hp} {s : Shared}
mutual
theorem DAt.reads (I : Inv X pins σ H s) : ∀ {d : PyData} {v : V} {u : Value}, DAt X.K H d v → RelV v u → ∃ as, Reads s.heap u d as
  | _, _, _, .none, r => by cases r; exact ⟨_, .none⟩
  | _, _, _, .bool b, r => by cases r; exact ⟨_, .bool b⟩
  | _, _, _, .int i, r => by obtain ⟨t, rfl⟩ := r; exact ⟨_, .int i t⟩
  | _, _, _, .str x, r => by obtain ⟨t, rfl⟩ := r; exact ⟨_, .str x t⟩
  | _, _, _, .list h hs, r => by
    cases r
    obtain ⟨its, rv, ⟨o, n, e1, e2, e3, e4⟩, _⟩ := I.list h
    obtain ⟨as, ra⟩ := DsAt.reads I hs rv
    exact ⟨_, .list e1 e2 e4 (by simpa using ra)⟩
  | _, _, _, .tuple h hs, r => by
    cases r
    obtain ⟨its, rv, ⟨o, e1, e2, n, e4⟩, _⟩ := I.tuple h
    obtain ⟨as, ra⟩ := DsAt.reads I hs rv
    exact ⟨_, .tuple e1 e2 e4 (by simpa using ra)⟩
theorem DsAt.reads (I : Inv X pins σ H s) : ∀ {ds : List PyData} {vs : List V} {us : List Value}, DsAt X.K H ds vs → Vals vs us → ∃ as, ReadsAll s.heap us ds as
  | _, _, _, .nil, .nil => ⟨_, .nil⟩
  | _, _, _, .cons h hs, .cons r rs => by
    obtain ⟨as, ra⟩ := DAt.reads I h r
    obtain ⟨bs, rb⟩ := DsAt.reads I hs rs
    exact ⟨_, .cons ra rb⟩
end
mutual
theorem DAt.mono {K : PySem.W.Frag} {H' : Hp} (hs : Same H H') : ∀ {d : PyData} {v : V}, DAt K H d v → DAt K H' d v
  | _, _, .none => .none
  | _, _, .bool b => .bool b
  | _, _, .int i => .int i
  | _, _, .str x => .str x
  | _, _, .list h r => .list (hs.seq h) (DsAt.mono hs r)
  | _, _, .tuple h r => .tuple (hs.seqT h) (DsAt.mono hs r)
theorem DsAt.mono {K : PySem.W.Frag} {H' : Hp} (hs : Same H H') : ∀ {ds : List PyData} {vs : List V}, DsAt K H ds vs → DsAt K H' ds vs
  | _, _, .nil => .nil
  | _, _, .cons h r => .cons (DAt.mono hs h) (DsAt.mono hs r)
end
theorem DsAt.map {K : PySem.W.Frag} {α : Type} {f : α → PyData} {g : α → V} (h : ∀ a, DAt K H (f a) (g a)) : ∀ (l : List α), DsAt K H (l.map f) (l.map g)
  | [] => .nil
  | a :: l => .cons (h a) (DsAt.map h l)
inductive I_rEqD (K : PySem.W.Frag) (neg : Bool) (x : V) (y : V) (H : Hp) (Q : VK) : Prop
  | mk : ∀ d e, (DAt K H d x) → (DAt K H e y) → (d.canLay0 = true) → (e.canLay0 = true) → ((d.depth ≤ 64 ∨ e.depth ≤ 64)) → (Q (.bl (if neg then !PyData.eqv d e else PyData.eqv d e)) H) → I_rEqD K neg x y H Q
noncomputable def rEqD (K : PySem.W.Frag) (neg : Bool) : R2 := fun x y H Q => I_rEqD K neg x y H Q
theorem op_eqD {K : PySem.W.Frag} (h : X.K = K) (hu : X.A.units + 64 < cLine) : OpR X (compareOp .Eq) (rEqD K false) := by
  subst h
  intro pins s σ H x y v u Q I rx ry q
  obtain ⟨d, e, hd, he, cd, ce, dd, q⟩ := q
  obtain ⟨as, ra⟩ := hd.reads I rx
  obtain ⟨bs, rb⟩ := he.reads I ry
  exact SeqAt.rcAt_reads ra rb cd ce (by lia) X.prog X.w X.xe _ ⟨.bl _, H, I, rfl, q⟩
theorem op_neD {K : PySem.W.Frag} (h : X.K = K) (hu : X.A.units + 64 < cLine) : OpR X (compareOp .NotEq) (rEqD K true) := by
  subst h
  intro pins s σ H x y v u Q I rx ry q
  obtain ⟨d, e, hd, he, cd, ce, dd, q⟩ := q
  obtain ⟨as, ra⟩ := hd.reads I rx
  obtain ⟨bs, rb⟩ := he.reads I ry
  exact SeqAt.rcNeAt_reads ra rb cd ce (by lia) X.prog X.w X.xe _ ⟨.bl _, H, I, rfl, q⟩

theorem cat_empty {prog : Program} {w : World} {A : Around} {E : Value → Shared → Prop} {s : Shared} {t b : Addr} {ws : List Value} {Q : Value → Shared → Prop} (ht : IsTup s.heap t (#[] : Array Value)) (hb : IsTup s.heap b ws.toArray)
    (h : Q (.ref b) s) : wpAny (model prog w) A (binaryOp .Add (.ref t) (.ref b)) Q E s := by
  obtain ⟨⟨cls, dd, data, sl⟩, ho, hc, n, hd⟩ := id ht
  obtain ⟨⟨cls2, dd2, data2, sl2⟩, ho2, hc2, n2, hd2⟩ := id hb
  simp only at hc hd hc2 hd2
  subst hc hd hc2 hd2
  exact concat_meets ⟨_, ho, rfl⟩ ⟨_, ho2, rfl⟩ noFill_tuple_add seq_tuple_add PySem.F.slot_tuple_add PySem.F.entry_tuple_add (PySem.F.args_tuple_add_2 _ _)
    (tuple_addW0 t b #[] ws.toArray n n2 dd dd2 sl sl2 rfl) ⟨ho, ho2, h⟩
inductive I_rCatA (x : V) (y : V) (H : Hp) (Q : VK) : Prop
  | mk : ∀ a b xs ys, (x = .ref a) → (y = .ref b) → (H a = some (.tup xs)) → (H b = some (.tup ys)) → (xs.length + ys.length ≤ sizeLine) → (∀ p H', Same H H' → H' p = some (.tup (xs ++ ys)) → Q (.ref p) H') → I_rCatA x y H Q
noncomputable def rCatA : R2 := fun x y H Q => I_rCatA x y H Q
theorem op_catA : OpR X (binaryOp .Add) rCatA := by
  intro pins s σ H x y v u Q I rx ry q
  obtain ⟨a, b, xs, ys, rfl, rfl, ha, hb, hz, q⟩ := q
  by_cases hx : xs = []
  · subst hx
    cases rx
    cases ry
    obtain ⟨its, r1, p1, _⟩ := I.tuple (SqT.of ha)
    obtain ⟨its2, r2, p2, _⟩ := I.tuple (SqT.of hb)
    cases r1
    exact cat_empty p1 p2 ⟨.ref b, H, I, rfl, q b H (Same.refl _) (by simpa using hb)⟩
  · exact op_catT pins s σ H _ _ v u Q I rx ry ⟨a, b, xs, ys, rfl, rfl, SqT.of ha, SqT.of hb, hx, hz, fun e => q a H (Same.refl _) (by rw [e, List.append_nil]; exact ha), fun _ p hp => q p _ (Same.new hp _) upd_same⟩
end
end L2
namespace L2
open PySem PySem.Spec PyProof.Rows
section
variable {X : Cx}
theorem vals_bools {bs : List Bool} : ∀ {us : List Value}, Vals (bs.map V.bl) us → us = bs.map Value.bool := by
  induction bs with
  | nil => intro us r; cases r; rfl
  | cons b bs ih =>
    intro us r
    rw [List.map_cons] at r
    cases r with
    | cons r1 r2 => cases r1; rw [ih r2]; rfl
theorem range_allG {α : Type} (l : List α) (f : α → Bool) (d : Bool) : ((List.range l.length).all fun i => (l[i]?.map f).getD d) = l.all f := by
  rw [Bool.eq_iff_iff]
  simp only [List.all_eq_true, List.mem_range]
  constructor
  · intro h x hx
    obtain ⟨i, hi, rfl⟩ := List.mem_iff_getElem.mp hx
    have := h i hi
    simpa [hi] using this
  · intro h i hi
    simp [hi]
    exact h _ (List.getElem_mem hi)
theorem keptI {s : Shared} {h' : Heap} {o : Obj} (hk : ∀ b x, b ∉ [s.heap.objs.size] → (s.heap.push o).get? b = some x → h'.get? b = some x) : ∀ b x, s.heap.get? b = some x → h'.get? b = some x :=
  fun b x e => hk b x (fun hm => Nat.lt_irrefl _ (Nat.lt_of_lt_of_eq (Heap.lt_size e) (List.mem_singleton.mp hm).symm)) (Heap.get?_push_of_some _ e)
theorem call_allB {K : PySem.W.Frag} (h : X.K = K) (hc : X.calm = true) : CallR X (.builtin "all") (fun xs H Q => ∃ (p : Addr) (bs : List Bool), xs = [.ref p] ∧ SqL K H p (bs.map V.bl) ∧ Q (.bl (bs.all id)) H) := by
  subst h
  intro pins s σ H xs us Q I r q
  obtain ⟨p, bs, rfl, hS, q⟩ := q
  obtain ⟨u, rfl, r1⟩ := r.one
  cases r1
  obtain ⟨its, rv, pl, hz⟩ := I.list hS
  obtain rfl := vals_bools rv
  have hl := pl.isList
  have hlt : p < s.heap.objs.size := by obtain ⟨_, e, _⟩ := hl; exact Heap.lt_size e
  refine call_all_walk (wpAny_pyIter_list hl ?_)
  refine ⟨s.heap.objs.size, [s.heap.objs.size, p], [s.heap.objs.size], (bs.map Value.bool).toArray.size, _, _, fun i => (bs[i]?.map id).getD true, rfl, Walks.list (A := X.A.in1) (I.ok.hd hc) _ p (Nat.ne_of_lt hlt) _,
    ⟨⟨_, Heap.get?_push_size _ rfl, rfl, rfl⟩, hl.push _⟩, fun i v s' Q' E' hP hQ => ?_, fun h' tk hk => ?_⟩
  · have hP' : (bs.map Value.bool)[i]? = some v := by simpa using hP
    rw [List.getElem?_map] at hP'
    cases e : bs[i]? with
    | none => rw [e] at hP'; cases hP'
    | some b =>
      rw [e] at hP'
      cases hP'
      simp only [e] at hQ
      exact wpAny_truthy_bool hQ
  · have e : ((List.range (bs.map Value.bool).toArray.size).all fun i => (bs[i]?.map id).getD true) = bs.all id := by
      rw [List.size_toArray, List.length_map]; exact range_allG bs id true
    rw [e]
    exact ⟨.bl _, H, I.kept (keptI hk), rfl, q⟩
end
end L2


end
section
set_option Elab.async false
set_option linter.all false
set_option maxRecDepth 100000
namespace RR
open PySem L2
inductive I_spCell (K : PySem.W.Frag) (vs : List V) (H : Hp) (Q : VK) : Prop
  | mk : ∀ a ns k, (vs = [.ref a, .int k]) → (SqL K H a (ns.map V.int)) → (0 ≤ k) → (Q (.int (cellAt ns k)) H) → I_spCell K vs H Q
noncomputable def spCell (K : PySem.W.Frag) : Sp := fun vs H Q _ => I_spCell K vs H Q
inductive I_spPick (K : PySem.W.Frag) (vs : List V) (H : Hp) (Q : VK) : Prop
  | mk : ∀ a ns k, (vs = [.ref a, .int k]) → (SqL K H a (ns.map V.int)) → (0 ≤ k) → (Q (.int (pick ns k)) H) → I_spPick K vs H Q
noncomputable def spPick (K : PySem.W.Frag) : Sp := fun vs H Q _ => I_spPick K vs H Q
inductive I_spMix (vs : List V) (H : Hp) (Q : VK) : Prop
  | mk : ∀ c k, (vs = [.int c, .int k]) → (Q (.int (mix c k)) H) → I_spMix vs H Q
noncomputable def spMix : Sp := fun vs H Q _ => I_spMix vs H Q
inductive I_spLeaf (vs : List V) (H : Hp) (Q : VK) : Prop
  | mk : ∀ m R B, (vs = [.int m, .int R, .int B]) → (1 ≤ R) → (0 ≤ B) → (∀ v H', Same H H' → WAt H' (leaf m R B) v → Q v H') → I_spLeaf vs H Q
noncomputable def spLeaf : Sp := fun vs H Q _ => I_spLeaf vs H Q
theorem at0 (x : V) (xs : List V) : atI (x :: xs) 0 = some x := atI_nat (j := 0) rfl
theorem at1 (x y : V) (xs : List V) : atI (x :: y :: xs) 1 = some y := atI_nat (j := 1) rfl
theorem at2 (x y z : V) (xs : List V) : atI (x :: y :: z :: xs) 2 = some z := atI_nat (j := 2) rfl
theorem sz {n : Nat} (h : n ≤ 1000) : n ≤ sizeLine := Nat.le_of_lt (small1000 h)
theorem no_calls {P : Program} {w : World} {K : PySem.W.Frag} {mg : Str → Option Value} {base : Heap} {f : Addr} {fd : FuncData} {k : Nat} {ps : List Str} {sp : Sp} (no : ∀ vs H Q E, ¬ sp vs H Q E) : FnOk P w K mg base CX0 k f fd ps sp :=
  ⟨fun vs H Q E h => absurd h (no vs H Q E), fun A outer s H args us vs Q E _ _ _ _ h => absurd h (no vs H Q E)⟩
theorem two_at {x y : V} {m : Int} : (m % 2 = 0 ∧ atI [x, y] (m % 2) = some x) ∨ (m % 2 ≠ 0 ∧ atI [x, y] (m % 2) = some y) := by
  have h1 := Int.emod_nonneg m (show (2 : Int) ≠ 0 by decide)
  have h2 := Int.emod_lt_of_pos m (show (0 : Int) < 2 by decide)
  rcases (by lia : m % 2 = 0 ∨ m % 2 = 1) with e | e
  · exact .inl ⟨e, by rw [e]; exact at0 _ _⟩
  · exact .inr ⟨by lia, by rw [e]; exact at1 _ _ _⟩
inductive I_spWord (n : Nat) (vs : List V) (H : Hp) (Q : VK) : Prop
  | mk : ∀ (cell k R B : Int) (d : Nat), (vs = [.int cell, .int k, .int d, .int R, .int B]) → (d < n) → (1 ≤ R) → (0 ≤ B) → (∀ v H', Same H H' → WAt H' (lword cell R B d k) v → Q v H') → I_spWord n vs H Q
noncomputable def spWord (n : Nat) : Sp := fun vs H Q _ => I_spWord n vs H Q
inductive I_spBits (vs : List V) (H : Hp) (Q : VK) : Prop
  | mk : ∀ (m : Int) (n : Nat), (vs = [.int m, .int n]) → (n ≤ 63) → (∀ a H', Same H H' → H' a = some (.tup ((bitsOf m n).map V.bl)) → Q (.ref a) H') → I_spBits vs H Q
noncomputable def spBits : Sp := fun vs H Q _ => I_spBits vs H Q
inductive I_spWrapped (vs : List V) (H : Hp) (Q : VK) : Prop
  | mk : ∀ (v : V) (wd : Wd) (m : Int), (vs = [v, .int m]) → (WAt H wd v) → (∀ v' H', Same H H' → WAt H' (wrapN (wraps m) wd) v' → Q v' H') → I_spWrapped vs H Q
noncomputable def spWrapped : Sp := fun vs H Q _ => I_spWrapped vs H Q
noncomputable def WsAt (H : Hp) (ws : List Wd) (vs : List V) : Prop := vs.length = ws.length ∧ ∀ (i : Nat) (v : V), vs[i]? = some v → ∃ wd, ws[i]? = some wd ∧ WAt H wd v
theorem WsAt.mono {H H' : Hp} {ws : List Wd} {vs : List V} (h : WsAt H ws vs) (t : TupLe H H') : WsAt H' ws vs := ⟨h.1, fun i v e => let ⟨wd, a, b⟩ := h.2 i v e; ⟨wd, a, b.mono t⟩⟩
noncomputable def lboard (ns : List Int) (start R B : Int) (d : Nat) : List Wd := (List.range R.toNat).map fun (k : Nat) => lword (pick ns (start + k)) R B d k
inductive I_spBoard (K : PySem.W.Frag) (vs : List V) (H : Hp) (Q : VK) : Prop
  | mk : ∀ (a : Addr) (ns : List Int) (start R B : Int) (d : Nat), (vs = [.ref a, .int start, .int R, .int B, .int d]) → (SqL K H a (ns.map V.int)) → (0 ≤ start) → (d < 10) → (1 ≤ R) → (R ≤ 63) → (0 ≤ B) → (∀ D us H', Same H H' → H' D = some (.lst us) → WsAt H' (lboard ns start R B d) us → Q (.ref D) H') → I_spBoard K vs H Q
noncomputable def spBoard (K : PySem.W.Frag) : Sp := fun vs H Q _ => I_spBoard K vs H Q
theorem list_ext {us : List V} {xs : List V} (hl : us.length = xs.length) (h : ∀ (i : Nat) (y : V), us[i]? = some y → xs[i]? = some y) : us = xs := by
  refine List.ext_getElem? fun i => ?_
  cases e : us[i]? with
  | some y => exact (h i y e).symm
  | none =>
    have := List.getElem?_eq_none_iff.mp e
    exact (List.getElem?_eq_none_iff.mpr (by lia)).symm
noncomputable def BAt (H : Hp) (a : Addr) (bs : List Bool) : Prop := H a = some (.tup (bs.map V.bl))
noncomputable def rRelays (c : Int) : Int := if c / 5 % 9 = 1 then 6 else 1 + c % 5
noncomputable def rButtons (c : Int) : Int := c / 45 % 5
noncomputable def rDeep (c : Int) : Nat := (2 + c / 225 % 4).toNat
noncomputable def roomBoard (ns : List Int) : List Wd :=
  let c := cellAt ns 0
  (List.range (rRelays c).toNat).map fun (k : Nat) => wrapN (wraps (mix c (70 + k) / 7)) (lword (pick ns (4 + k)) (rRelays c) (rButtons c) (rDeep c) k)
noncomputable def roomPressed (ns : List Int) : List Bool := bitsOf (cellAt ns 1) (rButtons (cellAt ns 0)).toNat
noncomputable def roomStand (ns : List Int) : List Bool := bitsOf (cellAt ns 2) (rRelays (cellAt ns 0)).toNat
noncomputable def RoomAt (H : Hp) (ns : List Int) (p : Addr) : Prop := ∃ D us b c, H p = some (.tup [.ref D, .ref b, .ref c]) ∧ H D = some (.lst us) ∧ WsAt H (roomBoard ns) us ∧ BAt H b (roomPressed ns) ∧ BAt H c (roomStand ns)
inductive I_spRoom (K : PySem.W.Frag) (vs : List V) (H : Hp) (Q : VK) : Prop
  | mk : ∀ (a : Addr) (ns : List Int), (vs = [.ref a]) → (SqL K H a (ns.map V.int)) → (∀ p H', Same H H' → RoomAt H' ns p → Q (.ref p) H') → I_spRoom K vs H Q
noncomputable def spRoom (K : PySem.W.Frag) : Sp := fun vs H Q _ => I_spRoom K vs H Q
inductive I_spWorth (n : Nat) (vs : List V) (H : Hp) (Q : VK) : Prop
  | mk : ∀ (v : V) (wd : Wd) (a b : Addr) (st pr : List Bool), (vs = [v, .ref a, .ref b]) → (WAt H wd v) → (BAt H a st) → (BAt H b pr) → (wd.ok st.length pr.length) → (wd.depth ≤ n) → (Q (.bl (wd.worth st pr)) H) → I_spWorth n vs H Q
noncomputable def spWorth (n : Nat) : Sp := fun vs H Q _ => I_spWorth n vs H Q
inductive I_spLWorth (n : Nat) (vs : List V) (H : Hp) (Q : VK) : Prop
  | mk : ∀ (v : V) (wd : Wd) (a b : Addr) (st pr : List Bool), (vs = [v, .ref a, .ref b]) → (WAt H wd v) → (BAt H a st) → (BAt H b pr) → (wd.ok st.length pr.length) → (wd.depth ≤ n) → (∀ H', Same H H' → Q (.bl (wd.worth st pr)) H') → I_spLWorth n vs H Q
noncomputable def spLWorth (n : Nat) : Sp := fun vs H Q _ => I_spLWorth n vs H Q
theorem depth_pos (wd : Wd) : 1 ≤ wd.depth := by
  cases wd <;> simp [Wd.depth]
noncomputable def Parts (H : Hp) (wd : Wd) (v : V) (kd : Str) (ws : List Wd) (xs : List V) (p : Addr) : Prop :=
  v = .ref p ∧ H p = some (.tup (.str kd :: xs)) ∧ WsAt H ws xs ∧ 1 ≤ ws.length ∧ ws.length ≤ 2 ∧
    ((kd = "not" ∧ ∃ x, ws = [x] ∧ wd = .nt x) ∨ (kd = "and" ∧ ∃ x y, ws = [x, y] ∧ wd = .an x y) ∨ (kd = "or" ∧ ∃ x y, ws = [x, y] ∧ wd = .or x y))
theorem ws_one {H : Hp} {x : Wd} {v : V} (h : WAt H x v) : WsAt H [x] [v] := ⟨rfl, fun i y e => by
  cases i with
  | zero => cases e; exact ⟨x, rfl, h⟩
  | succ i => simp at e⟩
theorem ws_two {H : Hp} {x y : Wd} {v u : V} (h : WAt H x v) (h' : WAt H y u) : WsAt H [x, y] [v, u] := ⟨rfl, fun i z e => by
  cases i with
  | zero => cases e; exact ⟨x, rfl, h⟩
  | succ i =>
    cases i with
    | zero => cases e; exact ⟨y, rfl, h'⟩
    | succ i => simp at e⟩
inductive Seen (H : Hp) (wd : Wd) (v : V) : Prop where
  | on (e : wd = .on) | off (e : wd = .off) | relay (k : Int) (e : wd = .relay k) | button (k : Int) (e : wd = .button k)
  | parts (kd : Str) (ws : List Wd) (xs : List V) (p : Addr) (h : Parts H wd v kd ws xs p)
end RR


end
section
set_option Elab.async false
set_option linter.all false
set_option maxRecDepth 100000
namespace RR
open PySem L2
noncomputable def allRows : Nat → List (List Bool)
  | 0 => [[]]
  | n + 1 => (allRows n).map (· ++ [false]) ++ (allRows n).map (· ++ [true])
theorem allRows_len : ∀ n, (allRows n).length = 2 ^ n
  | 0 => rfl
  | n + 1 => by
    show ((allRows n).map (· ++ [false]) ++ (allRows n).map (· ++ [true])).length = _
    rw [List.length_append, List.length_map, List.length_map, allRows_len n, Nat.pow_succ]
    lia
theorem bits_succ (m : Int) (n : Nat) : bitsOf m (n + 1) = bitsOf m n ++ [decide (m / 2 ^ n % 2 = 1)] := by
  unfold bitsOf
  rw [List.range_succ, List.map_append]
  rfl
theorem bit_mod (m : Nat) {k n : Nat} (h : k < n) : ((m : Int) / 2 ^ k % 2) = (((m % 2 ^ n : Nat) : Int) / 2 ^ k % 2) := by
  have e : n = k + 1 + (n - k - 1) := by lia
  have h1 : m % 2 ^ n / 2 ^ k % 2 = m / 2 ^ k % 2 := by
    rw [e, Nat.pow_add, Nat.pow_succ, Nat.mul_assoc, Nat.mod_mul_right_div_self, Nat.mod_mul_right_mod]
  have h2 : (((m / 2 ^ k % 2 : Nat)) : Int) = (m : Int) / 2 ^ k % 2 := by push_cast; rfl
  have h3 : (((m % 2 ^ n / 2 ^ k % 2 : Nat)) : Int) = ((m % 2 ^ n : Nat) : Int) / 2 ^ k % 2 := by push_cast; rfl
  rw [← h2, ← h3, h1]
theorem bits_mod (m n : Nat) : bitsOf (m : Int) n = bitsOf ((m % 2 ^ n : Nat) : Int) n := by
  unfold bitsOf
  refine List.map_congr_left fun k hk => ?_
  rw [bit_mod m (List.mem_range.mp hk)]
theorem bits_add (i n : Nat) : bitsOf ((2 ^ n + i : Nat) : Int) n = bitsOf (i : Int) n := by
  rw [bits_mod (2 ^ n + i), bits_mod i, Nat.add_mod_left]
theorem allRows_get : ∀ (n i : Nat), i < 2 ^ n → (allRows n)[i]? = some (bitsOf (i : Int) n)
  | 0, i, h => by
    have : i = 0 := by simpa using h
    subst this
    rfl
  | n + 1, i, h => by
    show ((allRows n).map (· ++ [false]) ++ (allRows n).map (· ++ [true]))[i]? = _
    have hl : ((allRows n).map (· ++ [false])).length = 2 ^ n := by rw [List.length_map, allRows_len]
    have hp : 2 ^ (n + 1) = 2 ^ n + 2 ^ n := by rw [Nat.pow_succ]; lia
    rw [bits_succ]
    by_cases c : i < 2 ^ n
    · rw [List.getElem?_append_left (by lia), List.getElem?_map, allRows_get n i c]
      have e : ((i : Int) / 2 ^ n % 2) = 0 := by
        have : i / 2 ^ n = 0 := Nat.div_eq_of_lt c
        have h2 : ((i / 2 ^ n : Nat) : Int) = (i : Int) / 2 ^ n := by push_cast; rfl
        rw [← h2, this]; rfl
      rw [e]
      rfl
    · obtain ⟨j, rfl⟩ : ∃ j, i = 2 ^ n + j := ⟨i - 2 ^ n, by lia⟩
      rw [List.getElem?_append_right (by lia), hl, Nat.add_sub_cancel_left, List.getElem?_map, allRows_get n j (by lia), bits_add]
      have e : (((2 ^ n + j : Nat) : Int) / 2 ^ n % 2) = 1 := by
        have : (2 ^ n + j) / 2 ^ n = 1 := by
          rw [Nat.add_div_left _ (Nat.two_pow_pos n), Nat.div_eq_of_lt (by lia)]
        have h2 : (((2 ^ n + j) / 2 ^ n : Nat) : Int) = ((2 ^ n + j : Nat) : Int) / 2 ^ n := by push_cast; rfl
        rw [← h2, this]; rfl
      rw [e]
      rfl
theorem allRows_eq (n : Nat) : allRows n = (List.range (2 ^ n)).map fun (i : Nat) => bitsOf (i : Int) n := by
  refine List.ext_getElem? fun i => ?_
  by_cases h : i < 2 ^ n
  · rw [allRows_get n i h, List.getElem?_map, List.getElem?_range h]; rfl
  · rw [List.getElem?_eq_none (by rw [allRows_len]; lia), List.getElem?_eq_none (by simp; lia)]
noncomputable def RowsAt (H : Hp) (bss : List (List Bool)) (us : List V) : Prop := us.length = bss.length ∧ ∀ (i : Nat) (v : V), us[i]? = some v → ∃ bs a, bss[i]? = some bs ∧ v = .ref a ∧ BAt H a bs
theorem RowsAt.mono {H H' : Hp} {bss : List (List Bool)} {us : List V} (h : RowsAt H bss us) (t : TupLe H H') : RowsAt H' bss us := ⟨h.1, fun i v e => let ⟨bs, a, e1, e2, e3⟩ := h.2 i v e; ⟨bs, a, e1, e2, t _ _ e3⟩⟩
theorem RowsAt.append {H : Hp} {b1 b2 : List (List Bool)} {u1 u2 : List V} (h1 : RowsAt H b1 u1) (h2 : RowsAt H b2 u2) : RowsAt H (b1 ++ b2) (u1 ++ u2) := by
  refine ⟨by rw [List.length_append, List.length_append, h1.1, h2.1], fun i v e => ?_⟩
  by_cases c : i < u1.length
  · rw [List.getElem?_append_left c] at e
    obtain ⟨bs, a, e1, e2, e3⟩ := h1.2 i v e
    exact ⟨bs, a, by rw [List.getElem?_append_left (by rw [← h1.1]; exact c)]; exact e1, e2, e3⟩
  · rw [List.getElem?_append_right (by lia)] at e
    obtain ⟨bs, a, e1, e2, e3⟩ := h2.2 _ v e
    exact ⟨bs, a, by rw [List.getElem?_append_right (by rw [← h1.1]; lia), ← h1.1]; exact e1, e2, e3⟩
inductive I_spAllRows (vs : List V) (H : Hp) (Q : VK) : Prop
  | mk : ∀ n : Nat, (vs = [.int n]) → (n ≤ 6) → (∀ D us H', Same H H' → H' D = some (.lst us) → RowsAt H' (allRows n) us → Q (.ref D) H') → I_spAllRows vs H Q
noncomputable def spAllRows : Sp := fun vs H Q _ => I_spAllRows vs H Q
noncomputable def differ (w1 w2 : Wd) (st pr : List Bool) : Option (List Bool × List Bool) := if w1.worth st pr = w2.worth st pr then none else some (st, pr)
noncomputable def diff1 (w1 w2 : Wd) (R : Nat) (pr : List Bool) : Option (List Bool × List Bool) := (allRows R).findSome? fun st => differ w1 w2 st pr
noncomputable def diffs (w1 w2 : Wd) (R B : Nat) : Option (List Bool × List Bool) := (allRows B).findSome? fun pr => diff1 w1 w2 R pr
noncomputable def numDiff (w1 w2 : Wd) (R B m : Nat) : Option (List Bool × List Bool) := differ w1 w2 (bitsOf (m : Int) R) (bitsOf ((m : Int) / 2 ^ R) B)
noncomputable def ToldAt (H : Hp) (o : Option (List Bool × List Bool)) (v : V) : Prop := match o with
  | none => v = .non
  | some (st, pr) => ∃ p a b, v = .ref p ∧ H p = some (.tup [.ref a, .ref b]) ∧ BAt H a st ∧ BAt H b pr
inductive I_spUnlike (n : Nat) (vs : List V) (H : Hp) (Q : VK) : Prop
  | mk : ∀ (v1 v2 : V) (w1 w2 : Wd) (R B : Nat), (vs = [v1, v2, .int R, .int B]) → (WAt H w1 v1) → (WAt H w2 v2) → (R ≤ 6) → (B ≤ 6) → (w1.ok R B) → (w2.ok R B) → (w1.depth ≤ n) → (w2.depth ≤ n) → (∀ v H', Same H H' → ToldAt H' (diffs w1 w2 R B) v → Q v H') → I_spUnlike n vs H Q
noncomputable def spUnlike (n : Nat) : Sp := fun vs H Q _ => I_spUnlike n vs H Q
end RR
namespace RR
open PySem L2
inductive I_spIsStand (vs : List V) (H : Hp) (Q : VK) : Prop
  | mk : ∀ (a : Addr) (bs : List Bool) (n : Nat), (vs = [.ref a, .int n]) → (BAt H a bs) → (bs.length = n) → (n ≤ 63) → (∀ H', Same H H' → Q (.bl true) H') → I_spIsStand vs H Q
noncomputable def spIsStand : Sp := fun vs H Q _ => I_spIsStand vs H Q
noncomputable def turned (w : Wd) (c : Int) : Wd :=
  if c % 5 = 0 then .nt (.nt w) else if c % 5 = 1 then .or w (.an w .off) else match w with
    | .an a b => .nt (.or (.nt a) (.nt b))
    | .or a b => .or b a
    | w => .an .on w
inductive I_spTurned (vs : List V) (H : Hp) (Q : VK) : Prop
  | mk : ∀ (v : V) (wd : Wd) (c : Int), (vs = [v, .int c]) → (WAt H wd v) → (∀ v' H', Same H H' → WAt H' (turned wd c) v' → Q v' H') → I_spTurned vs H Q
noncomputable def spTurned : Sp := fun vs H Q _ => I_spTurned vs H Q
end RR


end
section
set_option Elab.async false
set_option linter.all false
set_option maxRecDepth 100000
set_option maxHeartbeats 1000000
namespace L2
open PySem PySem.Spec PyProof.Rows
open PySem.W (hideAll of_hideAll hideAll_get hideAll_none funFrames_hide)

noncomputable def CXr (P : Program) (w : World) : CXT := fun outer H s E e s' => ∃ (a C t : Addr) (H' : Hp) (B : Heap), e = .ref a ∧ Heap.FlyingW B outer a (.ref C) (.ref t) s'.heap ∧ s'.os = s.os ∧ AllBare s'.gens ∧
  Un (frs outer) [] H H' s.heap s'.heap ∧ HOk P w H' s'.heap ∧ (∀ b o, H' b = some o → ∀ u, s'.heap.get? b = some u → B.get? b = some u) ∧
  (∀ b o, s.heap.get? b = some o → H b = none → b ∉ frs outer → B.get? b = some o) ∧ (∀ b o, s.heap.get? b = some o → b ∉ frs outer → ∃ o', B.get? b = some o') ∧ H' a = none ∧ E (.ref C) none H'

theorem frame_data {h base : Heap} {l : List Env} (F : h.FunFrames base l) {b : Addr} (hb : b ∈ frs l) : ∃ o, h.get? b = some o ∧ ∀ vs, o.data ≠ .fields vs := by
  obtain ⟨_, o, ho, hd⟩ := F.mem hb
  exact ⟨o, ho, hd⟩
theorem hok_there {P : Program} {w : World} {H : Hp} {h : Heap} (ok : HOk P w H h) {b : Addr} {o : HO} (e : H b = some o) : ∃ u, h.get? b = some u := by
  have := (ok b o e).lt
  cases q : h.get? b with
  | some u => exact ⟨u, rfl⟩
  | none =>
    exfalso
    have z := ok b o e
    cases o with
    | lst xs => obtain ⟨_, _, _, _, e⟩ := z; rw [q] at e; cases e
    | tup xs => obtain ⟨_, _, _, p⟩ := z; obtain ⟨o, e, _⟩ := p; rw [q] at e; cases e
    | dK kvs => obtain ⟨_, _, _, _, o, _, _, e, _⟩ := z; rw [q] at e; cases e
    | dT kvs => obtain ⟨_, _, _, _, o, _, _, e, _⟩ := z; rw [q] at e; cases e
    | set S n => obtain ⟨o, _, _, _, e, _⟩ := z; rw [q] at e; cases e
    | ins C dx fs => obtain ⟨_, _, _, e, _⟩ := z; rw [q] at e; cases e
    | own x => obtain ⟨o, e⟩ := z; rw [q] at e; cases e
    | xd fs => obtain ⟨m, n, _⟩ := z; obtain ⟨o, _, _, e, _⟩ := n.ns; rw [q] at e; cases e
    | met f x => have z : h.get? b = _ := z; rw [q] at z; cases z
    | rng lo hi => obtain ⟨_, _, _, e⟩ := z; rw [q] at e; cases e
    | frz o u => obtain ⟨e, _⟩ := z; rw [q] at e; cases e
    | tbl ps => have z : h.get? b = _ := z; rw [q] at z; cases z
    | ext φ => obtain ⟨_, ⟨o, e⟩, _⟩ := z; rw [q] at e; cases e
theorem hok_stay {P : Program} {w : World} {H : Hp} {h h' : Heap} (ok : HOk P w H h) (k : ∀ b o, H b = some o → ∀ u, h.get? b = some u → h'.get? b = some u) : HOk P w H h' := fun b o e =>
  (ok b o e).stay (fun c v hc q => by
    rcases hc with rfl | hc
    · exact k c o e v q
    · exact k c _ hc v q) (fun _ q => q) fun _ _ q => q

section
variable {P : Program} {w : World} {K : PySem.W.Frag} {mg : Str → Option Value} {base : Heap} {N : List Str} {qual : Str} {scope : Scope} {f : Addr} {cd : Value} {A : Around} {outer : List Env} {s0 : Shared} {H0 : Hp} {E : XK}

theorem un_slots {fs : List Addr} {H : Hp} {h h' : Heap} (keep : ∀ b o, h.get? b = some o → H b = none → b ∉ fs → h'.get? b = some o) (slot : ∀ b o, h.get? b = some o → b ∈ fs → ∃ sl, h'.get? b = some { o with slots := sl })
    (trk : ∀ b o, H b = some o → ∀ u, h.get? b = some u → h'.get? b = some u) : Un fs [] H H h h' where
  keep := fun b o e n hb _ => keep b o e n hb
  slot := fun b o e n hb _ => slot b o e hb
  free := fun _ _ _ n _ => n
  there := fun b o e _ => by
    by_cases hb : b ∈ fs
    · obtain ⟨sl, q⟩ := slot b o e hb; exact ⟨_, q⟩
    · cases q : H b with
      | none => exact ⟨o, keep b o e q hb⟩
      | some u => exact ⟨o, trk b u q o e⟩
  tups := fun _ _ q => q
  frzs := fun _ _ _ q => q
  tbls := fun b ps q => ⟨#[], by rw [q]; simp⟩

theorem made_leaves {pins : List (Addr × Obj)} {σ : St} {H : Hp} {s : Shared} {h' : Heap} {e C : Addr} {vs : List Value} (I : Inv (cxOf (CXr P w) P w K mg base N qual scope f cd A outer s0 H0 E) pins σ H s)
    (hx : Heap.MadeExcOf s.heap h' e (.ref C) vs) (hE : E (.ref C) none H) : (cxOf (CXr P w) P w K mg base N qual scope f cd A outer s0 H0 E).xe (.ref e) { s with heap := h' } := by
  have fr : (cxOf (CXr P w) P w K mg base N qual scope f cd A outer s0 H0 E).stack = envOfC qual scope s0.heap.objs.size f cd :: outer := rfl
  have FF := I.stack
  rw [fr] at FF
  have hin : ∀ env ∈ (envOfC qual scope s0.heap.objs.size f cd :: outer), ∀ b, env.frame = some b → b ∈ frs (envOfC qual scope s0.heap.objs.size f cd :: outer) := fun env he b hb => List.mem_filterMap.mpr ⟨env, he, hb⟩
  show wpAny (model P w) (A.deeper (envOfC qual scope s0.heap.objs.size f cd)) (leaving (envOfC qual scope s0.heap.objs.size f cd) (.ref e)) _ _ _
  refine wpAny_leaves_madeW (base := hideAll s.heap (frs (envOfC qual scope s0.heap.objs.size f cd :: outer))) (h := s.heap) I.ok.frames rfl (fun b o q => of_hideAll _ q) (funFrames_hide FF hin) hx fun h'' t x1 x2 x3 x4 => ?_
  have sub : ∀ b, b ∈ frs outer → b ∈ frs (envOfC qual scope s0.heap.objs.size f cd :: outer) := fun b hb => by
    unfold frs at hb ⊢
    rw [List.filterMap_cons]
    split
    · exact hb
    · exact List.mem_cons_of_mem _ hb
  have old : ∀ b o, s.heap.get? b = some o → b ∉ frs (envOfC qual scope s0.heap.objs.size f cd :: outer) → (hideAll s.heap (frs (envOfC qual scope s0.heap.objs.size f cd :: outer))).get? b = some o := fun b o q hb => hideAll_get _ q hb
  have notfr : ∀ b o, H b = some o → b ∉ frs (envOfC qual scope s0.heap.objs.size f cd :: outer) := fun b o q hb => by rw [I.stkFree b hb] at q; cases q
  have slots : ∀ b o, s.heap.get? b = some o → b ∈ frs (envOfC qual scope s0.heap.objs.size f cd :: outer) → ∃ sl, h''.get? b = some { o with slots := sl } := fun b o q hb => by
    obtain ⟨o', ho', hd⟩ := frame_data FF hb
    rw [q] at ho'; cases ho'
    exact x4 b o (hx.keeps b o q) hd
  have inL : ∀ b, b ∈ frs (envOfC qual scope s0.heap.objs.size f cd :: outer) → b = s0.heap.objs.size ∨ b ∈ frs outer := fun b hb => by
    rcases List.mem_cons.mp (I.stkSub b hb) with z | z
    · exact .inl z
    · exact .inr z
  have un2 : Un (frs (envOfC qual scope s0.heap.objs.size f cd :: outer)) [] H H s.heap h'' := un_slots (fun b o q _ hb => x1.1 b o (old b o q hb)) slots (fun b o q u hu => x1.1 b u (old b u hu (notfr b o q)))
  have un1 : Un (frs outer) [] H0 H s0.heap s.heap := I.base
  have below : ∀ b o, s0.heap.get? b = some o → b ≠ s0.heap.objs.size := fun b o q => Nat.ne_of_lt (Heap.lt_size q)
  have oldN : ∀ b o, s0.heap.get? b = some o → b ∉ frs outer → b ∉ frs (envOfC qual scope s0.heap.objs.size f cd :: outer) := fun b o q hb hm => (inL b hm).elim (below b o q) hb
  refine ⟨e, C, t, H, _, rfl, x1, I.os, I.bare, ?_, hok_stay I.hok (fun b o q u hu => x1.1 b u (old b u hu (notfr b o q))), fun b o q u hu => ?_, fun b o q n hb => ?_, fun b o q hb => ?_, ?_, hE⟩
  · refine ⟨fun b o q n hb _ => un2.keep b o (un1.keep b o q n hb (by simp)) (un1.free b o q n (by simp)) (oldN b o q hb) (by simp), fun b o q n hb _ => ?_, fun b o q n _ => un1.free b o q n (by simp), fun b o q _ => ?_, un1.tups, un1.frzs, un1.tbls⟩
    · obtain ⟨sl, q1⟩ := un1.slot b o q n hb (by simp)
      obtain ⟨sl', q2⟩ := un2.slot b _ q1 (un1.free b o q n (by simp)) (sub b hb) (by simp)
      exact ⟨sl', q2⟩
    · obtain ⟨o', q1⟩ := un1.there b o q (by simp)
      exact un2.there b o' q1 (by simp)
  · obtain ⟨v, hv⟩ := hok_there I.hok q
    have z := old b v hv (notfr b o q)
    have z2 := x1.1 b v z
    have hu' : h''.get? b = some u := hu
    rw [z2] at hu'; cases hu'
    exact z
  · exact old b o (un1.keep b o q n hb (by simp)) (oldN b o q hb)
  · obtain ⟨o', q1⟩ := un1.there b o q (by simp)
    exact ⟨o', old b o' q1 (oldN b o q hb)⟩
  · cases q : H e with
    | none => rfl
    | some o =>
      obtain ⟨v, hv⟩ := hok_there I.hok q
      rw [hx.new] at hv; cases hv

end
end L2


end
section
set_option Elab.async false
set_option linter.all false
set_option maxRecDepth 100000
set_option maxHeartbeats 2000000
namespace L2
open PySem PySem.W PySem.Spec PySem.Calls PyProof.Rows
open PySem.Builtin.ObjectAttr
open PySem.Builtin PySem.Builtin.Getset_descriptor
section
variable {K : Frag} {M : Model} {h : Heap} {x C : Addr} {name : Str} {a g : Value}
theorem looks_data (X : K.In h) (ha : findIn K (.ref C) name = some (some a)) (hg : specialIn K a "__get__" = some (some g)) (hd : takesIn K a = some true) : Looks M h (find (.ref x) (.ref C) name) (.bind g a) := by
  have l3 : Looks M h (dataDescriptor? (some a) (some g)) (some (g, a)) := (looks_takesIn (M := M) X hd).andThen .now
  exact (looks_findIn (M := M) X ha).andThen ((looks_specialIn X hg).andThen (l3.andThen (Looks.tag .now)))
end
section
variable {prog : Program} {w : World} {A : Around} {E : Value → Shared → Prop} {s : Shared} {K : Frag} {x C : Addr} {ox : Obj} {R : Result → Shared → Prop}
theorem looks_ty {M : Model} {h : Heap} (hx : h.get? x = some ox) (hc : ox.cls = .ref C) : Looks M h (typeOf (.ref x)) (.ref C) := hc ▸ (Looks.ld hx).andThen .now
theorem exc_class_get {tp : Value} (X : K.In s.heap) (hx : s.heap.get? x = some ox) (hc : ox.cls = .ref C) (hm : mroIn K C (.type "object") = some true) (q : R (.ok (.ret (.ref C))) s) :
    codeAny (model prog w) A (.call (.builtin "getset_descriptor.__get__") ⟨[.builtin "object.__class__", .ref x, tp], []⟩) R s := by
  obtain ⟨hh, g, dr, t, os⟩ := s
  have l0 := looks_ty (M := model prog w) hx hc
  have l1 := looks_mroIn (M := model prog w) X hm
  refine codeAny_call_builtin KF.slot_gs.plain KF.entry_gs
    (KF.slot_gs.check _ _ _ _ _ _ _ _ KF.type_class (KF.args_gs _ _ _) ?_)
  unfold Builtin.«getset_descriptor.__get__» descrGet
  rw [dga_obj]
  refine wpAny_bind (wpAny_pure ?_)
  unfold descrGetter descrCheckInstance descrNameAndClass isInstance
  simp only [KF.owner_class]
  repeat lk
  refine ⟨Code.quiet_builtin _ (by decide +kernel), codeAny_builtin
    KF.entry_class ?_⟩
  unfold Builtin.«object.__class__» shownTypeOf
  repeat lk
  exact q
structure ExcGet (K : Frag) (C : Addr) : Prop where
  ga : findIn K (.ref C) "__getattribute__" = some (some (.builtin "BaseException.__getattribute__"))
  gt : findIn K (.ref C) "__getattr__" = some none
  cl : findIn K (.ref C) "__class__" = some (some (.builtin "object.__class__"))
  gg : specialIn K (.builtin "object.__class__") "__get__" = some (some (.builtin "getset_descriptor.__get__"))
  tk : takesIn K (.builtin "object.__class__") = some true
  ob : mroIn K C (.type "object") = some true
  be : mroIn K C (.type "BaseException") = some true
theorem ga_bind (self : Value) : bindSpecial (.builtin "BaseException.__getattribute__") self = pure (.builtin "BaseException.__getattribute__", [self]) := PySem.F.excAttr_ValueError.ga.bind self
theorem exc_class {Q : Option Value → Shared → Prop} (X : K.In s.heap) (hx : s.heap.get? x = some ox) (hc : ox.cls = .ref C) (G : ExcGet K C) (q : Q (some (.ref C)) { s with toks := s.toks + 1 }) :
    wpAny (model prog w) A (getAttr? (.ref x) "__class__") Q E s := by
  obtain ⟨hh, g, d, t, os⟩ := s
  have l0 := looks_ty (M := model prog w) hx hc
  have l1 := looks_findIn (M := model prog w) X G.ga
  have l2 := looks_findIn (M := model prog w) X G.gt
  have l3 := looks_data (M := model prog w) (x := x) X G.cl G.gg G.tk
  have l4 := looks_mroIn (M := model prog w) X G.be
  unfold getAttr? getAttrBy? getAttrBy
  refine wpAny_bind (wpAny_mkText (wpAny_bind (wpAny_attempt (wpAny_holding (wpAny_bind (l0.at (wpAny_bind (l1.at ?_))))))))
  show wpAny _ _ (getAttrByItsOwn _ _ _ _ _ _) _ _ _
  unfold getAttrByItsOwn hookBefore
  refine wpAny_bind (l2.at ?_)
  show wpAny _ _ (do
    match ← (holding [] (boundAndCalled (.builtin "BaseException.__getattribute__") (.ref x) _)).attempt with
    | .ok v => handedOut v
    | .error e => getattributeRaised _ _ _ e none _ _) _ _ _
  refine wpAny_bind (wpAny_attempt (wpAny_holding ?_))
  unfold boundAndCalled
  rw [ga_bind]
  refine wpAny_bind (wpAny_pure ?_)
  refine wpAny_call (codeAny_call_builtin PySem.F.excAttr_ValueError.ga.plain F.entry_bexc_ga ?_)
  have hk : builtinKind "BaseException.__getattribute__" = some .slot := by decide +kernel
  have hsp : splitId "BaseException.__getattribute__" = some ("BaseException", "__getattribute__") := by decide +kernel
  have hao := F.args_bexc_ga (.ref x) (.str "__class__" t)
  simp only [checkBuiltinCall, hk, hsp]
  dsimp only [List.cons_append, List.nil_append]
  unfold isInstance
  refine wpAny_bind (wpAny_bind (l0.at (l4.at ?_)))
  simp only [Bool.not_true, Bool.false_eq_true, if_false]
  repeat (first | assumption | wp_step)
  rw [hc]
  have l5 := looks_findIn (M := model prog w) X G.cl
  have l6 : Looks (model prog w) hh (getOf (some (.builtin "object.__class__"))) _ := looks_specialIn X G.gg
  have l7 : Looks (model prog w) hh (dataDescriptor? (some (.builtin "object.__class__")) (some (.builtin "getset_descriptor.__get__"))) (some (.builtin "getset_descriptor.__get__", .builtin "object.__class__")) := (looks_takesIn (M := model prog w) X G.tk).andThen .now
  refine l5.at (wpAny_bind (l6.at (wpAny_bind (l7.at ?_))))
  refine wpAny_bind (wpAny_rule (wpAny_pure ?_))
  show wpAny _ _ (bindTo (.builtin "getset_descriptor.__get__") (.builtin "object.__class__") (.ref x) (.ref C)) _ _ _
  unfold bindTo
  show wpAny _ _ (do ret (← holding [_] (call _ [_, .ref x, .ref C]))) _ _ _
  refine wpAny_bind (wpAny_holding (wpAny_call (exc_class_get X hx hc G.ob ?_)))
  refine wpAny_pure ?_
  exact handed_on rfl (wpAny_pure q)
end
end L2


end
section
set_option Elab.async false
set_option linter.all false
set_option maxRecDepth 100000
set_option maxHeartbeats 2000000
namespace L2
open PySem PySem.W PySem.Spec PySem.Calls PyProof.Rows
noncomputable def exφ (a C : Addr) : Heap → Prop := fun h => ∃ o, h.get? a = some o ∧ o.cls = .ref C
noncomputable abbrev ExcO (a C : Addr) : HO := .ext (exφ a C)
section
variable {K : Frag} {x C : Addr}
theorem kitx_exc (G : ExcGet K C) : KitX K (.ref x) (.ref C) (exφ x C) where
  ty := fun M h _ p => let ⟨_, e, c⟩ := p; looks_ty e c
  it := fun M h X _ => by
    obtain ⟨cd, hc, _⟩ := Option.bind_eq_some_iff.mp G.ob
    unfold clsIn at hc
    split at hc
    · rename_i ho
      intro A' Q' E' s' k q
      unfold isType loadHead
      exact wpAny_bind (wpAny_loadPart (k _ _ (X _ _ ho)) (wpAny_pure q))
    · cases hc
  ne := fun h tp dd its n sl X htp => by
    obtain ⟨cd, hc, _⟩ := Option.bind_eq_some_iff.mp G.ob
    refine Bool.eq_false_iff.mpr fun q => ?_
    have e : C = tp := Value.ref.inj (beq_iff_eq.mp q)
    subst e
    unfold clsIn at hc
    split at hc
    · rename_i ho
      have z := (X _ _ ho).symm.trans htp
      cases z
    · cases hc
  ca := fun X p k => let ⟨_, e, c⟩ := p; exc_class X e c G k
end
noncomputable def clsV : V → Option Value
  | .ref D => some (.ref D)
  | .ty n => some (.type n)
  | _ => none
section
variable {X : Cx}
inductive I_rIsX (K : Frag) (xs : List V) (H : Hp) (Q : VK) : Prop
  | mk : ∀ a C c cv b, (xs = [.ref a, c]) → (H a = some (ExcO a C)) → (ExcGet K C) → (clsV c = some cv) → (kitOne K (.ref C) cv = some b) → (Q (.bl b) H) → I_rIsX K xs H Q
noncomputable def rIsX (K : Frag) : List V → Hp → VK → Prop := fun xs H Q => I_rIsX K xs H Q
theorem call_isexc {K : Frag} (hK : X.K = K) : CallR X (.builtin "isinstance") (rIsX K) := by
  subst hK
  intro pins s σ H xs us Q I r q
  obtain ⟨a, C, c, cv, b, rfl, e, G, ec, ek, q⟩ := q
  obtain ⟨u, v, rfl, r1, r2⟩ := r.two
  cases r1
  have ev : v = cv := by
    cases c with
    | ref D => cases r2; cases ec; rfl
    | ty n => cases r2; cases ec; rfl
    | _ => cases ec
  subst ev
  obtain ⟨p, _, _⟩ := (show ObjOk X.prog X.w H s.heap a (ExcO a C) from I.hok a _ e)
  exact kia_one (kitx_exc G) I.kIn p ek (fun z => nomatch z) fun tk => ⟨.bl b, H, I.tok tk, rfl, q⟩
end

section
variable {X : Cx} {pins : List (Addr × Obj)} {σ : St} {H : Hp} {s : Shared}
theorem Inv.track {a : Addr} {o : HO} (I : Inv X pins σ H s) (hn : H a = none) (h0 : X.s₀.heap.get? a = none) (hL : a ≠ X.env.locals) (hC : ∀ x c, X.env.cells.lookup x = some c → c ≠ a) (hp : ∀ p ∈ X.pn ++ pins, p.1 ≠ a)
    (new : ObjOk X.prog X.w (upd H a o) s.heap a o) : Inv X pins σ (upd H a o) s := by
  have ne : ∀ b u, H b = some u → b ≠ a := fun b u e z => by rw [z, hn] at e; cases e
  refine ⟨I.ok, I.os, I.bare, ⟨I.base.keep, I.base.slot, fun b u e n hx => ?_, I.base.there, fun b xs e => ?_, fun b u xs e => ?_, fun b ps e => ?_⟩, I.loc, I.cell, ?_, fun x c e => ?_, fun p q => ?_, fun b u e => ?_, I.len⟩
  · have hb : b ≠ a := fun z => by rw [z, h0] at e; cases e
    rw [upd_ne hb]
    exact I.base.free b u e n hx
  · have z := I.base.tups b xs e
    rw [upd_ne (ne _ _ z)]; exact z
  · have z := I.base.frzs b u xs e
    rw [upd_ne (ne _ _ z)]; exact z
  · obtain ⟨m, z⟩ := I.base.tbls b ps e
    exact ⟨m, by rw [upd_ne (ne _ _ z)]; exact z⟩
  · rw [upd_ne (Ne.symm hL)]; exact I.free
  · rw [upd_ne (hC x c e)]; exact I.freeC x c e
  · obtain ⟨z1, z2, z3, z4, z5⟩ := I.pin p q
    exact ⟨z1, by rw [upd_ne (hp p q)]; exact z2, z3, z4, z5⟩
  · by_cases hb : b = a
    · subst hb
      rw [upd_same] at e; cases e
      exact new
    · rw [upd_ne hb] at e
      exact (I.hok b u e).stay (fun c v _ q => q) (fun c q => by rw [upd_ne (ne _ _ q)]; exact q) fun c xs q => by rw [upd_ne (ne _ _ q)]; exact q
end

noncomputable def Cx.inExc (X : Cx) (a : Addr) : Cx := { X with A := X.A.mark (some (.ref a)), calm := false, xe := fun _ _ => False }
section
variable {X : Cx} {pins : List (Addr × Obj)} {σ : St} {H : Hp} {s : Shared} {a : Addr}
theorem Inv.inExc (I : Inv X pins σ H s) (a : Addr) : Inv (X.inExc a) pins σ H s :=
  ⟨⟨I.ok.mod, I.ok.kind, I.ok.glob, I.ok.blt, I.ok.above, I.ok.inj, I.ok.has, I.ok.cab, fun z => Bool.noConfusion (show false = true from z), I.ok.frames, I.ok.stk, I.ok.exf, I.ok.bs, I.ok.bsz, I.ok.noex, I.ok.exfs, I.ok.funs, I.ok.frf⟩, I.os, I.bare, I.base, I.loc, I.cell, I.free, I.freeC, I.pin, I.hok, I.len⟩
theorem Inv.outExc (ok : X.Ok) (I : Inv (X.inExc a) pins σ H s) : Inv X pins σ H s := ⟨ok, I.os, I.bare, I.base, I.loc, I.cell, I.free, I.freeC, I.pin, I.hok, I.len⟩
theorem Inv.nameGoes {h' : Heap} {tk : Nat} {n : Str} {j : Nat} {v : Option Value} (I : Inv X pins σ H s) (hN : X.N.Nodup) (hj : X.N[j]? = some n) (sb : Heap.SameBut X.env.locals s.heap h')
    (hn : ∀ m, s.heap.Ns X.env.locals m → h'.Ns X.env.locals (fun x => if x = n then v else m x)) (hl : X.env.scope.names.lookup n = some .local) : Inv X pins (σ.set j none) H { s with heap := h', toks := tk } := by
  have neL : ∀ b o, X.s₀.heap.get? b = some o → b ≠ X.env.locals := fun b o e => Nat.ne_of_lt (Nat.lt_of_lt_of_le (Heap.lt_size e) I.ok.above)
  obtain ⟨m, hm, hloc⟩ := id I.loc
  refine ⟨I.ok, I.os, I.bare, ⟨fun b o e n' hb hx => (sb.2 b (neL b o e)).trans (I.base.keep b o e n' hb hx), fun b o e n' hb hx => ?_, I.base.free, fun b o e hx => ?_, I.base.tups, I.base.frzs, I.base.tbls⟩,
    ⟨_, hn m hm, fun i y u e1 e2 e3 => ?_⟩, fun y c e => ?_, I.free, I.freeC, fun p hp => ?_, fun b u e => ?_, by simpa using I.len⟩
  · obtain ⟨sl, z⟩ := I.base.slot b o e n' hb hx
    exact ⟨sl, (sb.2 b (neL b o e)).trans z⟩
  · obtain ⟨o', z⟩ := I.base.there b o e hx
    exact ⟨o', (sb.2 b (neL b o e)).trans z⟩
  · have hji : i ≠ j := fun z => by
      subst z
      have hi : i < σ.length := by rw [I.len]; exact (List.getElem?_eq_some_iff.mp e1).1
      rw [List.getElem?_set_self hi] at e2
      cases e2
    rw [List.getElem?_set_ne (Ne.symm hji)] at e2
    obtain ⟨u', r, l⟩ := hloc i y u e1 e2 e3
    have hyn : y ≠ n := fun z => hji (nodup_ix hN e1 (z ▸ hj))
    refine ⟨u', r, ?_⟩
    rcases l with ⟨k, e⟩ | ⟨k, c, e, z⟩
    · exact .inl ⟨k, by simp [hyn, e]⟩
    · exact .inr ⟨k, c, e, z.sameBut sb (I.cne y c e)⟩
  · obtain ⟨u', z⟩ := I.cell y c e
    exact ⟨u', z.sameBut sb (I.cne y c e)⟩
  · obtain ⟨z1, z2, z3, z4, z5⟩ := I.pin p hp
    exact ⟨(sb.2 p.1 z3).trans z1, z2, z3, z4, z5⟩
  · refine (I.hok b u e).stay (fun c v' hc q => (sb.2 c ?_).trans q) (fun _ q => q) fun _ _ q => q
    rintro rfl
    rcases hc with rfl | hc
    · rw [I.free] at e; cases e
    · rw [I.free] at hc; cases hc
end

abbrev VErr : List Value := [.type "ValueError", .type "Exception", .type "BaseException", .type "object"]
structure ExcC (K : Frag) (mg : Str → Option Value) (x : Str) (C : Addr) : Prop where
  nm : mg x = some (.ref C)
  ex : excIn K C VErr "ValueError.__new__" = true
  get : ExcGet K C
theorem exc_obj {K : Frag} {h : Heap} {C : Addr} (X : K.In h) (q : excIn K C VErr "ValueError.__new__" = true) :
    ∃ bm N nm qn bs hdct sn sub ab col dd k0 k1 k2 k3 k5 mN, h.get? C = some (excClassObj nm qn C N bs bm hdct sn sub ab col dd k0 k1 k2 k3 k5 "ValueError.__new__") ∧ h.Ns N mN ∧ mN "__init__" = none ∧ OwnTail h VErr bm ∧
      ∀ v, mroIn K C v = some true → (Value.ref C :: bm).contains v = true := by
  unfold excIn at q
  split at q
  · rename_i dd cd sl look
    split at q
    · rename_i C' bm k0 k1 k2 k3 nw k5 hmro hsl
      simp only [Bool.and_eq_true, beq_iff_eq, Bool.not_eq_true'] at q
      obtain ⟨⟨⟨⟨⟨q1, q2⟩, q3⟩, q4⟩, q5⟩, q6⟩ := q
      subst q1 q2
      have hmr : ∀ v, mroIn K C' v = some true → (Value.ref C' :: bm).contains v = true := fun v hv => by
        unfold mroIn clsIn at hv
        rw [look] at hv
        simp only [Option.bind_some] at hv
        rw [hmro] at hv
        simpa using hv
      obtain ⟨nm, bs, mro, ns, qn, hd, sn, sub, ab, col, del⟩ := cd
      dsimp only at hmro q3 q5 q6
      subst hmro q3
      have es : sl = #[k0, k1, k2, k3, some (.builtin "ValueError.__new__"), k5] := by
        obtain ⟨l⟩ := sl
        simp only at hsl
        rw [hsl]
      subst es
      exact ⟨bm, ns, nm, qn, bs, hd, sn, sub, ab, col, dd, k0, k1, k2, k3, k5, _, X _ _ look, .of_isNs (isNs_of_in X q5),
        nsMap_none_of_in X q5 q6, tail_of_in X q4, hmr⟩
    · cases q
  · cases q

section
variable {P : Program} {w : World} {K : Frag} {mg : Str → Option Value} {base : Heap} {N : List Str} {qual : Str} {scope : Scope} {f : Addr} {cd : Value} {A : Around} {outer : List Env} {s0 : Shared} {H0 : Hp} {E : XK}
noncomputable def tRaise (C : Addr) (E : XK) (ta : TA) : TS := fun _ σ H => ta σ H fun vs H1 => vs.length ≤ sizeLine ∧ E (.ref C) none H1
theorem ps_raise {x : Str} {C : Addr} {e₀ : Expr} {rest : List Expr} {ta : TA} {np cpos pos : Pos} (hx : ExcC K mg x C) (hc : A.handled = none) (ha : PA (cxOf (CXr P w) P w K mg base N qual scope f cd A outer s0 H0 E) (e₀ :: rest) ta)
    (hg : Gl (cxOf (CXr P w) P w K mg base N qual scope f cd A outer s0 H0 E) x) (hd : (x == ("__debug__" : Str)) = false := by decide)
    (he : starEach (e₀ :: rest) (envOfC qual scope s0.heap.objs.size f cd) = (false, eval e₀ (envOfC qual scope s0.heap.objs.size f cd)) :: starEach rest (envOfC qual scope s0.heap.objs.size f cd) := by rfl)
    (hpl : (backTo cpos (starEach rest (envOfC qual scope s0.heap.objs.size f cd))).any (·.1) = false := by rfl) :
    PS (cxOf (CXr P w) P w K mg base N qual scope f cd A outer s0 H0 E) (.Raise (some (.Call (.Name x np) (e₀ :: rest) [] cpos)) none pos) (tRaise C E ta) := by
  intro pins s σ H D I h
  obtain ⟨tl, N', nm, q, bs, hdct, sn, sub, ab, col, dd, k0, k1, k2, k3, k5, mN, hC, hN', hni, T, _⟩ := exc_obj I.mod.kin hx.ex
  show wpAny (model P w) (A.deeper (envOfC qual scope s0.heap.objs.size f cd)) (exec _ (envOfC qual scope s0.heap.objs.size f cd)) _ _ s
  refine wpAny_Raise_call_subT (C := C) (nm := nm) (q := q) (N := N') (bs := bs) (bm := tl) (hdct := hdct) (sn := sn) (sub := sub) (ab := ab) (col := col) (dd := dd) (k0 := k0) (k1 := k1) (k2 := k2) (k3 := k3) (k5 := k5)
    PySem.F.excBase_ValueError (mN := mN) (T.hasType PySem.F.excBase_ValueError.hasBase) hc ?_ hni (ld_glob I hg hx.nm ⟨rfl, ?_⟩ hd)
  · rw [he]
    show (false || (backTo cpos (starEach rest (envOfC qual scope s0.heap.objs.size f cd))).any (·.1)) = false
    rw [hpl]; rfl
  have h2 := ha cpos pins s σ H _ I h
  have he2 : starEach (e₀ :: rest) (cxOf (CXr P w) P w K mg base N qual scope f cd A outer s0 H0 E).env = starEach (e₀ :: rest) (envOfC qual scope s0.heap.objs.size f cd) := rfl
  rw [he2] at h2
  rw [he] at h2 ⊢
  refine Calls.evalArgs_plain (wpAny_mono h2 (fun us s₂ h₂ => ?_) fun _ _ y => y)
  obtain ⟨vs, H1, I1, r, hl, hE⟩ := h₂
  exact ⟨rfl, by rw [← r.length]; exact hl, I1.bk _ _ hC, hN'.keeps I1.bk, T.keeps I1.bk, fun h' e hm => made_leaves I1 hm hE⟩
end
end L2


end
section
set_option Elab.async false
set_option linter.all false
set_option maxRecDepth 100000
set_option maxHeartbeats 2000000
namespace L2
open PySem PySem.W PySem.Spec PySem.Calls PyProof.Rows
theorem ns_uniq {h : Heap} {a : Addr} {m m' : Str → Option Value} (x : h.Ns a m) (y : h.Ns a m') : m = m' := by
  obtain ⟨o, es, ep, e, d, _, q⟩ := x
  obtain ⟨o', es', ep', e', d', _, q'⟩ := y
  rw [e] at e'; cases e'
  rw [d] at d'; cases d'
  funext z
  rw [← q z, ← q' z]
theorem exc_matches {M : Model} {A : Around} {E : Value → Shared → Prop} {K : Frag} {s : Shared} {e C D : Addr} {oe : Obj} {Q : Bool → Shared → Prop} (X : K.In s.heap) (hC : excIn K C VErr "ValueError.__new__" = true) (hD : excIn K D VErr "ValueError.__new__" = true)
    (hb : mroIn K D (.type "BaseException") = some true) (hm : mroIn K C (.ref D) = some true) (he : s.heap.get? e = some oe) (hcls : oe.cls = .ref C) (q : Q true s) : wpAny M A (excMatches (.ref e) (.ref D)) Q E s := by
  obtain ⟨h, g, d, t, os⟩ := s
  obtain ⟨bm, N, nm, qn, bs, hdct, sn, sub, ab, col, dd, k0, k1, k2, k3, k5, mN, oC, _, _, _, mC⟩ := exc_obj X hC
  obtain ⟨bm', N', nm', qn', bs', hdct', sn', sub', ab', col', dd', k0', k1', k2', k3', k5', mN', oD, _, _, _, mD⟩ := exc_obj X hD
  have c1 := mC _ hm
  have c2 := mD _ hb
  have f0 := tc_notTuple
  unfold excMatches
  repeat (first | (with_reducible refine wpAny_loadPart_at he ?_; rw [hcls]) | with_reducible refine wpAny_loadPart_at oD ?_ | (with_reducible refine wpAny_isSubtype_exc oD ?_; rw [c2]) | (with_reducible refine wpAny_isSubtype_exc oC ?_; rw [c1]) | wp_step)
  exact q

noncomputable def EXtry (K : Frag) (Cr : Addr) (j : Nat) (th : TS) (D : Ends) (σ : St) : XK := fun C _ H' => ∃ Ca, C = .ref Ca ∧ excIn K Ca VErr "ValueError.__new__" = true ∧ mroIn K Ca (.ref Cr) = some true ∧
  ∀ a, H' a = none → th { nx := fun σ' H'' => D.nx (σ'.set j none) H'', rt := D.rt, bk := fun σ' H'' => D.bk (σ'.set j none) H'', ct := fun σ' H'' => D.ct (σ'.set j none) H'' } (σ.set j (some (.ref a))) (upd H' a (ExcO a Ca))

section
variable {X : Cx} {pins : List (Addr × Obj)} {σ : St} {H : Hp} {s s' : Shared} {D : Ends} {Cr : Addr} {j : Nat} {th : TS} {e : Value} {xr n : Str} {rp hpos : Pos} {b₀ : Stmt} {suite : List Stmt} {fx fy : Str}

theorem caught (I : Inv X pins σ H s) (hc : X.calm = true) (hst : X.stack = X.env :: X.outer) (hfr : X.env.frame = some X.env.locals) (hex : X.ex = [])
    (hN : X.N.Nodup) (hj : X.N[j]? = some n) (hn : X.env.scope.names.lookup n = some .local) (hR : ExcC X.K X.mg xr Cr) (hg : Gl X xr) (hs : ∀ a, PSs (X.inExc a) (b₀ :: suite) th)
    (hx : CXr X.prog X.w X.stack H s (EXtry X.K Cr j th D σ) e s') (hd : (xr == ("__debug__" : Str)) = false := by decide) :
    wpAny (model X.prog X.w) X.A (noteFrame e X.env) (fun _ s₂ => wpAny (model X.prog X.w) X.A (setFlight e none) (fun _ s₃ =>
      wpAny (model X.prog X.w) X.A (handleBy e X.env [.ExceptHandler (some (.Name xr rp)) (some n) (b₀ :: suite) hpos]) (SP X pins D) X.xe s₃) X.xe s₂) X.xe s' := by
  obtain ⟨a, C, t, H', B, rfl, fl, os, bare, un, ok, kB, kO, kT, hna, Ca, eC, ex, hm, hth⟩ := hx
  cases eC
  have frs' : X.A.frames = some (X.env :: X.outer) := by rw [← hst]; exact I.ok.frames
  have FF := fl.2.2.1
  rw [hst] at fl
  refine wpAny_looks_onW frs' hfr fl fun h₄ held₄ sm₄ => ?_
  refine wpAny_landsW held₄ fun h₅ fl₅ sm₅ => ?_
  have at_ : ∀ h₅, Heap.FlyingW B (X.env :: X.outer) a (.ref C) (.ref t) h₅ → s'.heap.UpToSlots h₅ → Inv X pins σ H' { s' with heap := h₅ } := fun h₅ f5 sm => by
    have un5 : Un (frs X.stack) [] H H' s.heap h₅ := by
      refine ⟨fun b o q n' hb _ => f5.1 b o (kO b o q n' hb), fun b o q n' hb _ => ?_, un.free, fun b o q _ => ?_, un.tups, un.frzs, un.tbls⟩
      · obtain ⟨sl, q1⟩ := un.slot b o q n' hb (by simp)
        obtain ⟨o', ho', hd'⟩ := frame_data FF hb
        rw [q1] at ho'; cases ho'
        obtain ⟨sl', q2⟩ := sm b _ q1 hd'
        exact ⟨sl', q2⟩
      · by_cases hb : b ∈ frs X.stack
        · obtain ⟨o1, q1⟩ := un.there b o q (by simp)
          obtain ⟨o', ho', hd'⟩ := frame_data FF hb
          rw [q1] at ho'; cases ho'
          obtain ⟨sl', q2⟩ := sm b _ q1 hd'
          exact ⟨_, q2⟩
        · obtain ⟨o1, q1⟩ := kT b o q hb
          exact ⟨o1, f5.1 b o1 q1⟩
    exact I.call' (s' := { s' with heap := h₅ }) (ch := []) os un5 (hok_stay ok fun b o q u hu => f5.1 b u (kB b o q u hu)) bare (fun b z => absurd z (by simp))
  have young : s.heap.get? a = none := by
    cases q : s.heap.get? a with
    | none => rfl
    | some o =>
      exfalso
      by_cases hb : a ∈ frs X.stack
      · obtain ⟨o', ho', hd'⟩ := frame_data FF hb
        obtain ⟨oe, ws, he, _, hdat, _⟩ := fl.first
        rw [he] at ho'; cases ho'
        exact hd' _ hdat
      · obtain ⟨o1, q1⟩ := kT a o q hb
        rw [fl.2.1] at q1; cases q1
  have young0 : X.s₀.heap.get? a = none := by
    cases q : X.s₀.heap.get? a with
    | none => rfl
    | some o =>
      obtain ⟨o', q'⟩ := I.base.there a o q (by rw [hex]; simp)
      rw [young] at q'; cases q'
  have I5 := at_ h₅ fl₅ (fun b o q hd' => by
    obtain ⟨sl, q1⟩ := sm₄ b o q hd'
    obtain ⟨sl', q2⟩ := sm₅ b _ q1 hd'
    exact ⟨sl', q2⟩)
  obtain ⟨oe5, ws5, he5, hc5, hd5, _⟩ := fl₅.first
  refine wpAny_handleBy_cons (codeAny_handlers_test (ld_glob (I5.inExc a) hg hR.nm ?_ hd)) (by intro q; cases q)
  refine exc_matches (s := { s' with heap := h₅ }) I5.kIn ex hR.ex hR.get.be hm he5 hc5 ?_
  refine codeAny_handlers_suite_as (lands_againW fl₅ fun h₆ fl₆ sm₆ => ?_)
  have I6 := at_ h₆ fl₆ (fun b o q hd' => by
    obtain ⟨sl, q1⟩ := sm₄ b o q hd'
    obtain ⟨sl', q2⟩ := sm₅ b _ q1 hd'
    obtain ⟨sl'', q3⟩ := sm₆ b _ q2 hd'
    exact ⟨sl'', q3⟩)
  obtain ⟨oe6, ws6, he6, hc6, hd6, _⟩ := fl₆.first
  have I7 : Inv X pins σ (upd H' a (ExcO a C)) { s' with heap := h₆ } := by
    refine I6.track hna young0 (fun z => ?_) (fun x c q z => ?_) (fun p q z => ?_) ⟨⟨oe6, he6, hc6⟩, ⟨oe6, he6⟩, fun h1 h2 ⟨o, e1, e2⟩ k => ⟨o, k o e1, e2⟩⟩
    · obtain ⟨m, ⟨o, _, _, q, _⟩, _⟩ := I.loc
      rw [← z, young] at q; cases q
    · obtain ⟨v, o, q1, _⟩ := I.cell x c q
      rw [z, young] at q1; cases q1
    · have q1 := (I.pin p q).1
      rw [z, young] at q1; cases q1
  refine store_ok (X := X.inExc a) (v := .ref a) (I7.inExc a) hN hj (.inl hn) rfl (fun s8 I8 => ?_) (.inr hn)
  refine wpAny_mono (hs a pins s8 _ _ _ I8 (hth a hna)) (fun f s9 q9 => ?_) fun _ _ z => False.elim z
  have fin : ∀ {σ9 : St} {H9 : Hp}, Inv (X.inExc a) pins σ9 H9 s9 → (∀ s10, Inv X pins (σ9.set j none) H9 s10 → SP X pins D f s10) →
      wpAny (model X.prog X.w) X.A (do bindName X.env n .none; unbindBehindTheSuite X.env n hpos) (fun _ s10 => SP X pins D f s10) X.xe s9 := fun {σ9 H9} I9 k => by
    have J := I9.outExc I.ok
    obtain ⟨m, hm', _⟩ := id J.loc
    refine wpAny_nameGoes_keeps hn hm' (by rw [I.ok.kind]; rfl) fun h' v hn' sb => k _ (J.nameGoes hN hj sb (v := v) (fun m2 hm2 => ?_) hn)
    rw [← ns_uniq hm' hm2]
    exact hn'
  cases f with
  | next => obtain ⟨σ9, H9, I9, q⟩ := q9; exact fin I9 fun s10 J => ⟨_, H9, J, q⟩
  | brk => obtain ⟨σ9, H9, I9, q⟩ := q9; exact fin I9 fun s10 J => ⟨_, H9, J, q⟩
  | cont => obtain ⟨σ9, H9, I9, q⟩ := q9; exact fin I9 fun s10 J => ⟨_, H9, J, q⟩
  | ret u => obtain ⟨v, σ9, H9, I9, r, q⟩ := q9; exact fin I9 fun s10 J => ⟨v, _, H9, J, r, q⟩

noncomputable def CalleeX (P : Program) (w : World) (K : Frag) (mg : Str → Option Value) (base : Heap) (x : Str) (k : Nat) (ps : List Str) (sp : Sp) : Prop :=
  ∃ f fd, FnOk P w K mg base (CXr P w) k f fd ps sp ∧ Binds K fd ps [] ∧ keepIn K (.ref f) = true ∧ mg x = some (.ref f)
noncomputable def tTry (K : Frag) (Cr : Addr) (i j : Nat) (sp : Sp) (ta : TA) (th : TS) : TS := fun D σ H => ta σ H fun vs H1 => sp vs H1 (fun v H2 => D.nx (σ.set i (some v)) H2) (EXtry K Cr j th D σ)
theorem ps_tryCall {i k k' : Nat} {y : Str} {ps : List Str} {sp : Sp} {e₀ : Expr} {es : List Expr} {ta : TA} {py fp cpos apos pos : Pos} (C : CalleeX X.prog X.w X.K X.mg X.base fx k ps sp) (hr : Room k' X.A) (hk : k ≤ k') (hc : X.calm = true) (hst : X.stack = X.env :: X.outer) (hfr : X.env.frame = some X.env.locals) (hex : X.ex = [])
    (hN : X.N.Nodup) (hi : X.N[i]? = some y) (hy : Loc X.env.scope y) (hyf : X.fn y = true ∨ X.env.scope.names.lookup y = some .local) (hgf : Gl X fx) (ha : PA X.nox (e₀ :: es) ta)
    (hj : X.N[j]? = some n) (hn : X.env.scope.names.lookup n = some .local) (hR : ExcC X.K X.mg xr Cr) (hg : Gl X xr) (hs : ∀ a, PSs (X.inExc a) (b₀ :: suite) th)
    (hd : (xr == ("__debug__" : Str)) = false := by decide) (hdf : (fx == ("__debug__" : Str)) = false := by decide) (hsw : swapsWith (.Call (.Name fx fp) (e₀ :: es) [] cpos) (some (.Name y py)) apos.line X.env = pure false := by rfl)
    (he : starEach (e₀ :: es) X.env = (false, eval e₀ X.env) :: starEach es X.env := by rfl) (hpl : (backTo cpos (starEach es X.env)).any (·.1) = false := by rfl) :
    PS X (.Try [.Assign [.Name y py] (.Call (.Name fx fp) (e₀ :: es) [] cpos) apos] [.ExceptHandler (some (.Name xr rp)) (some n) (b₀ :: suite) hpos] [] [] pos) (tTry X.K Cr i j sp ta th) := by
  obtain ⟨f, fd, F, b, kp, mf⟩ := C
  intro pins s σ H D I h
  refine wpAny_Try_except (wpAny_execs_cons (wpAny_Assign_Name (wpAny_Call_Name_kw (ld_glob I hgf mf ?_ hdf)) hsw))
  refine PySem.W.callWith_K (h₀ := X.base) I.ok.mod.kin kp (wpAny_mono (ha cpos pins s σ H _ (I.wish _) h) (fun us s1 q => ?_) fun _ _ z => False.elim z) he hpl
  obtain ⟨vs, H1, I1, r, q⟩ := q
  have I1 := I1.unwish
  refine ⟨I1.kIn, ?_⟩
  have hl : us.length = ps.length := by rw [← r.length]; exact F.len _ _ _ _ q
  have hb := b s1 us I1.kIn (by simpa using hl)
  rw [List.append_nil] at hb
  refine wpAny_call (codeAny_mono (F.run X.A X.stack s1 H1 ⟨us, []⟩ us vs _ _ (hr.mono hk) I1.env0 hb r q) fun res s2 hq => ?_)
  cases res with
  | error e => exact caught I1 hc hst hfr hex hN hj hn hR hg hs hq hd
  | ok fl =>
    cases fl with
    | next => exact False.elim hq
    | brk => exact False.elim hq
    | cont => exact False.elim hq
    | ret u =>
      obtain ⟨v, H2, I2, r2, q2⟩ := I1.after hq
      exact store_ok I2 hN hi hy r2 (fun s3 I3 => wpAny_execs_nil (wpAny_execs_nil ⟨_, H2, I3, q2⟩)) hyf
theorem Fun.okX {P : Program} {w : World} {K : Frag} {mg : Str → Option Value} {base : Heap} {x qual : Str} {st : Stmt} {f : Addr} {fd : FuncData} {N ps : List Str} {k : Nat} {sp : Sp} (F : Fun K x qual st f fd) (S : FnScope N ps (defScope st)) (len : ∀ vs H Q E, sp vs H Q E → vs.length = ps.length)
    (hbody : ∀ (cdv : Value) (A : Around) (outer : List Env) (s : Shared) (H : Hp) (vs : List V) (Q : VK) (E : XK), Room k (A.deeper (envOfC qual (defScope st) s.heap.objs.size f cdv)) → sp vs H Q E →
      ∃ t, PSs (cxOf (CXr P w) P w K mg base N qual (defScope st) f cdv A outer s H E) (defBody st) t ∧ t { nx := fun _ H' => Q .non H', rt := Q } (start N vs) H) : FnOk P w K mg base (CXr P w) (k + 1) f fd ps sp := by
  obtain ⟨oc, od, kV, doc, pm, an, cdv, ct, osl, rfl, lk, hcd⟩ := F.ex
  exact fn_of lk hcd S len fun A outer s H vs Q E hr hsp => hbody cdv A outer s H vs Q E hr hsp
end
end L2


end
section
set_option Elab.async false
set_option linter.all false
set_option maxRecDepth 100000
set_option maxHeartbeats 2000000
namespace L2
open PySem PySem.W PySem.Spec PySem.Calls PyProof.Rows
theorem best_is {val : Nat → Int} : ∀ k, argBest (fun i j => decide (val i > val j)) k ≤ k ∧ ∀ i, i ≤ k → val i ≤ val (argBest (fun i j => decide (val i > val j)) k)
  | 0 => ⟨Nat.le_refl _, fun i hi => by have : i = 0 := by lia
                                        subst this; exact Int.le_refl _⟩
  | k + 1 => by
    obtain ⟨h1, h2⟩ := best_is (val := val) k
    unfold argBest
    by_cases c : val (k + 1) > val (argBest (fun i j => decide (val i > val j)) k)
    · rw [if_pos (decide_eq_true c)]
      refine ⟨Nat.le_refl _, fun i hi => ?_⟩
      by_cases e : i = k + 1
      · subst e; exact Int.le_refl _
      · have := h2 i (by lia); lia
    · rw [if_neg (by simpa using c)]
      refine ⟨by lia, fun i hi => ?_⟩
      by_cases e : i = k + 1
      · subst e; lia
      · exact h2 i (by lia)
section
variable {prog : Program} {w : World} {A : Around} {R : Result → Shared → Prop} {I S : Addr} {fp wr : List Addr} {n : Nat} {P : Nat → Value → Prop} {St : Nat → Heap → Prop} {kw : List (Str × Value)} {bt : Nat → Nat → Bool}
theorem maxk_loop (W : Walks prog w A.in1 I fp wr n P St) (cmp : CmpOf prog w A.in1 .Gt P bt) (out : S ∉ fp) :
    ∀ (k j : Nat) (s : Shared) (best : Value) (c : Nat), n - (j + 1) = k → j + 1 ≤ n → St (j + 1) s.heap → P (argBest bt j) best →
    s.heap.get? S = some { cls := .type "list", dict := none, data := .seq #[best, best] c, slots := #[] } →
    (∀ v h' tk, P (argBest bt (n - 1)) v → (∀ b o, b ∉ wr → b ≠ S → s.heap.get? b = some o → h'.get? b = some o) → R (.ok (.ret v)) { s with heap := h', toks := tk }) →
    codeAny (model prog w) A (.builtin "max.loop" ⟨[.ref I, .none, .ref S], kw⟩) R s := by
  have sw : S ∉ wr := fun z => out (W.sub _ z)
  have nm : (toString "max" ++ toString ".loop" : String) = "max.loop" := (by decide)
  intro k
  induction k with
  | zero =>
    intro j s best c hk hj st pb hS fin
    have ejn : j + 1 = n := by lia
    refine (codeAny_builtin F.entry_max_loop ?_)
    rw [Around.under_plainId F.plain_max_loop (⟨[.ref I, .none, .ref S], kw⟩)]
    show wpAny (model prog w) A.in1 (seqItems? (.ref S) >>= _) _ _ s
    refine (wpAny_bind (wpAny_seqItems hS rfl ?_))
    show wpAny (model prog w) A.in1 (tryCatch (pyNext (.ref I)) _ >>= _) _ _ s
    refine wpAny_bind (wpAny_tryCatch (W.done s _ _ (ejn ▸ st) fun h1 tk kp => ?_))
    have hS1 := kp S _ sw hS
    show wpAny (model prog w) A.in1 (updateSeq S (fun _ => #[]) >>= _) _ _ _
    refine wpAny_bind (wpAny_updateSeq hS1 rfl (wpAny_bind (wpAny_letGo (wpAny_pure ?_))))
    exact fin best _ tk (by rw [← ejn]; exact pb) fun b o bw bS e => (Heap.get?_update_other _ _ (Ne.symm bS)).trans (kp b o bw e)
  | succ k ih =>
    intro j s best c hk hj st pb hS fin
    have lt : j + 1 < n := by lia
    refine (codeAny_builtin F.entry_max_loop ?_)
    rw [Around.under_plainId F.plain_max_loop (⟨[.ref I, .none, .ref S], kw⟩)]
    show wpAny (model prog w) A.in1 (seqItems? (.ref S) >>= _) _ _ s
    refine (wpAny_bind (wpAny_seqItems hS rfl ?_))
    show wpAny (model prog w) A.in1 (tryCatch (pyNext (.ref I)) _ >>= _) _ _ s
    refine wpAny_bind (wpAny_tryCatch (W.item (j + 1) s _ _ lt st fun v h1 tk pv st1 kp => ?_))
    have hS1 := kp S _ sw hS
    show wpAny (model prog w) A.in1 (tryCatch (holding [v, v] (richCompare .Gt v best >>= _)) _ >>= _) _ _ _
    refine wpAny_bind (wpAny_tryCatch (wpAny_holding (wpAny_bind (cmp (j + 1) (argBest bt j) v best _ _ _ pv pb ?_))))
    refine wpAny_bind (wpAny_holding (wpAny_truthy_bool (wpAny_bind (wpAny_letGo (wpAny_pure ?_)))))
    cases hb : bt (j + 1) (argBest bt j) with
    | true =>
      simp only [if_true]
      refine wpAny_bind (wpAny_updateSeq hS1 rfl (wpAny_bind (wpAny_letGo ?_)))
      rw [nm]
      refine wpAny_pure ⟨plainId_quiet F.plain_max_loop _, ih (j + 1) _ v _ (by lia) lt (W.frame _ _ _ st1 fun b bf o e => ?_) (by simp only [argBest, hb, if_true]; exact pv) (Heap.get?_update_self _ hS1 rfl) fun v' h2 tk2 pv' kp2 => ?_⟩
      · exact (Heap.get?_update_other _ _ (fun z : S = b => out (by rw [z]; exact bf))).trans e
      · exact fin v' h2 tk2 pv' fun b o bw bS e => kp2 b o bw bS ((Heap.get?_update_other _ _ (Ne.symm bS)).trans (kp b o bw e))
    | false =>
      simp only [Bool.false_eq_true, if_false]
      refine (wpAny_bind (wpAny_letGo ?_))
      rw [nm]
      exact wpAny_pure ⟨plainId_quiet F.plain_max_loop _, ih (j + 1) _ best c (by lia) lt st1 (by simp only [argBest, hb, Bool.false_eq_true, if_false]; exact pb) hS1 fun v' h2 tk2 pv' kp2 =>
        fin v' h2 tk2 pv' fun b o bw bS e => kp2 b o bw bS (kp b o bw e)⟩
theorem maxk_first (W : Walks prog w A.in1 I fp wr n P St) (cmp : CmpOf prog w A.in1 .Gt P bt) (out : S ∉ fp) (hn : 0 < n) {s : Shared} {c : Nat} (st : St 0 s.heap) (hS : s.heap.get? S = some { cls := .type "list", dict := none, data := .seq #[] c, slots := #[] })
    (fin : ∀ v h' tk, P (argBest bt (n - 1)) v → (∀ b o, b ∉ wr → b ≠ S → s.heap.get? b = some o → h'.get? b = some o) → R (.ok (.ret v)) { s with heap := h', toks := tk }) :
    codeAny (model prog w) A (.builtin "max.loop" ⟨[.ref I, .none, .ref S], kw⟩) R s := by
  have sw : S ∉ wr := fun z => out (W.sub _ z)
  have nm : (toString "max" ++ toString ".loop" : String) = "max.loop" := (by decide)
  refine (codeAny_builtin F.entry_max_loop ?_)
  rw [Around.under_plainId F.plain_max_loop (⟨[.ref I, .none, .ref S], kw⟩)]
  show wpAny (model prog w) A.in1 (seqItems? (.ref S) >>= _) _ _ s
  refine (wpAny_bind (wpAny_seqItems hS rfl ?_))
  show wpAny (model prog w) A.in1 (tryCatch (pyNext (.ref I)) _ >>= _) _ _ s
  refine wpAny_bind (wpAny_tryCatch (W.item 0 s _ _ hn st fun v h1 tk pv st1 kp => ?_))
  have hS1 := kp S _ sw hS
  show wpAny (model prog w) A.in1 (updateSeq S (fun _ => #[v, v]) >>= _) _ _ _
  refine wpAny_bind (wpAny_updateSeq hS1 rfl ?_)
  rw [nm]
  refine wpAny_pure ⟨plainId_quiet F.plain_max_loop _, maxk_loop W cmp out _ 0 _ v _ rfl hn (W.frame _ _ _ st1 fun b bf o e => ?_) pv (Heap.get?_update_self _ hS1 rfl) fun v' h2 tk2 pv' kp2 => ?_⟩
  · exact (Heap.get?_update_other _ _ (fun z : S = b => out (by rw [z]; exact bf))).trans e
  · exact fin v' h2 tk2 pv' fun b o bw bS e => kp2 b o bw bS ((Heap.get?_update_other _ _ (Ne.symm bS)).trans (kp b o bw e))
theorem maxk_none {d : Value} (W : Walks prog w A.in1 I fp wr 0 P St) (out : S ∉ fp) {s : Shared} {c : Nat} (st : St 0 s.heap) (hS : s.heap.get? S = some { cls := .type "list", dict := none, data := .seq #[] c, slots := #[] })
    (fin : ∀ h' tk, (∀ b o, b ∉ wr → s.heap.get? b = some o → h'.get? b = some o) → R (.ok (.ret d)) { s with heap := h', toks := tk }) :
    codeAny (model prog w) A (.builtin "max.loop" ⟨[.ref I, .none, .ref S], [("default", d)]⟩) R s := by
  refine (codeAny_builtin F.entry_max_loop ?_)
  rw [Around.under_plainId F.plain_max_loop (⟨[.ref I, .none, .ref S], [("default", d)]⟩)]
  show wpAny (model prog w) A.in1 (seqItems? (.ref S) >>= _) _ _ s
  refine (wpAny_bind (wpAny_seqItems hS rfl ?_))
  show wpAny (model prog w) A.in1 (tryCatch (pyNext (.ref I)) _ >>= _) _ _ s
  refine wpAny_bind (wpAny_tryCatch (W.done s _ _ st fun h1 tk kp => ?_))
  exact wpAny_bind (wpAny_rule (wpAny_pure (fin h1 tk kp)))
end
theorem args_maxd (a v : Value) : argsOk "max" ⟨[a], [(Str.ofString "default", v)]⟩ := by unfold argsOk; kernel_rfl
section
variable {X : Cx}
theorem ints_get {ns : List Int} {us : List Value} (r : Vals (ns.map V.int) us) {i : Nat} {v : Value} (h : us.toArray[i]? = some v) : ∃ t, v = .int (ns.getD i 0) t := by
  have hi : i < ns.length := by
    have := (Array.getElem?_eq_some_iff.mp h).1
    have e := r.length
    simp at this e
    lia
  obtain ⟨u, hu, ru⟩ := r.get (i := i) (x := .int ns[i]) (by simp [hi])
  have hv : us[i]? = some v := by simpa using h
  rw [hu] at hv
  cases hv
  obtain ⟨t, rfl⟩ := ru
  exact ⟨t, by simp [hi]⟩

noncomputable def tMaxD (K : Frag) (ta tk : TA) : TE := fun σ H Q => ta σ H fun vs H1 => tk σ H1 fun zs H2 => ∃ (p : Addr) (ns : List Int) (d : Int), vs = [.ref p] ∧ zs = [.int d] ∧ SqL K H2 p (ns.map V.int) ∧ (ns = [] → Q (.int d) H2) ∧ (ns ≠ [] → ∀ m, m ∈ ns → (∀ x ∈ ns, x ≤ m) → Q (.int m) H2)
theorem pe_maxD {K : Frag} {e : Expr} {kws : List Keyword} {ta tk : TA} {p pos : Pos} (hK : X.K = K) (hc : X.calm = true) (hg : Gl X "max") (hm : X.mg "max" = none) (ha : PA X [e] ta) (hk : PK X kws tk)
    (hks : (backToKw pos (keywordEach kws X.env)).filterMap (·.1) = [Str.ofString "default"] := by rfl) (hall : (backToKw pos (keywordEach kws X.env)).all (·.1.isSome) = true := by rfl) (hno : (backToKw pos (keywordEach kws X.env)).any (·.1.isNone) = false := by rfl)
    (he : backTo pos (starEach [e] X.env) = (false, eval e X.env) :: backTo pos (starEach [] X.env) := by rfl) (hpl : (backTo pos (starEach [e] X.env)).any (·.1) = false := by rfl) :
    PE X (.Call (.Name "max" p) [e] kws pos) (tMaxD K ta tk) := by
  subst hK
  intro pins s σ H Q I h
  refine wpAny_Call_Name_kw (ld_blt I hg hm PyProof.Rows.boot_max ?_ (by decide) (by decide))
  refine callWith_kw (thn (ha pos pins s σ H _ I h) fun us s1 ⟨vs, H1, I1, r1, q1⟩ => thn (hk pos pins s1 σ H1 _ I1 q1) fun ws s2 ⟨zs, H2, I2, r2, q2⟩ => ?_) he hpl hall hno
  rw [hks]
  obtain ⟨p', ns, d, rfl, rfl, hS, q0, q1⟩ := q2
  obtain ⟨u, rfl, ru⟩ := r1.one
  cases ru
  obtain ⟨dv, rfl, td, rfl⟩ := r2.one
  obtain ⟨its, rv, pl, hz⟩ := I2.list hS
  have hl := pl.isList
  have hlt : p' < s2.heap.objs.size := by obtain ⟨_, e, _⟩ := hl; exact Heap.lt_size e
  have len : its.toArray.size = ns.length := by have := rv.length; simp at this ⊢; lia
  show wpAny _ X.A (call (.builtin "max") [.ref p'] [(Str.ofString "default", .int d td)]) _ _ s2
  have nm : (toString "max" ++ toString ".loop" : String) = "max.loop" := (by decide)
  refine kmk_tree PySem.F.kind_max PySem.F.plain_max PySem.F.entry_max (args_maxd _ _) ?_
  show wpAny _ X.A.in1 (Builtin.Builtins.bindParams "max" ["key", "default"] 0 ⟨[], [(Str.ofString "default", .int d td)]⟩ >>= _) _ _ s2
  refine wpAny_bind (wpAny_of_eq (show Builtin.Builtins.bindParams "max" ["key", "default"] 0 ⟨[], [(Str.ofString "default", .int d td)]⟩ = pure [none, some (.int d td)] from rfl) ?_)
  refine wpAny_bind (wpAny_pure (wpAny_bind (wpAny_pyIter_list hl ?_)))
  refine wpAny_bind (wpAny_newObj_type ?_)
  rw [nm]
  have W := Walks.list (prog := X.prog) (w := X.w) (A := X.A.in1) (I2.ok.hd hc) s2.heap.objs.size p' (Nat.ne_of_lt hlt) its.toArray
  have kep : ∀ {h' : Heap} {o o' : Obj}, (∀ b x, b ∉ [s2.heap.objs.size] → b ≠ (s2.heap.push o).objs.size → ((s2.heap.push o).push o').get? b = some x → h'.get? b = some x) → ∀ b x, s2.heap.get? b = some x → h'.get? b = some x := fun {h' o o'} hk b x e => by
    have hb := Heap.lt_size e
    refine hk b x (fun z => Nat.lt_irrefl _ (Nat.lt_of_lt_of_eq hb (List.mem_singleton.mp z).symm)) (fun z => ?_) (Heap.get?_push_of_some _ (Heap.get?_push_of_some _ e))
    rw [Heap.size_push] at z
    exact Nat.lt_irrefl _ (Nat.lt_of_lt_of_le hb (by rw [z]; exact Nat.le_succ _))
  have out : ∀ {o : Obj}, (s2.heap.push o).objs.size ∉ [s2.heap.objs.size, p'] := fun {o} z => by
    rw [Heap.size_push] at z
    rcases List.mem_cons.mp z with z | z
    · exact absurd z (Nat.ne_of_gt (Nat.lt_succ_self _))
    · have hz := List.mem_singleton.mp z
      rw [← hz] at hlt
      exact Nat.lt_irrefl _ (Nat.lt_of_le_of_lt (Nat.le_succ _) hlt)
  have st0 : ∀ {o : Obj}, ((s2.heap.push { cls := .type "list_iterator", data := .fields #[.ref p', .int 0 0] }).push o).IsListIter s2.heap.objs.size p' 0 ∧ ((s2.heap.push { cls := .type "list_iterator", data := .fields #[.ref p', .int 0 0] }).push o).IsList p' its.toArray := fun {o} =>
    ⟨⟨_, Heap.get?_push_of_some _ (Heap.get?_push_size _ rfl), rfl, rfl⟩, (hl.push _).push _⟩
  by_cases hne : ns = []
  · subst hne
    have z0 : its.toArray.size = 0 := by simpa using len
    rw [z0] at W
    refine wpAny_pure ⟨plainId_quiet PySem.F.plain_max_loop _, maxk_none W out st0 (Heap.get?_push_size _ rfl) fun h' tk kp => ?_⟩
    exact ⟨.int d, H2, I2.kept (kep fun b x b1 _ e => kp b x b1 e), ⟨_, rfl⟩, q0 rfl⟩
  · have pos0 : 0 < its.toArray.size := by rw [len]; exact List.length_pos_iff.mpr hne
    refine wpAny_pure ⟨plainId_quiet PySem.F.plain_max_loop _, maxk_first W (CmpOf.ints_gt (fun i => ns.getD i 0) (fun i v h => ints_get rv h)) out pos0 st0 (Heap.get?_push_size _ rfl) fun v h' tk hP kp => ?_⟩
    obtain ⟨t, rfl⟩ := ints_get rv hP
    obtain ⟨b1, b2⟩ := best_is (val := fun i => ns.getD i 0) (its.toArray.size - 1)
    generalize argBest (fun i j => decide (ns.getD i 0 > ns.getD j 0)) (its.toArray.size - 1) = m at *
    have hm : m < ns.length := by lia
    refine ⟨.int (ns.getD m 0), H2, I2.kept (kep kp), ⟨_, rfl⟩, q1 hne _ (by simp [hm]) fun x hx => ?_⟩
    obtain ⟨i, hi, rfl⟩ := List.mem_iff_getElem.mp hx
    have := b2 i (by lia)
    simpa [hi, hm] using this
theorem sl_listK {K : Frag} (h : X.K = K) : SlR X (rSlL K) := h ▸ sl_list
end
end L2
namespace L2
open PySem PySem.W PySem.Spec PySem.Calls PyProof.Rows
theorem Paired.mono' {α β : Type} {F G : α → β → Prop} (h : ∀ a b, F a b → G a b) : ∀ {l : List α} {r : List β}, Paired F l r → Paired G l r
  | _, _, .nil => .nil
  | _, _, .cons a t => .cons (h _ _ a) (Paired.mono' h t)
theorem body_itemsF {J : It} {xs : List V} {tc : TT} {te : TE} {σf : St} {Q : VK} {H1 : Hp} (keep : Nat → Bool) (G : Nat → V → Hp → Prop) (hlen : xs.length ≤ sizeLine)
    (hJ : ∀ i H, Same H1 H → (i < xs.length → J.go i H ∧ ∀ x H', J.yld i H x H' → H' = H ∧ xs[i]? = some x) ∧ (i = xs.length → J.stop i H))
    (stable : ∀ i y H H', TupLe H H' → G i y H → G i y H')
    (test : ∀ i x H (R : Bool → Hp → Prop), xs[i]? = some x → Same H1 H → (∀ H', Same H H' → R (keep i) H') → tc (some x :: σf) H R)
    (step : ∀ i x H (R : VK), xs[i]? = some x → keep i = true → Same H1 H → (∀ y H', Same H H' → G i y H' → R y H') → te (some x :: σf) H R)
    (fin : ∀ D ys H', H1 D = none → Same H1 H' → H' D = some (.lst ys) → Paired (fun i y => G i y H') ((List.range xs.length).filter keep) ys → Q (.ref D) H') :
    bodyC J tc te σf Q H1 := by
  intro D hD
  refine ⟨fun i m ys H => m = xs.length - i ∧ i ≤ xs.length ∧ ys.length ≤ i ∧ Same H1 H ∧ H D = some (.lst ys) ∧ Paired (fun j y => G j y H) ((List.range i).filter keep) ys,
    ⟨xs.length, by simp, Nat.zero_le _, Nat.le_refl _, Same.new hD _, upd_same, .nil⟩, ?_⟩
  rintro i m ys H ⟨rfl, hi, hl, hS, hH, hG⟩
  obtain ⟨j1, j2⟩ := hJ i H hS
  by_cases hlt : i < xs.length
  · obtain ⟨go, yl⟩ := j1 hlt
    refine .inr ⟨go, by lia, fun ys' H' => ys'.length ≤ i + 1 ∧ Same H1 H' ∧ H' D = some (.lst ys') ∧ Paired (fun j y => G j y H') ((List.range (i + 1)).filter keep) ys', fun ys' H' ⟨a, b, c, d⟩ => ⟨xs.length - (i + 1), by lia, rfl, hlt, a, b, c, d⟩, fun x H' y => ?_⟩
    obtain ⟨rfl, hx⟩ := yl x H' y
    refine test i x _ _ hx hS fun H2 hS2 => ?_
    cases hk : keep i with
    | false =>
      refine iteF ⟨by lia, hS.trans hS2, hS2 _ _ hH, ?_⟩
      rw [List.range_succ, List.filter_append]
      simp only [List.filter_cons, hk, Bool.false_eq_true, if_false, List.filter_nil, List.append_nil]
      exact Paired.mono' (fun a b h => stable a b _ _ hS2.tup h) hG
    | true =>
      refine iteT (step i x H2 _ hx hk (hS.trans hS2) fun y H3 hS3 hg => ?_)
      have hD3 := hS3 _ _ (hS2 _ _ hH)
      have tl : TupLe H3 (upd H3 D (.lst (ys ++ [y]))) := tup_upd fun zs q => by rw [hD3] at q; cases q
      refine ⟨hD3, by simp; lia, ((hS.trans hS2).trans hS3).updNew hD, upd_same, ?_⟩
      rw [List.range_succ, List.filter_append]
      simp only [List.filter_cons, hk, if_true, List.filter_nil]
      exact Paired.snoc (Paired.mono' (fun a b h => stable a b _ _ ((hS2.trans hS3).tup.trans tl) h) hG) (stable i y _ _ tl hg)
  · have e : i = xs.length := by lia
    subst e
    exact .inl ⟨j2 rfl, fin D ys H hD hS hH hG⟩
theorem body_listF {K : Frag} {a : Addr} {xs : List V} {tc : TT} {te : TE} {σf : St} {Q : VK} {H1 : Hp} (hS : SqL K H1 a xs) (hlen : xs.length ≤ sizeLine) (keep : Nat → Bool) (G : Nat → V → Hp → Prop)
    (stable : ∀ i y H H', TupLe H H' → G i y H → G i y H')
    (test : ∀ i x H (R : Bool → Hp → Prop), xs[i]? = some x → Same H1 H → (∀ H', Same H H' → R (keep i) H') → tc (some x :: σf) H R)
    (step : ∀ i x H (R : VK), xs[i]? = some x → keep i = true → Same H1 H → (∀ y H', Same H H' → G i y H' → R y H') → te (some x :: σf) H R)
    (fin : ∀ D ys H', H1 D = none → Same H1 H' → H' D = some (.lst ys) → Paired (fun i y => G i y H') ((List.range xs.length).filter keep) ys → Q (.ref D) H') :
    bodyC (Itl K a) tc te σf Q H1 :=
  body_itemsF keep G hlen (fun i H s => ⟨fun hi => ⟨⟨xs, xs[i], s.seq hS, by simp [hi]⟩, fun x H' ⟨e, y⟩ => ⟨e, y xs (s.seq hS)⟩⟩, fun e => ⟨xs, s.seq hS, by lia⟩⟩) stable test step fin
end L2


end
section
set_option Elab.async false
set_option linter.all false
set_option maxRecDepth 100000
set_option maxHeartbeats 4000000
namespace RR
open PySem L2
noncomputable def Wd.parts : Wd → List Wd
  | .nt a => [a]
  | .an a b => [a, b]
  | .or a b => [a, b]
  | _ => []
noncomputable def Wd.okB (R B : Int) : Wd → Bool
  | .relay k => decide (0 ≤ k) && decide (k < R)
  | .button k => decide (0 ≤ k) && decide (k < B)
  | .nt a => a.okB R B
  | .an a b => a.okB R B && b.okB R B
  | .or a b => a.okB R B && b.okB R B
  | _ => true
inductive I_spParts (vs : List V) (H : Hp) (Q : VK) : Prop
  | mk : ∀ v wd, (vs = [v]) → (WAt H wd v) → (∀ p xs H', Same H H' → H' p = some (.tup xs) → WsAt H' wd.parts xs → Q (.ref p) H') → I_spParts vs H Q
noncomputable def spParts : Sp := fun vs H Q _ => I_spParts vs H Q
inductive I_spDeeper (n : Nat) (vs : List V) (H : Hp) (Q : VK) : Prop
  | mk : ∀ (v : V) (wd : Wd) (d : Nat), (vs = [v, .int d]) → (WAt H wd v) → (d < n) → (∀ H', Same H H' → Q (.bl (decide (d < wd.depth))) H') → I_spDeeper n vs H Q
noncomputable def spDeeper (n : Nat) : Sp := fun vs H Q _ => I_spDeeper n vs H Q
inductive I_spLacks (n : Nat) (vs : List V) (H : Hp) (Q : VK) : Prop
  | mk : ∀ (v : V) (wd : Wd) (R B : Int), (vs = [v, .int R, .int B]) → (WAt H wd v) → (wd.depth ≤ n) → (∀ H', Same H H' → Q (.bl (!wd.okB R B)) H') → I_spLacks n vs H Q
noncomputable def spLacks (n : Nat) : Sp := fun vs H Q _ => I_spLacks n vs H Q
theorem ws_nil {H : Hp} : WsAt H [] [] := ⟨rfl, fun i v e => by simp at e⟩
theorem parts_depth {wd p : Wd} (h : p ∈ wd.parts) : p.depth + 1 ≤ wd.depth := by
  cases wd with
  | nt a => have : p = a := by simpa [Wd.parts] using h
            subst this; simp [Wd.depth]
  | an a b =>
    have : p = a ∨ p = b := by simpa [Wd.parts] using h
    show _ ≤ max a.depth b.depth + 1
    rcases this with rfl | rfl <;> lia
  | or a b =>
    have : p = a ∨ p = b := by simpa [Wd.parts] using h
    show _ ≤ max a.depth b.depth + 1
    rcases this with rfl | rfl <;> lia
  | _ => simp [Wd.parts] at h
noncomputable def dueOf (ws : List Wd) (b : Int) : Option Nat :=
  if ws.length < 1 ∨ 6 < ws.length ∨ b < 0 ∨ 4 < b then some 0 else if ws.any (fun x => decide (8 < x.depth)) then some 1 else if ws.any (fun x => !x.okB ws.length b) then some 2 else none
noncomputable def excAt (c0 c1 c2 : Addr) : Nat → Addr
  | 0 => c0
  | 1 => c1
  | _ => c2
inductive I_spLooked (c0 c1 c2 : Addr) (vs : List V) (H : Hp) (Q : VK) (E : XK) : Prop
  | mk : ∀ (a : Addr) (us : List V) (ws : List Wd) (b : Int), (vs = [.ref a, .int b]) → (H a = some (.lst us)) → (WsAt H ws us) → (ws.length ≤ 100) → (match dueOf ws b with
  | none => ∀ H', Same H H' → Q (.int ws.length) H'
  | some k => ∀ H', Same H H' → E (.ref (excAt c0 c1 c2 k)) none H') → I_spLooked c0 c1 c2 vs H Q E
noncomputable def spLooked (c0 c1 c2 : Addr) : Sp := fun vs H Q E => I_spLooked c0 c1 c2 vs H Q E
theorem cut_tail (x : V) (xs : List V) : cutV (x :: xs) (some 1) none = xs := by
  have e1 : HT.sIx (xs.length + 1) 0 (some 1) = 1 := (HT.sIx_nat _ _ 1).trans (by lia)
  have e2 : HT.sIx (xs.length + 1) (xs.length + 1) none = xs.length + 1 := rfl
  unfold cutV
  rw [List.length_cons, e1, e2]
  simp
theorem cut_part (x : V) (xs : List V) : ¬ (HT.sIx (x :: xs).length 0 (some 1) = 0 ∧ HT.sIx (x :: xs).length (x :: xs).length none = (x :: xs).length) := by
  have e1 : HT.sIx (xs.length + 1) 0 (some 1) = 1 := (HT.sIx_nat _ _ 1).trans (by lia)
  rw [List.length_cons, e1]
  lia
theorem word_head {H : Hp} {wd : Wd} {v : V} (h : WAt H wd v) : ∃ (p : Addr) (kd : Str) (xs : List V), v = .ref p ∧ H p = some (.tup (.str kd :: xs)) ∧ xs.length ≤ 2 ∧
    ((∃ k, wd = .relay k ∧ kd = "relay" ∧ xs = [.int k]) ∨ (∃ k, wd = .button k ∧ kd = "button" ∧ xs = [.int k]) ∨ (V.str kd ≠ V.str "relay" ∧ V.str kd ≠ V.str "button" ∧ WsAt H wd.parts xs ∧
      (∀ k, wd ≠ .relay k) ∧ (∀ k, wd ≠ .button k) ∧ (inV (.str kd) [.str "not", .str "and", .str "or"] = false → wd.parts = []))) := by
  cases wd with
  | on => obtain ⟨p, e, q⟩ := h; exact ⟨p, "on", [], e, q, by simp, .inr (.inr ⟨by decide +kernel, by decide +kernel, ws_nil, fun k => by simp, fun k => by simp, fun _ => rfl⟩)⟩
  | off => obtain ⟨p, e, q⟩ := h; exact ⟨p, "off", [], e, q, by simp, .inr (.inr ⟨by decide +kernel, by decide +kernel, ws_nil, fun k => by simp, fun k => by simp, fun _ => rfl⟩)⟩
  | relay k => obtain ⟨p, e, q⟩ := h; exact ⟨p, "relay", [.int k], e, q, by simp, .inl ⟨k, rfl, rfl, rfl⟩⟩
  | button k => obtain ⟨p, e, q⟩ := h; exact ⟨p, "button", [.int k], e, q, by simp, .inr (.inl ⟨k, rfl, rfl, rfl⟩)⟩
  | nt a => obtain ⟨p, x, e, q, hx⟩ := h; exact ⟨p, "not", [x], e, q, by simp, .inr (.inr ⟨by decide +kernel, by decide +kernel, ws_one hx, fun k => by simp, fun k => by simp, fun z => absurd z (by decide +kernel)⟩)⟩
  | an a b => obtain ⟨p, x, y, e, q, hx, hy⟩ := h; exact ⟨p, "and", [x, y], e, q, by simp, .inr (.inr ⟨by decide +kernel, by decide +kernel, ws_two hx hy, fun k => by simp, fun k => by simp, fun z => absurd z (by decide +kernel)⟩)⟩
  | or a b => obtain ⟨p, x, y, e, q, hx, hy⟩ := h; exact ⟨p, "or", [x, y], e, q, by simp, .inr (.inr ⟨by decide +kernel, by decide +kernel, ws_two hx hy, fun k => by simp, fun k => by simp, fun z => absurd z (by decide +kernel)⟩)⟩
end RR
namespace RR
open PySem L2
theorem boot_VE : bootBuiltins "ValueError" = some (.type "ValueError") := by decide +kernel
inductive I_spWhole (vs : List V) (H : Hp) (Q : VK) : Prop
  | mk : ∀ i : Int, (vs = [.int i]) → (Q (.bl true) H) → I_spWhole vs H Q
noncomputable def spWhole : Sp := fun vs H Q _ => I_spWhole vs H Q
noncomputable def marksOf (k : Nat) : List Bool := ((List.range 6).map fun i => decide (i = k)) ++ [true]
inductive I_spRefused (vs : List V) (H : Hp) (Q : VK) : Prop
  | mk : ∀ (m : Addr) (k : Nat), (vs = [.ref m, .int k]) → (H m = some (.lst ((marksOf k).map V.bl))) → (∀ H', Same H H' → Q (.bl true) H') → I_spRefused vs H Q
noncomputable def spRefused : Sp := fun vs H Q _ => I_spRefused vs H Q
inductive I_spLDepth (n : Nat) (vs : List V) (H : Hp) (Q : VK) : Prop
  | mk : ∀ (v : V) (wd : Wd), (vs = [v]) → (WAt H wd v) → (wd.depth ≤ n) → (∀ H', Same H H' → Q (.int wd.depth) H') → I_spLDepth n vs H Q
noncomputable def spLDepth (n : Nat) : Sp := fun vs H Q _ => I_spLDepth n vs H Q
inductive I_spWired (n : Nat) (vs : List V) (H : Hp) (Q : VK) : Prop
  | mk : ∀ (v : V) (wd : Wd) (R B : Int), (vs = [v, .int R, .int B]) → (WAt H wd v) → (wd.depth ≤ n) → (∀ H', Same H H' → Q (.bl (wd.okB R B)) H') → I_spWired n vs H Q
noncomputable def spWired (n : Nat) : Sp := fun vs H Q _ => I_spWired n vs H Q
noncomputable def dueN (ws : List Wd) (b : Int) : Int := match dueOf ws b with
  | none => -1
  | some k => k
inductive I_spDue (n : Nat) (vs : List V) (H : Hp) (Q : VK) : Prop
  | mk : ∀ (a : Addr) (us : List V) (ws : List Wd) (b : Int), (vs = [.ref a, .int b]) → (H a = some (.lst us)) → (WsAt H ws us) → (ws.length ≤ 100) → ((∀ x ∈ ws, x.depth ≤ n)) → (∀ H', Same H H' → Q (.int (dueN ws b)) H') → I_spDue n vs H Q
noncomputable def spDue (n : Nat) : Sp := fun vs H Q _ => I_spDue n vs H Q
inductive I_spTold (vs : List V) (H : Hp) (Q : VK) : Prop
  | mk : ∀ (a : Addr) (us : List V) (ws : List Wd) (b : Int), (vs = [.ref a, .int b]) → (H a = some (.lst us)) → (WsAt H ws us) → (ws.length ≤ 100) → (∀ p vf m bs H', Same H H' → H' p = some (.tup [vf, .ref m]) → H' m = some (.lst (bs.map V.bl)) → (match dueOf ws b with | none => vf = .int ws.length ∧ bs = [] | some k => bs = marksOf k) → Q (.ref p) H') → I_spTold vs H Q
noncomputable def spTold : Sp := fun vs H Q _ => I_spTold vs H Q
inductive I_spSpoilt (n l : Nat) (vs : List V) (H : Hp) (Q : VK) : Prop
  | mk : ∀ (a : Addr) (us : List V) (ws : List Wd) (b c : Int), (vs = [.ref a, .int b, .int c]) → (H a = some (.lst us)) → (WsAt H ws us) → (ws.length ≤ l) → ((∀ x ∈ ws, x.depth ≤ n)) → (∀ p a' us' ws' b' H', Same H H' → H' p = some (.tup [.ref a', .int b']) → H' a' = some (.lst us') → WsAt H' ws' us' → ws'.length ≤ l + 6 → (∀ x ∈ ws', x.depth ≤ n + 5) → Q (.ref p) H') → I_spSpoilt n l vs H Q
noncomputable def spSpoilt (n l : Nat) : Sp := fun vs H Q _ => I_spSpoilt n l vs H Q
theorem lay_bools : ∀ bs : List Bool, PyData.canLayAll0 (bs.map PyData.bool) = true
  | [] => by simp [PyData.canLayAll0]
  | b :: bs => by simp [PyData.canLayAll0, PyData.canLay0, lay_bools bs]
theorem depth_bools : ∀ bs : List Bool, PyData.depthAll (bs.map PyData.bool) ≤ 1
  | [] => by simp [PyData.depthAll]
  | b :: bs => by
    have := depth_bools bs
    simp [PyData.depthAll, PyData.depth]
    lia
noncomputable def Wd.data : Wd → PyData
  | .on => .tuple [.str "on"]
  | .off => .tuple [.str "off"]
  | .relay k => .tuple [.str "relay", .int k]
  | .button k => .tuple [.str "button", .int k]
  | .nt a => .tuple [.str "not", a.data]
  | .an a b => .tuple [.str "and", a.data, b.data]
  | .or a b => .tuple [.str "or", a.data, b.data]
theorem WAt.data {K : PySem.W.Frag} {H : Hp} : ∀ {wd : Wd} {v : V}, WAt H wd v → DAt K H wd.data v
  | .on, _, ⟨p, e, q⟩ => e ▸ .tuple (SqT.of q) (.cons (.str _) .nil)
  | .off, _, ⟨p, e, q⟩ => e ▸ .tuple (SqT.of q) (.cons (.str _) .nil)
  | .relay _, _, ⟨p, e, q⟩ => e ▸ .tuple (SqT.of q) (.cons (.str _) (.cons (.int _) .nil))
  | .button _, _, ⟨p, e, q⟩ => e ▸ .tuple (SqT.of q) (.cons (.str _) (.cons (.int _) .nil))
  | .nt _, _, ⟨p, x, e, q, a⟩ => e ▸ .tuple (SqT.of q) (.cons (.str _) (.cons a.data .nil))
  | .an _ _, _, ⟨p, x, y, e, q, a, b⟩ => e ▸ .tuple (SqT.of q) (.cons (.str _) (.cons a.data (.cons b.data .nil)))
  | .or _ _, _, ⟨p, x, y, e, q, a, b⟩ => e ▸ .tuple (SqT.of q) (.cons (.str _) (.cons a.data (.cons b.data .nil)))
theorem strs_ok : PyData.canLay0 (.str "on") = true ∧ PyData.canLay0 (.str "off") = true ∧ PyData.canLay0 (.str "relay") = true ∧ PyData.canLay0 (.str "button") = true ∧ PyData.canLay0 (.str "not") = true ∧ PyData.canLay0 (.str "and") = true ∧ PyData.canLay0 (.str "or") = true := by
  refine ⟨?_, ?_, ?_, ?_, ?_, ?_, ?_⟩ <;> (simp only [PyData.canLay0]; decide +kernel)
theorem lay_tup (xs : List PyData) : (PyData.tuple xs).canLay0 = PyData.canLayAll0 xs := by simp only [PyData.canLay0]
theorem lay_lst (xs : List PyData) : (PyData.list xs).canLay0 = PyData.canLayAll0 xs := by simp only [PyData.canLay0]
theorem lay_cons (x : PyData) (xs : List PyData) : PyData.canLayAll0 (x :: xs) = (x.canLay0 && PyData.canLayAll0 xs) := by simp only [PyData.canLayAll0]
theorem lay_nil : PyData.canLayAll0 [] = true := by simp only [PyData.canLayAll0]
theorem lay_int (i : Int) : (PyData.int i).canLay0 = true := by simp only [PyData.canLay0]
theorem data_lay : ∀ wd : Wd, wd.data.canLay0 = true
  | .on => by show (PyData.tuple _).canLay0 = true; rw [lay_tup, lay_cons, lay_nil, strs_ok.1]; rfl
  | .off => by show (PyData.tuple _).canLay0 = true; rw [lay_tup, lay_cons, lay_nil, strs_ok.2.1]; rfl
  | .relay k => by show (PyData.tuple _).canLay0 = true; rw [lay_tup, lay_cons, lay_cons, lay_nil, strs_ok.2.2.1, lay_int]; rfl
  | .button k => by show (PyData.tuple _).canLay0 = true; rw [lay_tup, lay_cons, lay_cons, lay_nil, strs_ok.2.2.2.1, lay_int]; rfl
  | .nt a => by show (PyData.tuple _).canLay0 = true; rw [lay_tup, lay_cons, lay_cons, lay_nil, strs_ok.2.2.2.2.1, data_lay a]; rfl
  | .an a b => by show (PyData.tuple _).canLay0 = true; rw [lay_tup, lay_cons, lay_cons, lay_cons, lay_nil, strs_ok.2.2.2.2.2.1, data_lay a, data_lay b]; rfl
  | .or a b => by show (PyData.tuple _).canLay0 = true; rw [lay_tup, lay_cons, lay_cons, lay_cons, lay_nil, strs_ok.2.2.2.2.2.2, data_lay a, data_lay b]; rfl
theorem datas_lay : ∀ ws : List Wd, PyData.canLayAll0 (ws.map Wd.data) = true
  | [] => lay_nil
  | x :: ws => by rw [List.map_cons, lay_cons, data_lay, datas_lay ws]; rfl
theorem data_depth : ∀ wd : Wd, wd.data.depth ≤ wd.depth
  | .on => by simp [Wd.data, PyData.depth, PyData.depthAll, Wd.depth]
  | .off => by simp [Wd.data, PyData.depth, PyData.depthAll, Wd.depth]
  | .relay k => by simp [Wd.data, PyData.depth, PyData.depthAll, Wd.depth]
  | .button k => by simp [Wd.data, PyData.depth, PyData.depthAll, Wd.depth]
  | .nt a => by have := data_depth a; simp [Wd.data, PyData.depth, PyData.depthAll, Wd.depth]; lia
  | .an a b => by have := data_depth a; have := data_depth b; simp [Wd.data, PyData.depth, PyData.depthAll, Wd.depth]; lia
  | .or a b => by have := data_depth a; have := data_depth b; simp [Wd.data, PyData.depth, PyData.depthAll, Wd.depth]; lia
theorem datas_depth {n : Nat} : ∀ {ws : List Wd}, (∀ x ∈ ws, x.depth ≤ n) → PyData.depthAll (ws.map Wd.data) ≤ n
  | [], _ => by simp [PyData.depthAll]
  | x :: ws, h => by
    have h1 := data_depth x
    have h2 := h x (by simp)
    have h3 := datas_depth (ws := ws) fun y hy => h y (by simp [hy])
    simp only [List.map_cons, PyData.depthAll]
    lia
theorem wsAt_datas {K : PySem.W.Frag} {H : Hp} : ∀ {ws : List Wd} {us : List V}, WsAt H ws us → DsAt K H (ws.map Wd.data) us
  | [], us, h => by
    have : us = [] := List.length_eq_zero_iff.mp h.1
    subst this
    exact .nil
  | x :: ws, us, h => by
    cases us with
    | nil => exact absurd h.1 (by simp)
    | cons u us =>
      obtain ⟨wd, e1, e2⟩ := h.2 0 u rfl
      have e1' : x = wd := by simpa using e1
      subst e1'
      exact .cons e2.data (wsAt_datas ⟨by have := h.1; simpa using this, fun i v e => by
        obtain ⟨wd, a, b⟩ := h.2 (i + 1) v (by simpa using e)
        exact ⟨wd, by simpa using a, b⟩⟩)
end RR



end
section
set_option Elab.async false
set_option linter.all false
set_option maxRecDepth 100000
set_option maxHeartbeats 4000000
namespace RR
open PySem L2
theorem cut_take (us : List V) (k : Nat) (h : k ≤ us.length) : cutV us none (some (k : Int)) = us.take k := by
  unfold cutV
  have e1 : HT.sIx us.length 0 none = 0 := rfl
  rw [HT.sIx_nat, e1, Nat.min_eq_left h]
  simp
theorem cut_drop (us : List V) (k : Nat) (h : k ≤ us.length) : cutV us (some (k : Int)) none = us.drop k := by
  unfold cutV
  have e1 : HT.sIx us.length us.length none = us.length := rfl
  rw [HT.sIx_nat, e1, Nat.min_eq_left h, ← List.length_drop, List.take_length]
end RR


end
section
set_option Elab.async false
set_option linter.all false
set_option maxRecDepth 100000
set_option maxHeartbeats 4000000
namespace L2
open PySem
theorem body_rngF {lo : Int} {n : Nat} {tc : TT} {te : TE} {σf : St} {Q : VK} {H1 : Hp} (hlen : n ≤ sizeLine) (keep : Nat → Bool) (G : Nat → V → Hp → Prop)
    (stable : ∀ i y H H', TupLe H H' → G i y H → G i y H')
    (test : ∀ i H (R : Bool → Hp → Prop), i < n → Same H1 H → (∀ H', Same H H' → R (keep i) H') → tc (some (.int (lo + i)) :: σf) H R)
    (step : ∀ i H (R : VK), i < n → keep i = true → Same H1 H → (∀ y H', Same H H' → G i y H' → R y H') → te (some (.int (lo + i)) :: σf) H R)
    (fin : ∀ D ys H', H1 D = none → Same H1 H' → H' D = some (.lst ys) → Paired (fun i y => G i y H') ((List.range n).filter keep) ys → Q (.ref D) H') :
    bodyC (Itr lo n) tc te σf Q H1 :=
  body_itemsF (xs := (List.range n).map fun (i : Nat) => V.int (lo + i)) keep G (by simpa using hlen)
    (fun i H s => ⟨fun hi => ⟨by simpa [Itr] using hi, fun x H' ⟨e, y⟩ => ⟨e, by
      have hi' : i < n := by simpa using hi
      rw [List.getElem?_map, List.getElem?_range hi', y]; rfl⟩⟩, fun e => by
        have : i = n := by simpa using e
        exact Nat.le_of_eq this.symm⟩) stable
    (fun i x H R hx => by
      have hi : i < n := by have := (List.getElem?_eq_some_iff.mp hx).1; simpa using this
      rw [List.getElem?_map, List.getElem?_range hi] at hx
      cases hx
      exact test i H R hi)
    (fun i x H R hx => by
      have hi : i < n := by have := (List.getElem?_eq_some_iff.mp hx).1; simpa using this
      rw [List.getElem?_map, List.getElem?_range hi] at hx
      cases hx
      exact step i H R hi) (fun D ys H' a b c d => fin D ys H' a b c (by simpa using d))
theorem paired_map {α : Type} {f : α → V} : ∀ {l : List α} {ys : List V}, Paired (fun i y => y = f i) l ys → ys = l.map f
  | _, _, .nil => rfl
  | _, _, .cons e t => by rw [e, paired_map t]; rfl
theorem call_list_ofK {X : Cx} {K : PySem.W.Frag} (h : X.K = K) : CallR X (.type "list") (fun xs H Q => ∃ p ys, xs = [.ref p] ∧ (SqL K H p ys ∨ SqT K H p ys) ∧ ∀ l, H l = none → Q (.ref l) (upd H l (.lst ys))) := h ▸ call_list_of
theorem call_tuple_ofK {X : Cx} {K : PySem.W.Frag} (h : X.K = K) : CallR X (.type "tuple") (fun xs H Q => ∃ p ys, xs = [.ref p] ∧ ((SqL K H p ys ∧ ∀ l, H l = none → Q (.ref l) (upd H l (.tup ys))) ∨ (SqT K H p ys ∧ Q (.ref p) H))) := h ▸ call_tuple_of
theorem pt_truthK {X : Cx} {K : PySem.W.Frag} {a : Expr} {ta : TE} (h : X.K = K) (ha : PE X a ta) (he : ∀ whole, isTrue a X.env whole = (do let v ← whole; standAt a.pos; holding [v] (truthy v))) :
    PT X a (fun σ H Q => ta σ H fun x H' => ∃ k, TruV K x H' k ∧ Q k H') := h ▸ pt_truth ha he
noncomputable def SameX (a : Addr) (H H' : Hp) : Prop := ∀ b o, b ≠ a → H b = some o → H' b = some o
theorem SameX.refl (a : Addr) (H : Hp) : SameX a H H := fun _ _ _ h => h
theorem SameX.trans {a : Addr} {H H1 H2 : Hp} (x : SameX a H H1) (y : SameX a H1 H2) : SameX a H H2 := fun b o n h => y b o n (x b o n h)
theorem Same.x {a : Addr} {H H' : Hp} (h : Same H H') : SameX a H H' := fun b o _ e => h b o e
theorem SameX.upd {a : Addr} {H : Hp} {o : HO} : SameX a H (upd H a o) := fun b u n e => by rw [upd_ne n]; exact e
end L2
namespace RR
open PySem L2
structure Bd (K : PySem.W.Frag) (H : Hp) (D b : Addr) (ws : List Wd) (pr : List Bool) : Prop where
  l : ∃ us, SqL K H D us ∧ WsAt H ws us
  p : BAt H b pr
  ok : ∀ wd ∈ ws, wd.ok ws.length pr.length ∧ wd.depth ≤ 8
  n : ws.length ≤ 6
theorem Bd.mono {K : PySem.W.Frag} {H H' : Hp} {D b : Addr} {ws : List Wd} {pr : List Bool} (h : Bd K H D b ws pr) (s : Same H H') : Bd K H' D b ws pr :=
  ⟨let ⟨us, a, c⟩ := h.l; ⟨us, s.seq a, c.mono s.tup⟩, s _ _ h.p, h.ok, h.n⟩
noncomputable def canM (ws : List Wd) (pr st : List Bool) (k : Nat) : Bool := (ws.getD k .off).worth st pr != st.getD k false
noncomputable def movs (ws : List Wd) (pr st : List Bool) : List Nat := (List.range ws.length).filter (canM ws pr st)
noncomputable def flip (st : List Bool) (k : Nat) : List Bool := st.set k (!st.getD k false)
noncomputable def nats (ks : List Nat) : List V := ks.map fun k => V.int (k : Nat)
theorem nats_len (ks : List Nat) : (nats ks).length = ks.length := List.length_map _
theorem flip_len (st : List Bool) (k : Nat) : (flip st k).length = st.length := List.length_set
theorem mem_movs {ws : List Wd} {pr st : List Bool} {k : Nat} : k ∈ movs ws pr st ↔ k < ws.length ∧ canM ws pr st k = true := by
  unfold movs; rw [List.mem_filter, List.mem_range]
theorem movs_len (ws : List Wd) (pr st : List Bool) : (movs ws pr st).length ≤ ws.length := by
  unfold movs
  have := List.length_filter_le (canM ws pr st) (List.range ws.length)
  simpa using this
theorem Bd.at {K : PySem.W.Frag} {H : Hp} {D b : Addr} {ws : List Wd} {pr : List Bool} (h : Bd K H D b ws pr) {k : Nat} (hk : k < ws.length) :
    ∃ us v, SqL K H D us ∧ us.length = ws.length ∧ atI us (k : Int) = some v ∧ WAt H (ws.getD k .off) v ∧ (ws.getD k .off).ok ws.length pr.length ∧ (ws.getD k .off).depth ≤ 8 := by
  obtain ⟨us, hl, hw⟩ := h.l
  have hk' : k < us.length := by rw [hw.1]; exact hk
  obtain ⟨wd, e, a⟩ := hw.2 k us[k] (by simp [hk'])
  have e2 : ws.getD k .off = wd := by simp [e]
  rw [e2]
  exact ⟨us, us[k], hl, hw.1, atI_nat (by simp [hk']), a, h.ok wd (List.mem_of_getElem? e)⟩
inductive I_spCan (K : PySem.W.Frag) (vs : List V) (H : Hp) (Q : VK) : Prop
  | mk : ∀ (D b a : Addr) (ws : List Wd) (pr st : List Bool) (k : Nat), (vs = [.ref D, .ref b, .ref a, .int k]) → (Bd K H D b ws pr) → (BAt H a st) → (st.length = ws.length) → (k < ws.length) → (Q (.bl (canM ws pr st k)) H) → I_spCan K vs H Q
noncomputable def spCan (K : PySem.W.Frag) : Sp := fun vs H Q _ => I_spCan K vs H Q
inductive I_spMovable (K : PySem.W.Frag) (vs : List V) (H : Hp) (Q : VK) : Prop
  | mk : ∀ (D b a : Addr) (ws : List Wd) (pr st : List Bool), (vs = [.ref D, .ref b, .ref a]) → (Bd K H D b ws pr) → (BAt H a st) → (st.length = ws.length) → (∀ l H', H l = none → Same H H' → H' l = some (.lst (nats (movs ws pr st))) → Q (.ref l) H') → I_spMovable K vs H Q
noncomputable def spMovable (K : PySem.W.Frag) : Sp := fun vs H Q _ => I_spMovable K vs H Q
inductive I_spMoved (vs : List V) (H : Hp) (Q : VK) : Prop
  | mk : ∀ (a : Addr) (st : List Bool) (k : Nat), (vs = [.ref a, .int k]) → (BAt H a st) → (k < st.length) → (st.length ≤ 63) → (∀ p H', Same H H' → BAt H' p (flip st k) → Q (.ref p) H') → I_spMoved vs H Q
noncomputable def spMoved : Sp := fun vs H Q _ => I_spMoved vs H Q
noncomputable def RowsAt' (H : Hp) (rs : List (List Bool)) (vs : List V) : Prop := Paired (fun r v => ∃ a, v = V.ref a ∧ BAt H a r) rs vs
theorem RowsAt'.mono {H H' : Hp} {rs : List (List Bool)} {vs : List V} (h : RowsAt' H rs vs) (t : TupLe H H') : RowsAt' H' rs vs := Paired.mono' (fun r v ⟨a, e, q⟩ => ⟨a, e, t _ _ q⟩) h
noncomputable def isRest (ws : List Wd) (pr st : List Bool) : Bool := (movs ws pr st).isEmpty
noncomputable def restsOf (ws : List Wd) (pr : List Bool) : List (List Bool) := (allRows ws.length).filter (isRest ws pr)
inductive I_spRests (K : PySem.W.Frag) (vs : List V) (H : Hp) (Q : VK) : Prop
  | mk : ∀ (D b : Addr) (ws : List Wd) (pr : List Bool), (vs = [.ref D, .ref b]) → (Bd K H D b ws pr) → (∀ l us H', H l = none → Same H H' → H' l = some (.lst us) → RowsAt' H' (restsOf ws pr) us → Q (.ref l) H') → I_spRests K vs H Q
noncomputable def spRests (K : PySem.W.Frag) : Sp := fun vs H Q _ => I_spRests K vs H Q
theorem paired_of_map {α β γ : Type} {R : β → γ → Prop} {f : α → β} : ∀ {l : List α} {ys : List γ}, Paired (fun i y => R (f i) y) l ys → Paired R (l.map f) ys
  | _, _, .nil => .nil
  | _, _, .cons r t => .cons r (paired_of_map t)
end RR


end
section
set_option Elab.async false
set_option linter.all false
set_option maxRecDepth 100000
set_option maxHeartbeats 4000000
namespace RR
open PySem L2
noncomputable def natsD (ks : List Nat) : PyData := .list (ks.map fun (k : Nat) => .int (k : Int))
noncomputable def intsD (ks : List Int) : PyData := .list (ks.map .int)
noncomputable def standD (st : List Bool) : PyData := .tuple (st.map .bool)
noncomputable def rowsD (rs : List (List Bool)) : PyData := .list (rs.map standD)
noncomputable def GoodD (d : PyData) : Prop := d.canLay0 = true ∧ d.depth ≤ 64
theorem eqD_of {K : PySem.W.Frag} {H : Hp} {x y : V} {neg : Bool} {Q : VK} {d e : PyData} {c : Bool} (hd : DAt K H d x) (he : DAt K H e y) (gd : GoodD d) (ge : GoodD e) (hc : PyData.eqv d e = c) (q : Q (.bl (if neg then !c else c)) H) : rEqD K neg x y H Q :=
  ⟨d, e, hd, he, gd.1, ge.1, .inl gd.2, by rw [hc]; exact q⟩
theorem eqD_refl {d : PyData} (g : GoodD d) : PyData.eqv d d = true := SeqAt.eqv_refl _ g.1
theorem lay_ints : ∀ ks : List Int, PyData.canLayAll0 (ks.map PyData.int) = true
  | [] => by simp [PyData.canLayAll0]
  | b :: bs => by simp [PyData.canLayAll0, PyData.canLay0, lay_ints bs]
theorem depth_ints : ∀ bs : List Int, PyData.depthAll (bs.map PyData.int) ≤ 1
  | [] => by simp [PyData.depthAll]
  | b :: bs => by
    have := depth_ints bs
    simp [PyData.depthAll, PyData.depth]
    try lia
theorem nats_ints (ks : List Nat) : (ks.map fun (k : Nat) => PyData.int (k : Int)) = (ks.map fun (k : Nat) => (k : Int)).map PyData.int := by simp
theorem natsD_eq (ks : List Nat) : natsD ks = intsD (ks.map fun (k : Nat) => (k : Int)) := by unfold natsD intsD; rw [nats_ints]
theorem goodInts (ks : List Int) : GoodD (intsD ks) := ⟨by unfold intsD; rw [lay_lst]; exact lay_ints ks, by
  have := depth_ints ks
  simp only [intsD, PyData.depth]; lia⟩
theorem goodNats (ks : List Nat) : GoodD (natsD ks) := natsD_eq ks ▸ goodInts _
theorem goodStand (st : List Bool) : GoodD (standD st) := ⟨by unfold standD; rw [lay_tup]; exact lay_bools st, by
  have := depth_bools st
  simp only [standD, PyData.depth]; lia⟩
theorem depth_stand (st : List Bool) : (standD st).depth ≤ 2 := by
  have := depth_bools st
  simp only [standD, PyData.depth]; lia
theorem lay_rows : ∀ rs : List (List Bool), PyData.canLayAll0 (rs.map standD) = true
  | [] => by simp [PyData.canLayAll0]
  | r :: rs => by simp [PyData.canLayAll0, (goodStand r).1, lay_rows rs]
theorem depth_rows : ∀ rs : List (List Bool), PyData.depthAll (rs.map standD) ≤ 2
  | [] => by simp [PyData.depthAll]
  | r :: rs => by
    have := depth_rows rs
    have := depth_stand r
    simp only [List.map_cons, PyData.depthAll]; lia
theorem goodRows (rs : List (List Bool)) : GoodD (rowsD rs) := ⟨by unfold rowsD; rw [lay_lst]; exact lay_rows rs, by
  have := depth_rows rs
  simp only [rowsD, PyData.depth]; lia⟩
noncomputable def wordsD (ws : List Wd) : PyData := .list (ws.map Wd.data)
theorem goodWords {ws : List Wd} (h : ∀ x ∈ ws, x.depth ≤ 30) : GoodD (wordsD ws) := ⟨by unfold wordsD; rw [lay_lst]; exact datas_lay ws, by
  have := datas_depth h
  simp only [wordsD, PyData.depth]; lia⟩
theorem standD_at {K : PySem.W.Frag} {H : Hp} {a : Addr} {st : List Bool} (h : BAt H a st) : DAt K H (standD st) (.ref a) := .tuple (SqT.of h) (DsAt.map (fun k => .bool _) st)
theorem rowsD_ats {K : PySem.W.Frag} {H : Hp} : ∀ {rs : List (List Bool)} {vs : List V}, RowsAt' H rs vs → DsAt K H (rs.map standD) vs
  | _, _, .nil => .nil
  | _, _, .cons ⟨a, e, q⟩ t => .cons (e ▸ standD_at q) (rowsD_ats t)
theorem rowsD_at {K : PySem.W.Frag} {H : Hp} {l : Addr} {rs : List (List Bool)} {vs : List V} (h : SqL K H l vs) (r : RowsAt' H rs vs) : DAt K H (rowsD rs) (.ref l) := .list h (rowsD_ats r)
theorem wordsD_at {K : PySem.W.Frag} {H : Hp} {l : Addr} {ws : List Wd} {vs : List V} (h : SqL K H l vs) (r : WsAt H ws vs) : DAt K H (wordsD ws) (.ref l) := .list h (wsAt_datas r)
theorem emptyD_at {K : PySem.W.Frag} {H : Hp} {l : Addr} (h : H l = some (.lst [])) : DAt K H (natsD []) (.ref l) := .list (SqL.of h) .nil
theorem eqv_bools' : ∀ a b : List Bool, PyData.eqvAll (a.map PyData.bool) (b.map PyData.bool) = decide (a = b)
  | [], [] => by simp [PyData.eqvAll]
  | [], _ :: _ => by simp [PyData.eqvAll]
  | _ :: _, [] => by simp [PyData.eqvAll]
  | x :: a, y :: b => by
    have := eqv_bools' a b
    simp only [List.map_cons, PyData.eqvAll, this]
    cases x <;> cases y <;> simp [PyData.eqv]
theorem eqv_stand (a b : List Bool) : PyData.eqv (standD a) (standD b) = decide (a = b) := by
  simp only [standD, PyData.eqv]; exact eqv_bools' a b
theorem paired_get {α β : Type} {R : α → β → Prop} : ∀ {l : List α} {r : List β}, Paired R l r → ∀ {i : Nat} {y : β}, r[i]? = some y → ∃ x, l[i]? = some x ∧ R x y
  | _, _, .nil, i, y, e => by simp at e
  | _, _, .cons h t, 0, y, e => by simp at e; subst e; exact ⟨_, rfl, h⟩
  | _, _, .cons h t, i + 1, y, e => by
    obtain ⟨x, a, b⟩ := paired_get t (i := i) (y := y) (by simpa using e)
    exact ⟨x, by simpa using a, b⟩
theorem paired_get' {α β : Type} {R : α → β → Prop} : ∀ {l : List α} {r : List β}, Paired R l r → ∀ {i : Nat} {x : α}, l[i]? = some x → ∃ y, r[i]? = some y ∧ R x y
  | _, _, .nil, i, y, e => by simp at e
  | _, _, .cons h t, 0, y, e => by simp at e; subst e; exact ⟨_, rfl, h⟩
  | _, _, .cons h t, i + 1, y, e => by
    obtain ⟨x, a, b⟩ := paired_get' t (i := i) (x := y) (by simpa using e)
    exact ⟨x, by simpa using a, b⟩
end RR


end
section
set_option Elab.async false
set_option linter.all false
set_option maxRecDepth 100000
set_option maxHeartbeats 4000000
namespace RR
open PySem PySem.W L2
noncomputable def walkI (ws : List Wd) (pr : List Bool) : List Bool → List Int → Sum Nat (List Bool)
  | st, [] => .inr st
  | st, m :: ms => if m < 0 ∨ (ws.length : Int) ≤ m then .inl 3 else if canM ws pr st m.toNat = true then walkI ws pr (flip st m.toNat) ms else .inl 4
noncomputable def excM (c3 c4 : Addr) (k : Nat) : Addr := if k = 3 then c3 else c4
inductive I_spWalked (K : Frag) (c3 c4 : Addr) (vs : List V) (H : Hp) (Q : VK) (E : XK) : Prop
  | mk : ∀ (D b a l : Addr) (ws : List Wd) (pr st : List Bool) (ms : List Int), (vs = [.ref D, .ref b, .ref a, .ref l]) → (Bd K H D b ws pr) → (BAt H a st) → (st.length = ws.length) → (SqL K H l (ms.map V.int)) → (match walkI ws pr st ms with
  | .inr st' => ∀ p H', Same H H' → BAt H' p st' → Q (.ref p) H'
  | .inl k => ∀ H', Same H H' → E (.ref (excM c3 c4 k)) none H') → I_spWalked K c3 c4 vs H Q E
noncomputable def spWalked (K : Frag) (c3 c4 : Addr) : Sp := fun vs H Q E => I_spWalked K c3 c4 vs H Q E
inductive I_spLList (K : Frag) (vs : List V) (H : Hp) (Q : VK) : Prop
  | mk : ∀ (l d : Addr) (ks : List Nat), (vs = [.ref l, .ref d]) → (H l = some (.lst (nats ks))) → (SqL K H d (nats ks)) → (ks.length ≤ 1000) → (Q (.bl true) H) → I_spLList K vs H Q
noncomputable def spLList (K : Frag) : Sp := fun vs H Q _ => I_spLList K vs H Q
structure MarkE (K : PySem.W.Frag) (c c0 c1 c2 c3 c4 c5 cr : Addr) (k : Nat) : Prop where
  ex : PySem.W.excIn K c VErr "ValueError.__new__" = true
  get : ExcGet K c
  m : PySem.W.mroIn K c (.ref cr) = some true
  j0 : PySem.W.kitOne K (.ref c) (.ref c0) = some (decide (0 = k))
  j1 : PySem.W.kitOne K (.ref c) (.ref c1) = some (decide (1 = k))
  j2 : PySem.W.kitOne K (.ref c) (.ref c2) = some (decide (2 = k))
  j3 : PySem.W.kitOne K (.ref c) (.ref c3) = some (decide (3 = k))
  j4 : PySem.W.kitOne K (.ref c) (.ref c4) = some (decide (4 = k))
  j5 : PySem.W.kitOne K (.ref c) (.ref c5) = some (decide (5 = k))
  jv : PySem.W.kitOne K (.ref c) (.type "ValueError") = some true
inductive I_spToldW (K : Frag) (vs : List V) (H : Hp) (Q : VK) : Prop
  | mk : ∀ (D b a l : Addr) (ws : List Wd) (pr st : List Bool) (ms : List Int), (vs = [.ref D, .ref b, .ref a, .ref l]) → (Bd K H D b ws pr) → (BAt H a st) → (st.length = ws.length) → (SqL K H l (ms.map V.int)) → (∀ p v m bs H', Same H H' → H' p = some (.tup [v, .ref m]) → H' m = some (.lst (bs.map V.bl)) → (match walkI ws pr st ms with
    | .inr st' => bs = [] ∧ ∃ x, v = .ref x ∧ BAt H' x st'
    | .inl k => bs = marksOf k) → Q (.ref p) H') → I_spToldW K vs H Q
noncomputable def spToldW (K : Frag) : Sp := fun vs H Q _ => I_spToldW K vs H Q
end RR


end
section
set_option Elab.async false
set_option linter.all false
set_option maxRecDepth 100000
set_option maxHeartbeats 4000000
namespace L2
open PySem PySem.Spec PyProof.Rows
noncomputable def RawD (h : Heap) (d : Addr) (es : Array DictEntry) (ep : Nat) : Prop := ∃ o, h.get? d = some o ∧ o.ExactDict ∧ o.data = .dict es ep
section
variable {prog : Program} {w : World} {A : Around} {E : Value → Shared → Prop} {s : Shared} {d it : Addr} {es : Array DictEntry} {ep i : Nat}
theorem RawD.ty (r : RawD s.heap d es ep) : s.TypeIs (.ref d) "dict" := let ⟨o, e, x, _⟩ := r; ⟨o, e, x.1⟩
theorem raw_iter {Q : Value → Shared → Prop} (lo : (d == sysModules) = false) (r : RawD s.heap d es ep)
    (q : Q (.ref s.heap.objs.size) { s with heap := s.heap.push { cls := .type "dict_keyiterator", data := .fields #[.ref d, .int 0 0, .int es.size 0, .int ep 0] } }) :
    wpAny (model prog w) A (pyIter (.ref d)) Q E s := by
  obtain ⟨ob, e1, e2, e3⟩ := id r
  refine wpAny_pyIter_slot r.ty F.slot_dict_iter (wpAny_call_entry F.slot_dict_iter r.ty F.entry_dict_iter ?_ (F.args_dict_iter_1 _))
  unfold Builtin.«dict.__iter__»; refine wpAny_bind ?_
  unfold Builtin.Dict.dictSlotNone; refine wpAny_bind (wpAny_notOrdered_dict r.ty ?_)
  show wpAny _ _ (pure (Value.ref d)) _ _ s; refine wpAny_pure ?_
  show wpAny _ _ (Builtin.Dict.showsAll d >>= _) _ _ s; unfold Builtin.Dict.showsAll
  rw [if_neg (by rw [lo]; exact Bool.false_ne_true)]; refine wpAny_bind (wpAny_pure (wpAny_bind (wpAny_dictEntries e1 e3 (wpAny_bind (wpAny_dictEpoch e1 e3 ?_)))))
  refine wpAny_bind (wpAny_newObj_type (wpAny_pure ⟨_, rfl, "dict_keyiterator", _, ⟨_, Heap.get?_push_size _ rfl, rfl⟩, F.slot_dict_keyiterator_next.lookup, ?_⟩)); simpa [rawInt] using q
theorem raw_next {Q : Option Value → Shared → Prop} (t : s.heap.IsKeyIter it d i es.size ep) (r : RawD s.heap d es ep) (hi : i < es.size)
    (q : ∀ h', h'.IsKeyIter it d (i + 1) es.size ep → Heap.SameBut it s.heap h' → Q (some es[i].key) { s with heap := h' }) : wpAny (model prog w) A (pyNext (.ref it)) Q E s := by
  obtain ⟨oi, i1, i2, i3⟩ := id t
  obtain ⟨ob, e1, e2, e3⟩ := id r
  unfold pyNext; refine wpAny_bind (wpAny_attempt (wpAny_callSpecial?_slot (name := Str.ofString "__next__") t.typeIs F.slot_dict_keyiterator_next (wpAny_call_entry F.slot_dict_keyiterator_next t.typeIs F.entry_dict_keyiterator_next ?_ (F.args_dict_keyiterator_next_1 _))))
  refine wpAny_bind (wpAny_pure (wpAny_bind (wpAny_bind ?_)))
  first | refine wpAny_bind (wpAny_typeNameOfWhole_keyiter t.typeIs (wpAny_pure ?_)) | refine wpAny_bind (wpAny_typeNameOf_keyiter t.typeIs (wpAny_pure ?_))
  refine wpAny_bind (wpAny_fieldsOf i1 i3 ?_)
  simp only [show Builtin.Dict_items.ownsTuple "dict_keyiterator" = false from by decide, Bool.false_eq_true, if_false]
  show wpAny _ _ (if (Value.ref d == Value.none) = true then _ else _) _ _ s; rw [if_neg (show ¬ ((Value.ref d == Value.none) = true) from Bool.false_ne_true)]
  refine wpAny_bind (wpAny_pure (wpAny_bind (wpAny_dictEntries e1 e3 ?_)))
  rw [if_neg (by simp)]; refine wpAny_bind (wpAny_pure (wpAny_bind (wpAny_dictEpoch e1 e3 ?_)))
  rw [if_neg (by simp)]; refine wpAny_pure ?_
  simp only [show ¬ ((i : Int) < 0) from by lia, if_false, Int.toNat_natCast, Array.getElem?_eq_getElem hi]; refine wpAny_bind ?_
  first | refine wpAny_bind (wpAny_typeNameOfWhole_keyiter t.typeIs (wpAny_pure ?_)) | refine wpAny_bind (wpAny_typeNameOf_keyiter t.typeIs (wpAny_pure ?_))
  refine wpAny_bind (wpAny_isOneOf_keyiter t.typeIs ?_)
  show wpAny _ _ (setField (.ref it) 1 (rawInt ((i : Int) + 1)) >>= _) _ _ s; refine wpAny_bind (wpAny_setField i1 i3 (by simp) ?_)
  have t2 : (s.heap.update it (Obj.mapFields (·.setIfInBounds 1 (rawInt ((i : Int) + 1))))).IsKeyIter it d (i + 1) es.size ep :=
    ⟨_, Heap.get?_update_self _ i1 (Obj.isFreed_of_fields (Obj.data_mapFields i3 _)), (Obj.cls_mapFields ..).trans i2, by rw [Obj.data_mapFields i3]; simp [rawInt]⟩
  refine wpAny_bind (wpAny_holding (wpAny_bind (wpAny_isOneOf_keyiter (s := { s with heap := s.heap.update it (Obj.mapFields (·.setIfInBounds 1 (rawInt ((i : Int) + 1)))) }) t2.typeIs ?_)))
  show wpAny _ _ (pure es[i].key) _ _ _; exact wpAny_pure (wpAny_pure ⟨_, rfl, wpAny_pure (q _ t2 (Heap.SameBut.update ..))⟩)
theorem raw_end {Q : Option Value → Shared → Prop} (hh : A.handled = none) (t : s.heap.IsKeyIter it d i es.size ep) (r : RawD s.heap d es ep) (hi : es.size ≤ i)
    (q : ∀ h', Heap.ExtBut it s.heap h' → Q none { s with heap := h' }) : wpAny (model prog w) A (pyNext (.ref it)) Q E s := by
  obtain ⟨oi, i1, i2, i3⟩ := id t
  obtain ⟨ob, e1, e2, e3⟩ := id r
  unfold pyNext; refine wpAny_bind (wpAny_attempt (wpAny_callSpecial?_slot (name := Str.ofString "__next__") t.typeIs F.slot_dict_keyiterator_next (wpAny_call_entry F.slot_dict_keyiterator_next t.typeIs F.entry_dict_keyiterator_next ?_ (F.args_dict_keyiterator_next_1 _))))
  refine wpAny_bind (wpAny_pure (wpAny_bind (wpAny_bind ?_)))
  first | refine wpAny_bind (wpAny_typeNameOfWhole_keyiter t.typeIs (wpAny_pure ?_)) | refine wpAny_bind (wpAny_typeNameOf_keyiter t.typeIs (wpAny_pure ?_))
  refine wpAny_bind (wpAny_fieldsOf i1 i3 ?_)
  simp only [show Builtin.Dict_items.ownsTuple "dict_keyiterator" = false from by decide, Bool.false_eq_true, if_false]
  show wpAny _ _ (if (Value.ref d == Value.none) = true then _ else _) _ _ s; rw [if_neg (show ¬ ((Value.ref d == Value.none) = true) from Bool.false_ne_true)]
  refine wpAny_bind (wpAny_pure (wpAny_bind (wpAny_dictEntries e1 e3 ?_)))
  rw [if_neg (by simp)]; refine wpAny_bind (wpAny_pure (wpAny_bind (wpAny_dictEpoch e1 e3 ?_)))
  rw [if_neg (by simp)]; refine wpAny_pure ?_
  simp only [show ¬ ((i : Int) < 0) from by lia, if_false, Int.toNat_natCast, Array.getElem?_eq_none hi]; refine wpAny_bind ?_
  first | refine wpAny_bind (wpAny_typeNameOfWhole_keyiter t.typeIs (wpAny_pure ?_)) | refine wpAny_bind (wpAny_typeNameOf_keyiter t.typeIs (wpAny_pure ?_))
  show wpAny _ _ (setField (.ref it) 0 .none >>= _) _ _ s; refine wpAny_bind (wpAny_setField i1 i3 (by simp) ?_)
  show wpAny _ _ (newExc (.type "StopIteration") [] >>= _) _ _ _; refine wpAny_bind ?_
  simp only [newExc, newTuple]; refine wpAny_bind (wpAny_newObj_type ?_ (by size_fits))
  refine wpAny_bind (m := firstArgMember _ _) (wpAny_of_eq (a := Value.none) (by first | rfl | (simp only [firstArgMember]; rfl)) (wpAny_newObj_type ?_ (by size_fits)))
  simp only [raiseNew]; refine wpAny_bind (wpAny_handled ?_)
  rw [show A.in1.handled = none from hh]; refine wpAny_bind (wpAny_pure (wpAny_throw ?_)); refine wpAny_bind (wpAny_isInstance (T := "StopIteration") (b := true) ⟨_, Heap.get?_push_size _ rfl, rfl⟩ isSubtype_stop ?_)
  exact wpAny_pure (q _ (((Heap.SameBut.update ..).extBut.push _).push _))
end
end L2


end
section
set_option Elab.async false
set_option linter.all false
set_option maxRecDepth 100000
set_option maxHeartbeats 4000000
namespace L2
open PySem PySem.Spec PyProof.Rows
section
variable {prog : Program} {w : World} {A : Around} {E : Value → Shared → Prop} {s : Shared} {d : Addr} {es : Array DictEntry} {ep : Nat}
theorem raw_len_meets (lo : (d == sysModules) = false) : MeetsIn prog w (Builtin.«dict.__len__» ⟨[.ref d], []⟩) (fun _ R s => ∃ es ep, RawD s.heap d es ep ∧ R (.ok (.ret (.int es.size s.toks))) { s with toks := s.toks + 1 }) :=
  .of_wp fun A R s ⟨es, ep, r, q⟩ => by
    obtain ⟨ob, e1, _, e3⟩ := r
    show wpAny _ _ (dictSize d >>= _) _ _ s; unfold dictSize
    refine wpAny_bind (wpAny_bind (wpAny_dictEntries e1 e3 (wpAny_pure ?_)))
    show wpAny _ _ (Builtin.Dict.pendingCount d >>= _) _ _ s; refine wpAny_bind (wpAny_pendingCount_other lo (wpAny_ret_mkInt ?_))
    rw [Nat.add_zero]; exact q
theorem raw_len {Q : Value → Shared → Prop} (lo : (d == sysModules) = false) (r : RawD s.heap d es ep) (fit : (es.size : Int) < 2 ^ 63) (q : ∀ t t', Q (.int es.size t) { s with toks := t' }) : wpAny (model prog w) A (call (.builtin "len") [.ref d]) Q E s := by
  refine Calls.call_function_entry kind_len plain_len entry_len (args_len1 _) ?_
  unfold Builtin.«len»; refine wpAny_bind (m := oneArg "len" _) (wpAny_pure ?_)
  refine wpAny_bind (m := callSpecial? (.ref d) (Str.ofString "__len__")) (wpAny_callSpecial?_slot (name := Str.ofString "__len__") r.ty F.slot_dict_len (call_meetsIn F.slot_dict_len r.ty F.entry_dict_len (F.args_dict_len_1 _) (raw_len_meets lo) ⟨es, ep, r, ?_⟩))
  show wpAny _ _ _ _ _ { s with toks := s.toks + 1 }; refine wpAny_bind (wpAny_holding (wpAny_pure (wpAny_bind (wpAny_letGo ?_))))
  show wpAny _ _ (if ((es.size : Nat) : Int) < 0 then _ else _) _ _ _; rw [if_neg (by lia)]
  show wpAny _ _ (if ((es.size : Nat) : Int) ≥ 2 ^ 63 then _ else _) _ _ _; rw [if_neg (by lia)]
  exact wpAny_bind (wpAny_mkInt (wpAny_pure ⟨_, rfl, q _ _⟩))
end
section
variable {X : Cx} {pins : List (Addr × Obj)} {σ : St} {H : Hp} {s : Shared} {a : Addr} {kvs : List (List Key × V)}
theorem dt_raw (I : Inv X pins σ H s) (e : Rd H a (.dT kvs)) : kvs.length ≤ sizeLine ∧ (a == sysModules) = false ∧ ∃ es ep xs, RawD s.heap a es ep ∧ KT H kvs xs ∧ es.toList = xs.map (entryOfKey (tupleKind (mixKind X.prog X.w))) ∧ es.size = kvs.length := by
  obtain ⟨z, y, xs, r, o, es, ep, h1, h2, h3, h4, h5⟩ := (show ObjOk X.prog X.w H s.heap a (.dT kvs) from e.ok I.hok)
  refine ⟨z, y, es, ep, xs, ⟨o, h1, h2, h3⟩, r, h4, ?_⟩
  have q1 := congrArg List.length h4
  have q2 := Paired.length r
  simp at q1
  lia
theorem kt_key {xs : List (List Key × Addr × Value)} {P : Program} {w : World} {es : Array DictEntry} (r : KT H kvs xs) (he : es.toList = xs.map (entryOfKey (tupleKind (mixKind P w)))) {i : Nat} (hi : i < es.size) :
    ∃ kv b, kvs[i]? = some kv ∧ es[i].key = .ref b ∧ H b = some (.tup (kv.1.map kV)) := by
  have e1 : es.toList[i]? = some es[i] := by simp [hi]
  rw [he, List.getElem?_map] at e1
  cases hx : xs[i]? with
  | none => rw [hx] at e1; cases e1
  | some x =>
    rw [hx] at e1
    obtain ⟨kv, k1, k2, k3, _⟩ := RR.paired_get r hx
    refine ⟨kv, x.2.1, k1, ?_, k3⟩
    have e2 := Option.some.inj e1
    rw [← e2]
    rfl
theorem call_lenT : CallR X (.builtin "len") (fun xs H Q => ∃ a kvs, xs = [.ref a] ∧ Rd H a (.dT kvs) ∧ Q (.int kvs.length) H) := by
  intro pins s σ H xs us Q I r h
  obtain ⟨a, kvs, rfl, e, q⟩ := h
  obtain ⟨u, rfl, rx⟩ := vals1 r
  cases rx
  obtain ⟨z, lo, es, ep, xs, raw, kt, he, hs⟩ := dt_raw I e
  rw [sizeLine_eq] at z
  refine raw_len lo raw (by lia) fun t t' => ⟨.int kvs.length, H, I.tok _, ⟨t, ?_⟩, q⟩
  rw [hs]
noncomputable def rClearT : V → List V → Hp → VK → Prop := fun x vs H Q => ∃ d kvs, x = .ref d ∧ vs = [] ∧ H d = some (.dT kvs) ∧ Q .non (upd H d (.dT []))
theorem Inv.freeze (I : Inv X pins σ H s) (e : H a = some (.dT kvs)) : ∃ o, Inv X pins σ (upd H a (.frz o (.dT kvs))) s := by
  obtain ⟨z, y, xs, r, o, es, ep, h1, h2, h3, h4, h5⟩ := (show ObjOk X.prog X.w H s.heap a (.dT kvs) from I.hok a _ e)
  refine ⟨o, ?_⟩
  have := I.write (x := a) (e := a) (o := .frz o (.dT kvs)) (h' := s.heap) (t' := s.toks) (by rw [e]; exact True.intro) (.inl rfl) (fun b u _ q => q) ⟨o, h1⟩ ⟨h1, z, y, xs, KT.keeps r fun c ys ec => ?_, o, es, ep, h1, h2, h3, h4, h5⟩
  · exact this
  · rw [upd_ne (ne_of ec e (fun z => nomatch z))]
    exact ec
inductive I_tFrz (x : V) (H1 : Hp) (Q : VK) : Prop
  | mk : ∀ a kvs, (x = .ref a) → (H1 a = some (.dT kvs)) → (∀ o, Q x (upd H1 a (.frz o (.dT kvs)))) → I_tFrz x H1 Q
noncomputable def tFrz (t : TE) : TE := fun σ H Q => t σ H fun x H1 => I_tFrz x H1 Q
theorem pe_frz {e : Expr} {t : TE} (h : PE X e t) : PE X e (tFrz t) := by
  intro pins s σ H Q I q
  refine thn (h pins s σ H _ I q) fun v s1 ⟨x, H1, I1, r1, a, kvs, ex, e1, q1⟩ => ?_
  obtain ⟨o, I2⟩ := I1.freeze e1
  exact ⟨x, _, I2, r1, q1 o⟩
noncomputable def Itd (a : Addr) (o : Obj) : It :=
  ⟨fun i H => ∃ kvs, H a = some (.frz o (.dT kvs)) ∧ i < kvs.length, fun i H x H' => H' = H ∧ ∀ kvs, H a = some (.frz o (.dT kvs)) → ∃ kv b, kvs[i]? = some kv ∧ x = .ref b ∧ H b = some (.tup (kv.1.map kV)), fun i H => ∃ kvs, H a = some (.frz o (.dT kvs)) ∧ kvs.length ≤ i⟩
theorem turn_dict {P : Program} {w : World} {K : PySem.W.Frag} {tg : Expr} (a it : Addr) (o : Obj) (es : Array DictEntry) (ep : Nat) (ho : o.data = .dict es ep) : Turn P w K tg (Itd a o) [it] it (fun i h => h.IsKeyIter it a i es.size ep) where
  mem := by simp
  obj := fun i h st b hb => by
    have e : b = it := by simpa using hb
    subst e
    obtain ⟨o, e, c, d⟩ := st
    exact ⟨o, e, fun v z => by rw [d] at z; cases z⟩
  keep := fun i h h' st k => st.at fun o e => k it (by simp) o e
  item := by
    intro X hP hw hK hc i pins s σ H E I hf st hg
    subst hP hw hK
    obtain ⟨kvs, hq, hi⟩ := hg
    obtain ⟨z, lo, es', ep', xs, raw, kt, he, hs⟩ := dt_raw I (.inr ⟨o, hq⟩)
    have same : es' = es ∧ ep' = ep := by
      obtain ⟨o2, g1, _, g3⟩ := raw
      have g4 : s.heap.get? a = some o := (show ObjOk X.prog X.w H s.heap a (.frz o (.dT kvs)) from I.hok a _ hq).1
      rw [g4] at g1
      cases g1
      rw [ho] at g3
      cases g3
      exact ⟨rfl, rfl⟩
    obtain ⟨rfl, rfl⟩ := same
    obtain ⟨f0, f1, f2, f3, f4, f5⟩ := hf it (by simp)
    obtain ⟨kv, b, k1, k2, k3⟩ := kt_key kt he (i := i) (by lia)
    refine raw_next st raw (by lia) fun h' st' sb => ?_
    have I1 : Inv X pins σ H { s with heap := h' } := I.turned (t' := s.toks) (fun b o hb e => (sb.2 b hb).trans e) f0 f1 f3 f4 f5
    obtain ⟨o2, e2, c2, d2⟩ := id st'
    refine ⟨_, rfl, go_of (s := { s with heap := h' }) e2 c2 d2 (by decide) ⟨.ref b, H, I1, k2, ⟨rfl, fun kvs' hq' => ?_⟩, st', fun b hb => (hf b hb).1⟩⟩
    rw [hq] at hq'
    cases hq'
    exact ⟨kv, b, k1, rfl, k3⟩
  done := by
    intro X hP hw hK hc i pins s σ H E I hf st hg
    subst hP hw hK
    obtain ⟨kvs, hq, hi⟩ := hg
    obtain ⟨z, lo, es', ep', xs, raw, kt, he, hs⟩ := dt_raw I (.inr ⟨o, hq⟩)
    have same : es' = es ∧ ep' = ep := by
      obtain ⟨o2, g1, _, g3⟩ := raw
      have g4 : s.heap.get? a = some o := (show ObjOk X.prog X.w H s.heap a (.frz o (.dT kvs)) from I.hok a _ hq).1
      rw [g4] at g1
      cases g1
      rw [ho] at g3
      cases g3
      exact ⟨rfl, rfl⟩
    obtain ⟨rfl, rfl⟩ := same
    obtain ⟨f0, f1, f2, f3, f4, f5⟩ := hf it (by simp)
    exact raw_end (I.ok.hd hc) st raw (by lia) fun h' eb => ⟨rfl, I.turned (t' := s.toks) (fun b o hb e => eb b o hb e) f0 f1 f3 f4 f5⟩
  self := fun _ _ _ _ _ st h => wpAny_pyIter_keyiter st h
inductive I_iDict (x : V) (H1 : Hp) (R : It → Hp → Prop) : Prop
  | mk : ∀ a o kvs, (x = .ref a) → (H1 a = some (.frz o (.dT kvs))) → (R (Itd a o) H1) → I_iDict x H1 R
noncomputable def iDict (td : TE) : TI := fun σ H R => td σ H fun x H1 => I_iDict x H1 R
theorem pi_dict {tg l : Expr} {td : TE} (hl : PE X l td) : PI X tg l (iDict td) := by
  intro pins s σ H R I h
  refine thn (hl pins s σ H _ I h) fun v s1 ⟨x, H1, I1, r1, a, o, kvs, ex, hq, q⟩ => ?_
  subst ex
  cases r1
  obtain ⟨z, lo, es, ep, xs, raw, kt, he, hs⟩ := dt_raw I1 (.inr ⟨o, hq⟩)
  refine raw_iter lo raw ?_
  have ho : o.data = .dict es ep := by
    obtain ⟨o2, g1, _, g3⟩ := raw
    have g4 : s1.heap.get? a = some o := (show ObjOk X.prog X.w H1 s1.heap a (.frz o (.dT kvs)) from I1.hok a _ hq).1
    rw [g4] at g1
    cases g1
    exact g3
  refine ⟨s1.heap.objs.size, [s1.heap.objs.size], _, _, H1, rfl, I1.kept (t' := s1.toks) fun b o e => Heap.get?_push_of_some _ e, turn_dict a _ o es ep ho, ⟨_, Heap.get?_push_size _ rfl, rfl, rfl⟩, fun b hb => ?_, q⟩
  have e : b = s1.heap.objs.size := by simpa using hb
  subst e
  exact I1.fpOk (Nat.le_refl _) (I1.hok.fresh (Nat.le_refl _))
noncomputable def tDisp1 (tk tv : TE) : TE := fun σ H Q => ∀ p, H p = none → tk σ (upd H p (.dT [])) fun x H1 => tv σ H1 fun y H2 => H2 p = some (.dT []) ∧ ∃ b ks, x = .ref b ∧ H2 b = some (.tup (ks.map kV)) ∧ Q (.ref p) (upd H2 p (.dT [(ks, y)]))
theorem pe_disp1 {k v : Expr} {tk tv : TE} {pos : Pos} (hu : X.A.units + 1 < cLine) (hk : PE X k tk) (hv : PE X v tv) : PE X (.Dict [some k] [v] pos) (tDisp1 tk tv) := by
  intro pins s σ H Q I q
  have hn := I.hok.fresh (Nat.le_refl s.heap.objs.size)
  have I1 := I.laid (a := s.heap.objs.size) (o := .dT []) (h' := s.heap.push { cls := .type "dict", data := .dict #[] }) (t' := s.toks) (fun _ _ q => Heap.get?_push_of_some _ q) (Nat.le_refl _) (dt_empty s.heap I.big)
  refine wpAny_Dict_any rfl rfl (by simp) (by simp) ?_
  refine pairTrees_cons_walk (thn (hk pins _ σ _ _ I1 (q _ hn)) fun u s2 ⟨x, H1, I2, rx, q2⟩ => thn (hv pins s2 σ H1 _ I2 q2) fun v2 s3 ⟨y, H2, I3, ry, e, b, ks, ex, eb, q3⟩ => pairTrees_nil_walk ?_)
  subst ex
  cases rx
  unfold storeAll
  rw [List.forIn_cons]
  obtain ⟨z, hd, xs, rel, dd⟩ := dt_of I3.hok e
  cases rel
  refine wpAny_bind (wpAny_bind (wpAny_dictSet_heap (hsz := Nat.zero_le _) (knd := tupleKind (mixKind X.prog X.w)) (Nat.lt_of_succ_lt hu) (key_of I3.hok eb) dd fun h' dd' hs => wpAny_pure ?_))
  dsimp only
  rw [List.forIn_nil]
  refine wpAny_pure ?_
  obtain ⟨o2, es, ep, hq, h2, h3, h4, _, h5⟩ := dd'
  refine ⟨.ref s.heap.objs.size, _, d_write (ob := .dT [(ks, y)]) I3 (by rw [e]; exact True.intro) hs ⟨o2, hq⟩ ⟨by show 1 ≤ sizeLine; rw [sizeLine_eq]; decide, hd, _, .cons ⟨rfl, ?_, ry⟩ .nil, o2, es, ep, hq, h2, h3, h4, h5⟩, rfl, q3⟩
  rw [upd_ne (ne_of eb e (fun z => nomatch z))]
  exact eb
end
end L2


end
section
set_option Elab.async false
set_option linter.all false
set_option maxRecDepth 100000
set_option maxHeartbeats 4000000
namespace RR
open PySem PySem.W L2
noncomputable def kst (s : List Bool) : List Key := s.map Sum.inl
theorem kst_kV (s : List Bool) : (kst s).map kV = s.map V.bl := by unfold kst; rw [List.map_map]; rfl
theorem kst_inj {a b : List Bool} (h : kst a = kst b) : a = b := by
  have := kst_kV a
  rw [h, kst_kV] at this
  exact (List.map_inj_right (f := V.bl) (fun x y e => by injection e)).mp this.symm
noncomputable def sP (m : List (List Bool × V)) : List (List Key × V) := m.map fun p => (kst p.1, p.2)
noncomputable def sD (m : List (List Bool × V)) : HO := .dT (sP m)
theorem sP_len (m : List (List Bool × V)) : (sP m).length = m.length := List.length_map _
theorem valV_kst (s : List Bool) : ∀ m : List (List Bool × V), valV (sP m) (kst s) = valV m s
  | [] => rfl
  | p :: m => by
    have ih := valV_kst s m
    unfold sP at ih ⊢
    rw [List.map_cons]
    by_cases e : p.1 = s
    · rw [valV_pos (p := (kst p.1, p.2)) (by rw [e]), valV_pos e]
    · rw [valV_neg (p := (kst p.1, p.2)) (fun z => e (kst_inj z)), valV_neg e, ih]
theorem putK_kst (m : List (List Bool × V)) (s : List Bool) (v : V) : putK (sP m) (kst s) v = sP (putK m s v) := by
  unfold putK
  rw [valV_any, valV_any, valV_kst]
  split
  · unfold sP
    rw [List.map_map, List.map_map]
    refine List.map_congr_left fun p _ => ?_
    by_cases e : p.1 = s
    · simp [e]
    · have : ¬ kst p.1 = kst s := fun z => e (kst_inj z)
      simp [e, this]
  · unfold sP; simp
theorem getS {H : Hp} {d b : Addr} {m : List (List Bool × V)} {s : List Bool} (e : Rd H d (sD m)) (eb : BAt H b s) : DGet H d (.ref b) (valV m s) :=
  .inr ⟨sP m, kst s, b, e, rfl, by rw [kst_kV]; exact eb, (valV_kst s m).symm⟩
theorem putS {H : Hp} {d b : Addr} {m : List (List Bool × V)} {s : List Bool} {v : V} (e : H d = some (sD m)) (eb : BAt H b s) (hl : m.length < sizeLine) : DPut H d (.ref b) v (upd H d (sD (putK m s v))) := by
  have := DPut.t (v := v) e (show H b = some (.tup ((kst s).map kV)) by rw [kst_kV]; exact eb) (by rw [sP_len]; exact hl)
  rw [putK_kst] at this
  exact this
noncomputable def keysS (m : List (List Bool × V)) : List (List Bool) := m.map (·.1)
theorem valV_some {m : List (List Bool × V)} {s : List Bool} {v : V} (h : valV m s = some v) : (s, v) ∈ m := by
  unfold valV at h
  obtain ⟨p, h1, h2⟩ := Option.map_eq_some_iff.mp h
  have h3 := List.find?_some h1
  have h4 : p.1 = s := of_decide_eq_true h3
  have := List.mem_of_find?_eq_some h1
  rw [← h4, ← h2]
  exact this
theorem valV_none {m : List (List Bool × V)} {s : List Bool} : valV m s = none ↔ s ∉ keysS m := by
  unfold valV keysS
  rw [Option.map_eq_none_iff, List.find?_eq_none]
  constructor
  · intro h hm
    obtain ⟨p, h1, h2⟩ := List.mem_map.mp hm
    exact h p h1 (decide_eq_true h2)
  · intro h p hp hd
    exact h (List.mem_map.mpr ⟨p, hp, of_decide_eq_true hd⟩)
theorem valV_isSome {m : List (List Bool × V)} {s : List Bool} : (valV m s).isSome = true ↔ s ∈ keysS m := by
  cases e : valV m s with
  | none => have := valV_none.mp e; simp [this]
  | some v => simp; exact List.mem_map.mpr ⟨_, valV_some e, rfl⟩
theorem valV_mem {m : List (List Bool × V)} (nd : (keysS m).Nodup) {s : List Bool} {v : V} (h : (s, v) ∈ m) : valV m s = some v := by
  induction m with
  | nil => cases h
  | cons p m ih =>
    unfold keysS at nd
    rw [List.map_cons, List.nodup_cons] at nd
    rcases List.mem_cons.mp h with e | h
    · rw [← e, valV_pos rfl]
    · have hne : ¬ p.1 = s := fun z => nd.1 (by rw [z]; exact List.mem_map.mpr ⟨_, h, rfl⟩)
      rw [valV_neg hne]
      exact ih nd.2 h
theorem keys_put_new {m : List (List Bool × V)} {s : List Bool} {v : V} (h : s ∉ keysS m) : putK m s v = m ++ [(s, v)] := putK_new v (valV_none.mpr h)
theorem keys_snoc (m : List (List Bool × V)) (s : List Bool) (v : V) : keysS (m ++ [(s, v)]) = keysS m ++ [s] := by unfold keysS; simp
theorem nodup_snoc {α : Type} {l : List α} {x : α} (h : l.Nodup) (hx : x ∉ l) : (l ++ [x]).Nodup := by
  rw [List.nodup_append]
  exact ⟨h, by simp, fun a ha b hb => by simp at hb; subst hb; exact fun z => hx (z ▸ ha)⟩
theorem length_le_of_nodup {α : Type} [DecidableEq α] : ∀ {l r : List α}, l.Nodup → (∀ x ∈ l, x ∈ r) → l.length ≤ r.length
  | [], r, _, _ => Nat.zero_le _
  | x :: l, r, nd, h => by
    rw [List.nodup_cons] at nd
    have hx := h x (by simp)
    have := length_le_of_nodup (l := l) (r := r.erase x) nd.2 fun y hy => by
      have hne : y ≠ x := fun z => nd.1 (z ▸ hy)
      exact (List.mem_erase_of_ne hne).mpr (h y (by simp [hy]))
    rw [List.length_erase_of_mem hx] at this
    have : 0 < r.length := List.length_pos_of_mem hx
    simp only [List.length_cons]
    lia
theorem mem_allRows {n : Nat} : ∀ {st : List Bool}, st.length = n → st ∈ allRows n := by
  induction n with
  | zero => intro st h; have : st = [] := List.length_eq_zero_iff.mp h; subst this; simp [allRows]
  | succ n ih =>
    intro st h
    have hne : st ≠ [] := fun z => by rw [z] at h; simp at h
    have e := List.dropLast_concat_getLast hne
    have hl : st.dropLast.length = n := by simp [h]
    have hm := ih hl
    show st ∈ (allRows n).map (· ++ [false]) ++ (allRows n).map (· ++ [true])
    rw [← e, List.mem_append]
    cases hb : st.getLast hne with
    | false => exact .inl (List.mem_map.mpr ⟨_, hm, rfl⟩)
    | true => exact .inr (List.mem_map.mpr ⟨_, hm, rfl⟩)
theorem stands_le {n : Nat} {l : List (List Bool)} (nd : l.Nodup) (h : ∀ s ∈ l, s.length = n) : l.length ≤ 2 ^ n := by
  rw [← allRows_len]
  exact length_le_of_nodup nd fun s hs => mem_allRows (h s hs)
inductive Reach (ws : List Wd) (pr st : List Bool) : List Bool → Prop
  | refl : Reach ws pr st st
  | step {s : List Bool} {k : Nat} : Reach ws pr st s → k ∈ movs ws pr s → Reach ws pr st (flip s k)
theorem Reach.len {ws : List Wd} {pr st s : List Bool} (h : Reach ws pr st s) : s.length = st.length := by
  induction h with
  | refl => rfl
  | step _ _ ih => rw [flip_len, ih]
theorem Reach.trans {ws : List Wd} {pr a b c : List Bool} (h : Reach ws pr a b) (h2 : Reach ws pr b c) : Reach ws pr a c := by
  induction h2 with
  | refl => exact h
  | step _ hk ih => exact .step ih hk
noncomputable def walkN (ws : List Wd) (pr : List Bool) : List Bool → List Nat → Option (List Bool)
  | st, [] => some st
  | st, k :: ks => if k ∈ movs ws pr st then walkN ws pr (flip st k) ks else none
theorem walkN_append (ws : List Wd) (pr : List Bool) : ∀ (a b : List Nat) (st : List Bool), walkN ws pr st (a ++ b) = (walkN ws pr st a).bind fun s => walkN ws pr s b
  | [], b, st => rfl
  | k :: a, b, st => by
    simp only [List.cons_append, walkN]
    split
    · exact walkN_append ws pr a b _
    · rfl
theorem walkN_reach {ws : List Wd} {pr : List Bool} : ∀ {ks : List Nat} {st s : List Bool}, walkN ws pr st ks = some s → Reach ws pr st s
  | [], st, s, h => by cases h; exact .refl
  | k :: ks, st, s, h => by
    simp only [walkN] at h
    split at h
    · rename_i hk
      exact (Reach.step .refl hk).trans (walkN_reach h)
    · cases h
theorem walkN_snoc {ws : List Wd} {pr st s : List Bool} {ks : List Nat} {k : Nat} (h : walkN ws pr st ks = some s) (hk : k ∈ movs ws pr s) : walkN ws pr st (ks ++ [k]) = some (flip s k) := by
  rw [walkN_append, h]
  simp [walkN, hk]
structure Paper (ws : List Wd) (pr st : List Bool) (N : List (List Bool × V)) (rest : List Bool) : Prop where
  nd : (keysS N).Nodup
  all : ∀ s, s ∈ keysS N ↔ Reach ws pr st s
  num : ∀ s v, (s, v) ∈ N → ∃ n : Nat, v = .int n
  falls : ∀ s n, (s, V.int n) ∈ N → ∀ k ∈ movs ws pr s, ∃ j : Int, (flip s k, V.int j) ∈ N ∧ j < n
  only : ∀ s, Reach ws pr st s → (movs ws pr s = [] ↔ s = rest)
  has : Reach ws pr st rest
end RR


end
section
set_option Elab.async false
set_option linter.all false
set_option maxRecDepth 100000
set_option maxHeartbeats 4000000
namespace L2
open PySem
theorem bodyT_list {K : PySem.W.Frag} {a : Addr} {xs : List V} {ps : List (V × V)} {te : TE} {σf : St} {Q : VK} {H1 : Hp} (hS : SqL K H1 a xs) (hp : Paired (fun (q : V × V) x => ∃ p, x = V.ref p ∧ H1 p = some (.tup [q.1, q.2])) ps xs) (hlen : xs.length ≤ sizeLine) (G : Nat → V → Hp → Prop)
    (stable : ∀ i y H H', TupLe H H' → G i y H → G i y H')
    (step : ∀ i q H (R : VK), ps[i]? = some q → Same H1 H → (∀ y H', Same H H' → G i y H' → R y H') → te (some q.1 :: some q.2 :: σf) H R)
    (fin : ∀ D ys H', H1 D = none → Same H1 H' → H' D = some (.lst ys) → ys.length = ps.length → (∀ i y, ys[i]? = some y → G i y H') → Q (.ref D) H') :
    bodyT K (Itl K a) noIf te σf Q H1 := by
  have hpl := Paired.length hp
  intro D hD
  refine ⟨fun i m ys H => m = xs.length - i ∧ i ≤ xs.length ∧ ys.length = i ∧ Same H1 H ∧ H D = some (.lst ys) ∧ ∀ j y, ys[j]? = some y → G j y H,
    ⟨xs.length, by simp, Nat.zero_le _, rfl, Same.new hD _, upd_same, fun j y e => by simp at e⟩, ?_⟩
  rintro i m ys H ⟨rfl, hi, hl, hs, hH, hG⟩
  by_cases hlt : i < xs.length
  · refine .inr ⟨⟨xs, xs[i], hs.seq hS, by simp [hlt]⟩, by lia, fun ys' H' => ys'.length = i + 1 ∧ Same H1 H' ∧ H' D = some (.lst ys') ∧ ∀ j y, ys'[j]? = some y → G j y H', fun ys' H' ⟨a, b, c, d⟩ => ⟨xs.length - (i + 1), by lia, rfl, hlt, a, b, c, d⟩, ?_⟩
    rintro x H' ⟨e1, e2⟩
    subst e1
    have hx := e2 xs (hs.seq hS)
    obtain ⟨q, hq, p, rfl, hpq⟩ := RR.paired_get hp hx
    refine ⟨p, _, rfl, SqT.of (hs _ _ hpq), q.1, q.2, rfl, ?_⟩
    unfold noIf
    refine iteT (step i q _ _ hq hs fun y H2 hS2 hg => ?_)
    refine ⟨hS2 _ _ hH, by simp [hl], (hs.trans hS2).updNew hD, upd_same, fun j z e => ?_⟩
    have tl : TupLe H2 (upd H2 D (.lst (ys ++ [y]))) := tup_upd fun zs q => by rw [hS2 _ _ hH] at q; cases q
    by_cases hj : j < ys.length
    · rw [List.getElem?_append_left hj] at e
      exact stable j z _ _ (hS2.tup.trans tl) (hG j z e)
    · have ej : j = ys.length := by
        have := (List.getElem?_eq_some_iff.mp e).1
        simp at this
        lia
      subst ej
      rw [List.getElem?_append_right (Nat.le_refl _)] at e
      simp at e
      subst e
      rw [hl]
      exact stable i _ _ _ tl hg
  · have e : i = xs.length := by lia
    exact .inl ⟨⟨xs, hs.seq hS, by lia⟩, fin D ys H hD hs hH (by lia) hG⟩
theorem for_dict {a : Addr} {o : Obj} {kvs : List (List Key × V)} {g : TG} {tb : TS} {D : Ends} {σ : St} {H : Hp} (Pv : Nat → St → Hp → Prop) (h0 : Pv 0 σ H) (hl : ∀ i σ H, i ≤ kvs.length → Pv i σ H → H a = some (.frz o (.dT kvs)))
    (hs : ∀ i kv b σ H, kvs[i]? = some kv → H b = some (.tup (kv.1.map kV)) → Pv i σ H → g (.ref b) σ H fun σ2 H2 => tb { D with nx := Pv (i + 1), ct := Pv (i + 1), bk := D.nx } σ2 H2) (hd : ∀ σ H, Pv kvs.length σ H → D.nx σ H) :
    ∃ W : Nat → Nat → St → Hp → Prop, (∃ m, W 0 m σ H) ∧ ∀ i m σ H, W i m σ H →
      ((Itd a o).stop i H ∧ D.nx σ H) ∨ ((Itd a o).go i H ∧ ∃ N : St → Hp → Prop, (∀ σ' H', N σ' H' → ∃ m', m' < m ∧ W (i + 1) m' σ' H') ∧ ∀ x H', (Itd a o).yld i H x H' → g x σ H' fun σ2 H2 => tb { D with nx := N, ct := N, bk := D.nx } σ2 H2) := by
  refine ⟨fun i m σ H => m = kvs.length - i ∧ i ≤ kvs.length ∧ Pv i σ H, ⟨kvs.length, by simp, Nat.zero_le _, h0⟩, ?_⟩
  rintro i m σ H ⟨rfl, hi, hP⟩
  have hq := hl i σ H hi hP
  by_cases hlt : i < kvs.length
  · refine .inr ⟨⟨kvs, hq, hlt⟩, Pv (i + 1), fun σ' H' h => ⟨kvs.length - (i + 1), by lia, rfl, hlt, h⟩, ?_⟩
    rintro x H' ⟨e1, e2⟩
    subst e1
    obtain ⟨kv, b, k1, rfl, k3⟩ := e2 kvs hq
    exact hs i kv b σ _ k1 k3 hP
  · have e : i = kvs.length := by lia
    subst e
    exact .inl ⟨⟨kvs, hq, Nat.le_refl _⟩, hd σ H hP⟩
theorem body_dictF {a : Addr} {o : Obj} {kvs : List (List Key × V)} {tc : TT} {te : TE} {σf : St} {Q : VK} {H1 : Hp} (hq : H1 a = some (.frz o (.dT kvs))) (hlen : kvs.length ≤ sizeLine) (keep : Nat → Bool) (G : Nat → V → Hp → Prop)
    (stable : ∀ i y H H', TupLe H H' → G i y H → G i y H')
    (test : ∀ i kv b H (R : Bool → Hp → Prop), kvs[i]? = some kv → H b = some (.tup (kv.1.map kV)) → Same H1 H → (∀ H', Same H H' → R (keep i) H') → tc (some (.ref b) :: σf) H R)
    (step : ∀ i kv b H (R : VK), kvs[i]? = some kv → H b = some (.tup (kv.1.map kV)) → keep i = true → Same H1 H → (∀ y H', Same H H' → G i y H' → R y H') → te (some (.ref b) :: σf) H R)
    (fin : ∀ D ys H', H1 D = none → Same H1 H' → H' D = some (.lst ys) → Paired (fun i y => G i y H') ((List.range kvs.length).filter keep) ys → Q (.ref D) H') :
    bodyC (Itd a o) tc te σf Q H1 := by
  intro D hD
  refine ⟨fun i m ys H => m = kvs.length - i ∧ i ≤ kvs.length ∧ ys.length ≤ i ∧ Same H1 H ∧ H D = some (.lst ys) ∧ Paired (fun j y => G j y H) ((List.range i).filter keep) ys,
    ⟨kvs.length, by simp, Nat.zero_le _, Nat.le_refl _, Same.new hD _, upd_same, .nil⟩, ?_⟩
  rintro i m ys H ⟨rfl, hi, hl, hS, hH, hG⟩
  have hqH := hS _ _ hq
  by_cases hlt : i < kvs.length
  · refine .inr ⟨⟨kvs, hqH, hlt⟩, by lia, fun ys' H' => ys'.length ≤ i + 1 ∧ Same H1 H' ∧ H' D = some (.lst ys') ∧ Paired (fun j y => G j y H') ((List.range (i + 1)).filter keep) ys', fun ys' H' ⟨a, b, c, d⟩ => ⟨kvs.length - (i + 1), by lia, rfl, hlt, a, b, c, d⟩, ?_⟩
    rintro x H' ⟨e1, e2⟩
    subst e1
    obtain ⟨kv, b, k1, rfl, k3⟩ := e2 kvs hqH
    refine test i kv b _ _ k1 k3 hS fun H2 hS2 => ?_
    cases hk : keep i with
    | false =>
      refine iteF ⟨by lia, hS.trans hS2, hS2 _ _ hH, ?_⟩
      rw [List.range_succ, List.filter_append]
      simp only [List.filter_cons, hk, Bool.false_eq_true, if_false, List.filter_nil, List.append_nil]
      exact Paired.mono' (fun a b h => stable a b _ _ hS2.tup h) hG
    | true =>
      refine iteT (step i kv b H2 _ k1 (hS2 _ _ k3) hk (hS.trans hS2) fun y H3 hS3 hg => ?_)
      have hD3 := hS3 _ _ (hS2 _ _ hH)
      have tl : TupLe H3 (upd H3 D (.lst (ys ++ [y]))) := tup_upd fun zs q => by rw [hD3] at q; cases q
      refine ⟨hD3, by simp; lia, ((hS.trans hS2).trans hS3).updNew hD, upd_same, ?_⟩
      rw [List.range_succ, List.filter_append]
      simp only [List.filter_cons, hk, if_true, List.filter_nil]
      exact Paired.snoc (Paired.mono' (fun a b h => stable a b _ _ ((hS2.trans hS3).tup.trans tl) h) hG) (stable i y _ _ tl hg)
  · have e : i = kvs.length := by lia
    subst e
    exact .inl ⟨⟨kvs, hqH, Nat.le_refl _⟩, fin D ys H hD hS hH hG⟩
theorem paired_snoc_inv {α β : Type} {R : α → β → Prop} : ∀ {l : List α} {r : List β} {y : β}, Paired R l (r ++ [y]) → ∃ l' x, l = l' ++ [x] ∧ Paired R l' r ∧ R x y
  | l, [], y, h => by
    cases h with
    | cons h t => cases t; exact ⟨[], _, rfl, .nil, h⟩
  | l, z :: r, y, h => by
    cases h with
    | cons h t =>
      obtain ⟨l', x, rfl, a, b⟩ := paired_snoc_inv t
      exact ⟨_ :: l', x, rfl, .cons h a, b⟩
theorem paired_append {α β : Type} {R : α → β → Prop} : ∀ {l l' : List α} {r r' : List β}, Paired R l r → Paired R l' r' → Paired R (l ++ l') (r ++ r')
  | _, _, _, _, .nil, h => h
  | _, _, _, _, .cons h t, h' => .cons h (paired_append t h')
theorem paired_of_get {α β : Type} {R : α → β → Prop} : ∀ {l : List α} {r : List β}, r.length = l.length → (∀ (i : Nat) (x : α) (y : β), l[i]? = some x → r[i]? = some y → R x y) → Paired R l r
  | [], [], _, _ => .nil
  | [], _ :: _, h, _ => by simp at h
  | _ :: _, [], h, _ => by simp at h
  | x :: l, y :: r, h, g => .cons (g 0 x y rfl rfl) (paired_of_get (by simpa using h) fun i a b ha hb => g (i + 1) a b (by simpa using ha) (by simpa using hb))
end L2
namespace RR
open PySem PySem.W L2
inductive SAt (H : Hp) (ws : List Wd) (pr s : List Bool) (v : V) : Prop
  | mk : ∀ l us, (v = .ref l) → (H l = some (.lst us)) → (Paired (fun (k : Nat) u => ∃ p q, u = V.ref p ∧ H p = some (.tup [.int k, .ref q]) ∧ BAt H q (flip s k)) (movs ws pr s) us) → SAt H ws pr s v
theorem SAt.mono {H H' : Hp} {ws : List Wd} {pr s : List Bool} {v : V} (h : SAt H ws pr s v) (hs : Same H H') : SAt H' ws pr s v := by
  obtain ⟨l, us, e, a, b⟩ := h
  exact ⟨l, us, e, hs _ _ a, Paired.mono' (fun k u ⟨p, q, e1, e2, e3⟩ => ⟨p, q, e1, hs _ _ e2, hs _ _ e3⟩) b⟩
theorem SAt.upd {H : Hp} {ws : List Wd} {pr s : List Bool} {v : V} {d : Addr} {o o' : HO} (h : SAt H ws pr s v) (e : H d = some o) (hl : ∀ xs, o ≠ .lst xs) (ht : ∀ xs, o ≠ .tup xs) : SAt (upd H d o') ws pr s v := by
  obtain ⟨l, us, ev, a, b⟩ := h
  have tl : TupLe H (L2.upd H d o') := tup_upd fun xs z => by rw [e] at z; exact ht xs (Option.some.inj z)
  refine ⟨l, us, ev, ?_, Paired.mono' (fun k u ⟨p, q, e1, e2, e3⟩ => ⟨p, q, e1, tl _ _ e2, tl _ _ e3⟩) b⟩
  rw [upd_ne (ne_of a e (fun z => hl us z.symm))]
  exact a
theorem pairs_of {H : Hp} {s : List Bool} : ∀ {ks : List Nat} {us : List V}, Paired (fun (k : Nat) u => ∃ p q, u = V.ref p ∧ H p = some (.tup [.int k, .ref q]) ∧ BAt H q (flip s k)) ks us →
    ∃ ps : List (V × V), Paired (fun (q : V × V) x => ∃ p, x = V.ref p ∧ H p = some (.tup [q.1, q.2])) ps us ∧ Paired (fun (k : Nat) (q : V × V) => ∃ a, q = (V.int k, V.ref a) ∧ BAt H a (flip s k)) ks ps
  | _, _, .nil => ⟨[], .nil, .nil⟩
  | _, _, .cons ⟨p, q, e1, e2, e3⟩ t => by
    obtain ⟨ps, h1, h2⟩ := pairs_of t
    exact ⟨(.int _, .ref q) :: ps, .cons ⟨p, e1, e2⟩ h1, .cons ⟨q, rfl, e3⟩ h2⟩
theorem SAt.pairs {H : Hp} {ws : List Wd} {pr s : List Bool} {v : V} (h : SAt H ws pr s v) : ∃ l us ps, v = V.ref l ∧ H l = some (.lst us) ∧ us.length = (movs ws pr s).length ∧ Paired (fun (q : V × V) x => ∃ p, x = V.ref p ∧ H p = some (.tup [q.1, q.2])) ps us ∧
    ps.length = (movs ws pr s).length ∧ ∀ (i : Nat) q, ps[i]? = some q → ∃ (k : Nat) (a : Addr), (movs ws pr s)[i]? = some k ∧ q = (V.int k, V.ref a) ∧ BAt H a (flip s k) := by
  obtain ⟨l, us, e1, e2, e3⟩ := h
  obtain ⟨ps, h1, h2⟩ := pairs_of e3
  exact ⟨l, us, ps, e1, e2, (Paired.length e3).symm, h1, (Paired.length h2).symm, fun i q hq => by
    obtain ⟨k, hk, a, b, c⟩ := paired_get h2 hq
    exact ⟨k, a, hk, b, c⟩⟩
structure StepsOk (H : Hp) (ws : List Wd) (pr st : List Bool) (m : List (List Bool × V)) : Prop where
  nd : (keysS m).Nodup
  all : ∀ s, s ∈ keysS m ↔ Reach ws pr st s
  val : ∀ s v, (s, v) ∈ m → SAt H ws pr s v
  ord : ∀ (j : Nat) s, (keysS m)[j]? = some s → (s = st) ∨ ∃ i t k, i < j ∧ (keysS m)[i]? = some t ∧ k ∈ movs ws pr t ∧ s = flip t k
theorem StepsOk.mono {H H' : Hp} {ws : List Wd} {pr st : List Bool} {m : List (List Bool × V)} (h : StepsOk H ws pr st m) (s : Same H H') : StepsOk H' ws pr st m := ⟨h.nd, h.all, fun a b c => (h.val a b c).mono s, h.ord⟩
theorem StepsOk.len {H : Hp} {ws : List Wd} {pr st : List Bool} {m : List (List Bool × V)} (h : StepsOk H ws pr st m) : m.length ≤ 2 ^ st.length := by
  have := stands_le (n := st.length) h.nd fun s hs => ((h.all s).mp hs).len
  unfold keysS at this
  simpa using this
inductive I_spSteps (K : PySem.W.Frag) (vs : List V) (H : Hp) (Q : VK) : Prop
  | mk : ∀ (D b a : Addr) (ws : List Wd) (pr st : List Bool), (vs = [.ref D, .ref b, .ref a]) → (Bd K H D b ws pr) → (BAt H a st) → (st.length = ws.length) → (∀ d m o H', H d = none → Same H H' → H' d = some (.frz o (sD m)) → StepsOk H' ws pr st m → Q (.ref d) H') → I_spSteps K vs H Q
noncomputable def spSteps (K : PySem.W.Frag) : Sp := fun vs H Q _ => I_spSteps K vs H Q
theorem pow64 {n : Nat} (h : n ≤ 6) : 2 ^ n ≤ 64 := Nat.le_trans (Nat.pow_le_pow_right (by decide) h) (by decide)
structure Grow (ws : List Wd) (pr st : List Bool) (m : List (List Bool × V)) (dl : List (List Bool)) : Prop where
  nd : (keysS m).Nodup
  rch : ∀ s ∈ keysS m, Reach ws pr st s
  due : (m = [] ∧ dl = [st]) ∨ ∀ s ∈ dl, ∃ t ∈ keysS m, ∃ k ∈ movs ws pr t, s = flip t k
  done : ∀ t ∈ keysS m, ∀ k ∈ movs ws pr t, flip t k ∈ keysS m ∨ flip t k ∈ dl
  start : st ∈ keysS m ∨ st ∈ dl
  ord : ∀ (j : Nat) s, (keysS m)[j]? = some s → (s = st) ∨ ∃ i t k, i < j ∧ (keysS m)[i]? = some t ∧ k ∈ movs ws pr t ∧ s = flip t k
theorem Grow.reach {ws : List Wd} {pr st : List Bool} {m : List (List Bool × V)} {dl : List (List Bool)} (g : Grow ws pr st m dl) {s : List Bool} (h : s ∈ dl) : Reach ws pr st s := by
  rcases g.due with ⟨_, rfl⟩ | z
  · have : s = st := by simpa using h
    subst this
    exact .refl
  · obtain ⟨t, ht, k, hk, rfl⟩ := z s h
    exact .step (g.rch t ht) hk
theorem Grow.first (ws : List Wd) (pr st : List Bool) : Grow ws pr st [] [st] :=
  ⟨List.nodup_nil, fun s h => by simp [keysS] at h, .inl ⟨rfl, rfl⟩, fun t h => by simp [keysS] at h, .inr (by simp), fun j s h => by simp [keysS] at h⟩
theorem Grow.skip {ws : List Wd} {pr st : List Bool} {m : List (List Bool × V)} {dl : List (List Bool)} {s : List Bool} (g : Grow ws pr st m (dl ++ [s])) (hs : s ∈ keysS m) : Grow ws pr st m dl :=
  ⟨g.nd, g.rch, .inr fun x h => by
    rcases g.due with ⟨rfl, _⟩ | z
    · simp [keysS] at hs
    · exact z x (by simp [h]), fun t ht k hk => by
    rcases g.done t ht k hk with h | h
    · exact .inl h
    · rcases List.mem_append.mp h with h | h
      · exact .inr h
      · have : flip t k = s := by simpa using h
        exact .inl (this ▸ hs), by
    rcases g.start with h | h
    · exact .inl h
    · rcases List.mem_append.mp h with h | h
      · exact .inr h
      · have : st = s := by simpa using h
        exact .inl (this ▸ hs), g.ord⟩
theorem Grow.add {ws : List Wd} {pr st : List Bool} {m : List (List Bool × V)} {dl : List (List Bool)} {s : List Bool} {v : V} (g : Grow ws pr st m (dl ++ [s])) (hs : s ∉ keysS m) : Grow ws pr st (m ++ [(s, v)]) (dl ++ (movs ws pr s).map (flip s)) := by
  have hr := g.reach (s := s) (by simp)
  have hmem : ∀ x, x ∈ keysS (m ++ [(s, v)]) ↔ x ∈ keysS m ∨ x = s := fun x => by rw [keys_snoc, List.mem_append]; simp
  refine ⟨by rw [keys_snoc]; exact nodup_snoc g.nd hs, fun x hx => ?_, .inr fun x hx => ?_, fun t ht k hk => ?_, ?_, fun j x hx => ?_⟩
  · rcases (hmem x).mp hx with h | rfl
    · exact g.rch x h
    · exact hr
  · rcases List.mem_append.mp hx with h | h
    · rcases g.due with ⟨rfl, e⟩ | z
      · have e2 : dl = [] := by
          have := congrArg List.length e
          simp at this
          exact this
        rw [e2] at h
        cases h
      · obtain ⟨t, ht, k, hk, rfl⟩ := z x (by simp [h])
        exact ⟨t, (hmem t).mpr (.inl ht), k, hk, rfl⟩
    · obtain ⟨k, hk, rfl⟩ := List.mem_map.mp h
      exact ⟨s, (hmem s).mpr (.inr rfl), k, hk, rfl⟩
  · rcases (hmem t).mp ht with h | rfl
    · rcases g.done t h k hk with z | z
      · exact .inl ((hmem _).mpr (.inl z))
      · rcases List.mem_append.mp z with z | z
        · exact .inr (by simp [z])
        · exact .inl ((hmem _).mpr (.inr (by simpa using z)))
    · exact .inr (List.mem_append.mpr (.inr (List.mem_map.mpr ⟨k, hk, rfl⟩)))
  · rcases g.start with h | h
    · exact .inl ((hmem _).mpr (.inl h))
    · rcases List.mem_append.mp h with h | h
      · exact .inr (by simp [h])
      · exact .inl ((hmem _).mpr (.inr (by simpa using h)))
  · rw [keys_snoc] at hx ⊢
    by_cases c : j < (keysS m).length
    · rw [List.getElem?_append_left c] at hx
      rcases g.ord j x hx with h | ⟨i, t, k, h1, h2, h3, h4⟩
      · exact .inl h
      · exact .inr ⟨i, t, k, h1, by rw [List.getElem?_append_left (by lia)]; exact h2, h3, h4⟩
    · have ej : j = (keysS m).length := by have := (List.getElem?_eq_some_iff.mp hx).1; simp at this; lia
      subst ej
      rw [List.getElem?_append_right (Nat.le_refl _)] at hx
      simp at hx
      subst hx
      rcases g.due with ⟨_, e⟩ | z
      · left
        have h1 : dl = [] := by
          have := congrArg List.length e
          simp at this
          exact this
        rw [h1] at e
        simpa using e
      · obtain ⟨t, ht, k, hk, h⟩ := z s (by simp)
        obtain ⟨i, hi, e⟩ := List.mem_iff_getElem.mp ht
        exact .inr ⟨i, t, k, hi, by rw [List.getElem?_append_left hi, List.getElem?_eq_getElem hi, e], hk, h⟩
end RR


end
section
set_option Elab.async false
set_option linter.all false
set_option maxRecDepth 100000
set_option maxHeartbeats 4000000
namespace RR
open PySem PySem.W L2
inductive RAt (H0 H : Hp) (ws : List Wd) (pr st s : List Bool) (n : Nat) (v : V) : Prop
  | mk : ∀ l ks, (v = V.ref l) → (H0 l = none) → (H l = some (.lst (nats ks))) → (walkN ws pr st ks = some s) → (ks.length < n) → RAt H0 H ws pr st s n v
theorem RAt.mono {H0 H H' : Hp} {ws : List Wd} {pr st s : List Bool} {n n' : Nat} {v : V} (h : RAt H0 H ws pr st s n v) (hs : Same H H') (hn : n ≤ n') : RAt H0 H' ws pr st s n' v := by
  obtain ⟨l, ks, a, b, c, d, e⟩ := h
  exact ⟨l, ks, a, b, hs _ _ c, d, by lia⟩
theorem RAt.upd {H0 H : Hp} {ws : List Wd} {pr st s : List Bool} {n n' : Nat} {v : V} {d : Addr} {o o' : HO} (h : RAt H0 H ws pr st s n v) (e : H d = some o) (hl : ∀ xs, o ≠ .lst xs) (hn : n ≤ n') : RAt H0 (upd H d o') ws pr st s n' v := by
  obtain ⟨l, ks, a, b, c, f, g⟩ := h
  exact ⟨l, ks, a, b, by rw [upd_ne (ne_of c e (fun z => hl _ z.symm))]; exact c, f, by lia⟩
structure RoadsOk (H0 H : Hp) (ws : List Wd) (pr st : List Bool) (mr : List (List Bool × V)) : Prop where
  all : ∀ s, Reach ws pr st s → s ∈ keysS mr
  val : ∀ s v, (s, v) ∈ mr → RAt H0 H ws pr st s 65 v
inductive I_spRoads (vs : List V) (H : Hp) (Q : VK) : Prop
  | mk : ∀ (d a : Addr) (o : Obj) (ws : List Wd) (pr st : List Bool) (m : List (List Bool × V)), (vs = [.ref d, .ref a]) → (H d = some (.frz o (sD m))) → (StepsOk H ws pr st m) → (BAt H a st) → (st.length ≤ 6) → (∀ r mr H', H r = none → Same H H' → H' r = some (sD mr) → RoadsOk H H' ws pr st mr → Q (.ref r) H') → I_spRoads vs H Q
noncomputable def spRoads : Sp := fun vs H Q _ => I_spRoads vs H Q
theorem sP_get {m : List (List Bool × V)} {i : Nat} {kv : List Key × V} (h : (sP m)[i]? = some kv) : ∃ s v, m[i]? = some (s, v) ∧ kv = (kst s, v) ∧ (keysS m)[i]? = some s := by
  unfold sP at h
  rw [List.getElem?_map] at h
  cases e : m[i]? with
  | none => rw [e] at h; cases h
  | some p => rw [e] at h; cases h; exact ⟨p.1, p.2, rfl, rfl, by unfold keysS; rw [List.getElem?_map, e]; rfl⟩
theorem kst_at {H : Hp} {b : Addr} {s : List Bool} {v : V} (h : H b = some (.tup ((kst s, v).1.map kV))) : BAt H b s := by
  unfold BAt
  rw [h]
  show some (HO.tup ((kst s).map kV)) = _
  rw [kst_kV]
end RR
namespace RR
open PySem PySem.W L2
structure NumOk (ws : List Wd) (pr : List Bool) (m N : List (List Bool × V)) : Prop where
  nd : (keysS N).Nodup
  sub : ∀ s ∈ keysS N, s ∈ keysS m
  num : ∀ s v, (s, v) ∈ N → ∃ n : Nat, v = V.int n
  falls : ∀ s n, (s, V.int n) ∈ N → ∀ k ∈ movs ws pr s, ∃ j : Int, (flip s k, V.int j) ∈ N ∧ j < n
noncomputable def Stuck (ws : List Wd) (pr : List Bool) (N : List (List Bool × V)) (s : List Bool) : Prop := s ∉ keysS N → ∃ k ∈ movs ws pr s, flip s k ∉ keysS N
inductive I_spNumbered (vs : List V) (H : Hp) (Q : VK) : Prop
  | mk : ∀ (d : Addr) (o : Obj) (ws : List Wd) (pr st : List Bool) (m : List (List Bool × V)), (vs = [.ref d]) → (H d = some (.frz o (sD m))) → (StepsOk H ws pr st m) → (st.length ≤ 6) → (ws.length ≤ 6) → (∀ d' N H', H d' = none → Same H H' → H' d' = some (sD N) → NumOk ws pr m N → (∀ s ∈ keysS m, Stuck ws pr N s) → Q (.ref d') H') → I_spNumbered vs H Q
noncomputable def spNumbered : Sp := fun vs H Q _ => I_spNumbered vs H Q
theorem NumOk.len {ws : List Wd} {pr : List Bool} {m N : List (List Bool × V)} (h : NumOk ws pr m N) : N.length ≤ m.length := by
  have := length_le_of_nodup h.nd h.sub
  unfold keysS at this
  simpa using this
theorem NumOk.nil (ws : List Wd) (pr : List Bool) (m : List (List Bool × V)) : NumOk ws pr m [] := ⟨by simp [keysS], fun s h => by simp [keysS] at h, (fun s v h => by cases h), (fun s n h => by cases h)⟩
theorem NumOk.add {ws : List Wd} {pr : List Bool} {m N : List (List Bool × V)} {s : List Bool} {n : Nat} (h : NumOk ws pr m N) (hs : s ∉ keysS N) (hm : s ∈ keysS m) (hn : ∀ k ∈ movs ws pr s, ∃ j : Int, (flip s k, V.int j) ∈ N ∧ j < n) : NumOk ws pr m (N ++ [(s, V.int n)]) := by
  refine ⟨by rw [keys_snoc]; exact nodup_snoc h.nd hs, fun x hx => ?_, fun x v hx => ?_, fun x j hx k hk => ?_⟩
  · rw [keys_snoc] at hx
    rcases List.mem_append.mp hx with hx | hx
    · exact h.sub x hx
    · have : x = s := by simpa using hx
      exact this ▸ hm
  · rcases List.mem_append.mp hx with hx | hx
    · exact h.num x v hx
    · have : x = s ∧ v = .int n := by simpa using hx
      exact ⟨n, this.2⟩
  · rcases List.mem_append.mp hx with hx | hx
    · obtain ⟨i, a, b⟩ := h.falls x j hx k hk
      exact ⟨i, List.mem_append.mpr (.inl a), b⟩
    · have : x = s ∧ j = n := by simpa using hx
      obtain ⟨rfl, rfl⟩ := this
      obtain ⟨i, a, b⟩ := hn k hk
      exact ⟨i, List.mem_append.mpr (.inl a), b⟩
theorem ints_all : ∀ {us : List V}, (∀ y ∈ us, ∃ i : Int, y = V.int i) → ∃ ns : List Int, us = ns.map V.int
  | [], _ => ⟨[], rfl⟩
  | y :: ys, h => by
    obtain ⟨i, rfl⟩ := h y (by simp)
    obtain ⟨ns, rfl⟩ := ints_all (us := ys) fun z hz => h z (by simp [hz])
    exact ⟨i :: ns, rfl⟩
theorem dec_keys (N : List (List Bool × V)) (s : List Bool) : (valV N s).isSome = decide (s ∈ keysS N) := by
  cases e : (valV N s).isSome with
  | true => exact (decide_eq_true (valV_isSome.mp e)).symm
  | false =>
    refine (decide_eq_false fun z => ?_).symm
    rw [valV_isSome.mpr z] at e
    cases e
end RR
namespace RR
open PySem PySem.W L2
noncomputable def keepI (ws : List Wd) (pr : List Bool) (N : List (List Bool × V)) (s : List Bool) (i : Nat) : Bool := match (movs ws pr s)[i]? with
  | some k => !(valV N (flip s k)).isSome
  | none => false
noncomputable def nxK (ws : List Wd) (pr : List Bool) (N : List (List Bool × V)) (s : List Bool) : Option Nat := (((List.range (movs ws pr s).length).filter (keepI ws pr N s)).head?).bind fun i => (movs ws pr s)[i]?
noncomputable def nxS (ws : List Wd) (pr : List Bool) (N : List (List Bool × V)) (s : List Bool) : List Bool := match nxK ws pr N s with
  | some k => flip s k
  | none => s
theorem nxK_some {ws : List Wd} {pr : List Bool} {N : List (List Bool × V)} {s : List Bool} (h : ∃ k ∈ movs ws pr s, flip s k ∉ keysS N) :
    ∃ i l k, (List.range (movs ws pr s).length).filter (keepI ws pr N s) = i :: l ∧ (movs ws pr s)[i]? = some k ∧ nxK ws pr N s = some k ∧ k ∈ movs ws pr s ∧ flip s k ∉ keysS N := by
  obtain ⟨k, hk, hn⟩ := h
  obtain ⟨j, hj, ej⟩ := List.mem_iff_getElem.mp hk
  have hmem : j ∈ (List.range (movs ws pr s).length).filter (keepI ws pr N s) := List.mem_filter.mpr ⟨List.mem_range.mpr hj, by
    unfold keepI
    rw [List.getElem?_eq_getElem hj, ej]
    simp
    exact valV_none.mpr hn⟩
  cases e : (List.range (movs ws pr s).length).filter (keepI ws pr N s) with
  | nil => rw [e] at hmem; cases hmem
  | cons i l =>
    have hi : i ∈ (List.range (movs ws pr s).length).filter (keepI ws pr N s) := by rw [e]; simp
    obtain ⟨hi1, hi2⟩ := List.mem_filter.mp hi
    have hi1 := List.mem_range.mp hi1
    have ek : (movs ws pr s)[i]? = some (movs ws pr s)[i] := List.getElem?_eq_getElem hi1
    refine ⟨i, l, (movs ws pr s)[i], rfl, ek, by unfold nxK; rw [e]; simpa using ek, List.getElem_mem _, ?_⟩
    unfold keepI at hi2
    rw [ek] at hi2
    exact valV_none.mp (by simpa using hi2)
noncomputable def itN (f : List Bool → List Bool) : Nat → List Bool → List Bool
  | 0, s => s
  | n + 1, s => f (itN f n s)
theorem itN_add (f : List Bool → List Bool) (a : Nat) (s : List Bool) : ∀ b, itN f (b + a) s = itN f b (itN f a s)
  | 0 => by rw [Nat.zero_add]; rfl
  | b + 1 => by
    have : b + 1 + a = (b + a) + 1 := by lia
    rw [this]
    show f (itN f (b + a) s) = f (itN f b (itN f a s))
    rw [itN_add f a s b]
noncomputable def Free (m N : List (List Bool × V)) (s : List Bool) : Prop := s ∈ keysS m ∧ s ∉ keysS N
theorem Free.next {H : Hp} {ws : List Wd} {pr st : List Bool} {m N : List (List Bool × V)} {s : List Bool} (hM : StepsOk H ws pr st m) (hs : ∀ s ∈ keysS m, Stuck ws pr N s) (h : Free m N s) :
    ∃ k, nxK ws pr N s = some k ∧ k ∈ movs ws pr s ∧ nxS ws pr N s = flip s k ∧ Free m N (flip s k) := by
  obtain ⟨i, l, k, _, _, e, hk, hn⟩ := nxK_some (hs s h.1 h.2)
  exact ⟨k, e, hk, by unfold nxS; rw [e], (hM.all _).mpr (.step ((hM.all _).mp h.1) hk), hn⟩
noncomputable def OnRing (ws : List Wd) (pr : List Bool) (N : List (List Bool × V)) (s : List Bool) : Prop := ∃ J, 1 ≤ J ∧ J ≤ 64 ∧ itN (nxS ws pr N) J s = s
inductive I_spEndless (vs : List V) (H : Hp) (Q : VK) : Prop
  | mk : ∀ (d e b : Addr) (o : Obj) (ws : List Wd) (pr st s : List Bool) (m N : List (List Bool × V)), (vs = [.ref d, .ref e, .ref b]) → (H d = some (.frz o (sD m))) → (StepsOk H ws pr st m) → (ws.length ≤ 6) → (H e = some (sD N)) → (BAt H b s) → (Free m N s) → ((∀ s ∈ keysS m, Stuck ws pr N s)) → (∀ p c k H', Same H H' → nxK ws pr N s = some k → H' p = some (.tup [.int (k : Nat), .ref c]) → BAt H' c (flip s k) → Q (.ref p) H') → I_spEndless vs H Q
noncomputable def spEndless : Sp := fun vs H Q _ => I_spEndless vs H Q
inductive I_spOnRing (vs : List V) (H : Hp) (Q : VK) : Prop
  | mk : ∀ (d e : Addr) (o : Obj) (ws : List Wd) (pr st : List Bool) (m N : List (List Bool × V)), (vs = [.ref d, .ref e]) → (H d = some (.frz o (sD m))) → (StepsOk H ws pr st m) → (ws.length ≤ 6) → (st.length ≤ 6) → (H e = some (sD N)) → ((∃ s, Free m N s)) → ((∀ s ∈ keysS m, Stuck ws pr N s)) → (∀ p s H', Same H H' → BAt H' p s → Free m N s → OnRing ws pr N s → Q (.ref p) H') → I_spOnRing vs H Q
noncomputable def spOnRing : Sp := fun vs H Q _ => I_spOnRing vs H Q
inductive I_spRing (vs : List V) (H : Hp) (Q : VK) : Prop
  | mk : ∀ (d e b : Addr) (o : Obj) (ws : List Wd) (pr st s : List Bool) (m N : List (List Bool × V)), (vs = [.ref d, .ref e, .ref b]) → (H d = some (.frz o (sD m))) → (StepsOk H ws pr st m) → (ws.length ≤ 6) → (H e = some (sD N)) → (BAt H b s) → (Free m N s) → ((∀ s ∈ keysS m, Stuck ws pr N s)) → (OnRing ws pr N s) → (∀ l ks H', H l = none → Same H H' → H' l = some (.lst (nats ks)) → ks ≠ [] → walkN ws pr s ks = some s → Q (.ref l) H') → I_spRing vs H Q
noncomputable def spRing : Sp := fun vs H Q _ => I_spRing vs H Q
end RR
namespace RR
open PySem PySem.W L2
inductive Told (H0 H : Hp) (ws : List Wd) (pr st : List Bool) : Str → V → V → Prop
  | settles (c d : Addr) (rest : List Bool) (N : List (List Bool × V)) : BAt H c rest → H0 d = none → H d = some (sD N) → Paper ws pr st N rest → Told H0 H ws pr st "settles" (.ref c) (.ref d)
  | parts (l1 l2 : Addr) (k1 k2 : List Nat) (r1 r2 : List Bool) : H0 l1 = none → H0 l2 = none → H l1 = some (.lst (nats k1)) → H l2 = some (.lst (nats k2)) → walkN ws pr st k1 = some r1 → walkN ws pr st k2 = some r2 → movs ws pr r1 = [] → movs ws pr r2 = [] → r1 ≠ r2 → k1.length < 65 → Told H0 H ws pr st "parts" (.ref l1) (.ref l2)
  | rounds (l1 l2 : Addr) (k1 k2 : List Nat) (r1 : List Bool) : H0 l1 = none → H0 l2 = none → H l1 = some (.lst (nats k1)) → H l2 = some (.lst (nats k2)) → walkN ws pr st k1 = some r1 → walkN ws pr r1 k2 = some r1 → k2 ≠ [] → k1.length < 65 → Told H0 H ws pr st "rounds" (.ref l1) (.ref l2)
inductive I_spJudged (K : PySem.W.Frag) (vs : List V) (H : Hp) (Q : VK) : Prop
  | mk : ∀ (D b a : Addr) (ws : List Wd) (pr st : List Bool), (vs = [.ref D, .ref b, .ref a]) → (Bd K H D b ws pr) → (BAt H a st) → (st.length = ws.length) → (∀ p kd x y H', Same H H' → H' p = some (.tup [.str kd, x, y]) → Told H H' ws pr st kd x y → Q (.ref p) H') → I_spJudged K vs H Q
noncomputable def spJudged (K : PySem.W.Frag) : Sp := fun vs H Q _ => I_spJudged K vs H Q
theorem paired_filter {α : Type} {keep : Nat → Bool} {n : Nat} {G : Nat → α → Prop} {ys : List α} (h : Paired G ((List.range n).filter keep) ys) : ∀ (i : Nat) y, ys[i]? = some y → ∃ j, j < n ∧ keep j = true ∧ G j y := fun i y hy => by
  obtain ⟨j, hj, hg⟩ := paired_get h hy
  have := List.mem_filter.mp (List.mem_of_getElem? hj)
  exact ⟨j, List.mem_range.mp this.1, this.2, hg⟩
theorem NumOk.bottom {ws : List Wd} {pr : List Bool} {m N : List (List Bool × V)} (h : NumOk ws pr m N) : ∀ (n : Nat) (s : List Bool), (s, V.int (n : Int)) ∈ N → ∃ r ∈ keysS N, movs ws pr r = [] := by
  intro n
  induction n using Nat.strongRecOn with
  | _ n ih =>
    intro s hs
    cases e : movs ws pr s with
    | nil => exact ⟨s, List.mem_map.mpr ⟨_, hs, rfl⟩, e⟩
    | cons k ks =>
      obtain ⟨j, h1, h2⟩ := h.falls s n hs k (by rw [e]; simp)
      obtain ⟨j', ej⟩ := h.num _ _ h1
      injection ej with ej
      subst ej
      exact ih j' (by lia) _ h1
theorem same_keys {m N : List (List Bool × V)} (h1 : (keysS N).Nodup) (h0 : (keysS m).Nodup) (h2 : ∀ s ∈ keysS N, s ∈ keysS m) (h3 : ¬ N.length < m.length) : ∀ s ∈ keysS m, s ∈ keysS N := by
  intro s hs
  by_cases c : s ∈ keysS N
  · exact c
  · exfalso
    have := length_le_of_nodup (l := s :: keysS N) (r := keysS m) (List.nodup_cons.mpr ⟨c, h1⟩) fun x hx => by
      rcases List.mem_cons.mp hx with rfl | hx
      · exact hs
      · exact h2 x hx
    unfold keysS at this
    simp at this
    lia
theorem exists_free {m N : List (List Bool × V)} (h0 : (keysS m).Nodup) (h3 : N.length < m.length) : ∃ s, Free m N s := by
  cases e : (keysS m).find? (fun s => decide (s ∉ keysS N)) with
  | some s =>
    have h1 := List.find?_some e
    exact ⟨s, List.mem_of_find?_eq_some e, by simpa using h1⟩
  | none =>
    exfalso
    rw [List.find?_eq_none] at e
    have := length_le_of_nodup (l := keysS m) (r := keysS N) h0 fun x hx => by
      have := e x hx
      simpa using this
    unfold keysS at this
    simp at this
    lia
end RR


end
section
set_option Elab.async false
set_option linter.all false
set_option maxRecDepth 100000
set_option maxHeartbeats 4000000
namespace L2
open PySem
end L2
namespace RR
open PySem PySem.W L2
inductive I_spReach (K : PySem.W.Frag) (vs : List V) (H : Hp) (Q : VK) : Prop
  | mk : ∀ (D b a : Addr) (ws : List Wd) (pr st : List Bool), (vs = [.ref D, .ref b, .ref a]) → (Bd K H D b ws pr) → (BAt H a st) → (st.length = ws.length) → (∀ l ss us H', H l = none → Same H H' → H' l = some (.lst us) → RowsAt' H' ss us → ss.Nodup → (∀ s, s ∈ ss ↔ Reach ws pr st s) → Q (.ref l) H') → I_spReach K vs H Q
noncomputable def spReach (K : PySem.W.Frag) : Sp := fun vs H Q _ => I_spReach K vs H Q
inductive I_spRoad (K : PySem.W.Frag) (vs : List V) (H : Hp) (Q : VK) : Prop
  | mk : ∀ (D b a l : Addr) (ws : List Wd) (pr st s : List Bool) (ks : List Nat), (vs = [.ref D, .ref b, .ref a, .ref l]) → (Bd K H D b ws pr) → (BAt H a st) → (st.length = ws.length) → (H l = some (.lst (nats ks))) → (walkN ws pr st ks = some s) → (∀ c H', Same H H' → BAt H' c s → Q (.ref c) H') → I_spRoad K vs H Q
noncomputable def spRoad (K : PySem.W.Frag) : Sp := fun vs H Q _ => I_spRoad K vs H Q
inductive I_spSettles (K : PySem.W.Frag) (vs : List V) (H : Hp) (Q : VK) : Prop
  | mk : ∀ (D b a c d : Addr) (ws : List Wd) (pr st rest : List Bool) (N : List (List Bool × V)), (vs = [.ref D, .ref b, .ref a, .ref c, .ref d]) → (Bd K H D b ws pr) → (BAt H a st) → (st.length = ws.length) → (BAt H c rest) → (H d = some (sD N)) → (Paper ws pr st N rest) → (∀ H', Same H H' → Q (.bl true) H') → I_spSettles K vs H Q
noncomputable def spSettles (K : PySem.W.Frag) : Sp := fun vs H Q _ => I_spSettles K vs H Q
inductive I_spRight (K : PySem.W.Frag) (vs : List V) (H : Hp) (Q : VK) : Prop
  | mk : ∀ (p D b a : Addr) (H0 : Hp) (kd : Str) (x y : V) (ws : List Wd) (pr st : List Bool), (vs = [.ref p, .ref D, .ref b, .ref a]) → (H p = some (.tup [.str kd, x, y])) → (Bd K H D b ws pr) → (BAt H a st) → (st.length = ws.length) → (Told H0 H ws pr st kd x y) → (∀ H', Same H H' → Q (.bl true) H') → I_spRight K vs H Q
noncomputable def spRight (K : PySem.W.Frag) : Sp := fun vs H Q _ => I_spRight K vs H Q
structure Seen2 (ws : List Wd) (pr st : List Bool) (m : List (List Bool × V)) (dl : List (List Bool)) : Prop where
  nd : (keysS m).Nodup
  rch : ∀ s ∈ keysS m, Reach ws pr st s
  start : st ∈ keysS m
  left : ∀ s ∈ dl, s ∈ keysS m
  done : ∀ t ∈ keysS m, t ∈ dl ∨ ∀ k ∈ movs ws pr t, flip t k ∈ keysS m
  len : dl.length ≤ m.length
theorem Paper.at {ws : List Wd} {pr st rest : List Bool} {N : List (List Bool × V)} (h : Paper ws pr st N rest) {s : List Bool} (hs : Reach ws pr st s) : ∃ n : Nat, valV N s = some (.int n) := by
  obtain ⟨v, hv⟩ := Option.isSome_iff_exists.mp (valV_isSome.mpr ((h.all s).mpr hs))
  obtain ⟨n, rfl⟩ := h.num _ _ (valV_some hv)
  exact ⟨n, hv⟩
end RR


end
section
set_option Elab.async false
set_option linter.all false
set_option maxRecDepth 100000
set_option maxHeartbeats 4000000
namespace L2
open PySem PyProof.Rows
section
variable {X : Cx}
end
theorem FnOk.calm {P : Program} {w : World} {K : PySem.W.Frag} {mg : Str → Option Value} {base : Heap} {k : Nat} {f : Addr} {fd : FuncData} {ps : List Str} {sp sp' : Sp} (F : FnOk P w K mg base (CXr P w) k f fd ps sp)
    (h : ∀ vs H Q E, sp' vs H Q E → sp vs H Q E0) : FnOk P w K mg base CX0 k f fd ps sp' :=
  ⟨fun vs H Q E q => F.len vs H Q E0 (h _ _ _ _ q), fun A outer s H args us vs Q E hr he hb hv hs => codeAny_mono (F.run A outer s H args us vs Q E0 hr he hb hv (h _ _ _ _ hs)) fun r s' q => by
    cases r with
    | error e =>
      obtain ⟨a, C, t, H', B, _, _, _, _, _, _, _, _, _, _, z⟩ := q
      exact z.elim
    | ok fl => cases fl <;> exact q⟩
end L2
namespace RR
open PySem PySem.W L2
inductive I_spWalkedC (K : Frag) (vs : List V) (H : Hp) (Q : VK) : Prop
  | mk : ∀ (D b a l : Addr) (ws : List Wd) (pr st st' : List Bool) (ms : List Int), (vs = [.ref D, .ref b, .ref a, .ref l]) → (Bd K H D b ws pr) → (BAt H a st) → (st.length = ws.length) → (SqL K H l (ms.map V.int)) → (walkI ws pr st ms = .inr st') → (∀ p H', Same H H' → BAt H' p st' → Q (.ref p) H') → I_spWalkedC K vs H Q
noncomputable def spWalkedC (K : Frag) : Sp := fun vs H Q _ => I_spWalkedC K vs H Q
noncomputable def numOf (N : List (List Bool × V)) (s : List Bool) : Option Int := match valV N s with
  | some (.int j) => some j
  | _ => none
noncomputable def lowB (N : List (List Bool × V)) (n : Int) (s : List Bool) : Bool := match numOf N s with
  | some j => decide (j < n)
  | none => false
noncomputable def okN (ws : List Wd) (pr : List Bool) (N : List (List Bool × V)) (s : List Bool) (n : Int) : Bool := decide (0 ≤ n) && (movs ws pr s).all fun k => lowB N n (flip s k)
noncomputable def okP (ws : List Wd) (pr : List Bool) (N : List (List Bool × V)) (p : List Bool × V) : Bool := match p.2 with
  | .int n => okN ws pr N p.1 n
  | _ => false
noncomputable def endsB (ws : List Wd) (pr : List Bool) (N : List (List Bool × V)) : Nat := (N.filter fun p => (movs ws pr p.1).isEmpty).length
noncomputable def showsB (ws : List Wd) (pr : List Bool) (N : List (List Bool × V)) (st : List Bool) : Bool :=
  decide (st ∈ keysS N) && N.all (okP ws pr N) && decide (endsB ws pr N = 1)
structure NumsD (n : Nat) (N : List (List Bool × V)) : Prop where
  nd : (keysS N).Nodup
  len : ∀ s ∈ keysS N, s.length = n
  num : ∀ s v, (s, v) ∈ N → ∃ i : Int, v = V.int i
inductive I_spLeads (vs : List V) (H : Hp) (Q : VK) : Prop
  | mk : ∀ (d b l : Addr) (n : Int) (N : List (List Bool × V)) (s : List Bool) (rs : List (List Bool)) (us : List V), (vs = [.ref d, .ref b, .ref l]) → (Rd H d (sD N)) → ((∀ x v, (x, v) ∈ N → ∃ i : Int, v = V.int i)) → (BAt H b s) → (valV N s = some (.int n)) → (H l = some (.lst us)) → (RowsAt' H rs us) → (us.length ≤ 1000) → (∀ H', Same H H' → Q (.bl (rs.all (lowB N n))) H') → I_spLeads vs H Q
noncomputable def spLeads (K : Frag) : Sp := fun vs H Q _ => I_spLeads vs H Q
inductive I_spShows (K : Frag) (vs : List V) (H : Hp) (Q : VK) : Prop
  | mk : ∀ (D b a d : Addr) (o : Obj) (ws : List Wd) (pr st : List Bool) (N : List (List Bool × V)), (vs = [.ref D, .ref b, .ref a, .ref d]) → (Bd K H D b ws pr) → (BAt H a st) → (H d = some (.frz o (sD N))) → (NumsD ws.length N) → (∀ H', Same H H' → Q (.bl (showsB ws pr N st)) H') → I_spShows K vs H Q
noncomputable def spShows (K : Frag) : Sp := fun vs H Q _ => I_spShows K vs H Q
end RR


end
section
set_option Elab.async false
set_option linter.all false
set_option maxRecDepth 100000
set_option maxHeartbeats 4000000
namespace L2
open PySem PySem.Spec PyProof.Rows
noncomputable def Itz (K : PySem.W.Frag) (a b : Addr) : It :=
  ⟨fun i H => ∃ xs ys x y, SqL K H a xs ∧ SqL K H b ys ∧ xs[i]? = some x ∧ ys[i]? = some y,
   fun i H v H' => ∃ p, v = .ref p ∧ H p = none ∧ ∀ xs ys x y, SqL K H a xs → SqL K H b ys → xs[i]? = some x → ys[i]? = some y → H' = upd H p (.tup [x, y]),
   fun i H => ∃ xs ys, SqL K H a xs ∧ SqL K H b ys ∧ (xs.length ≤ i ∨ ys.length ≤ i)⟩
section
variable {X : Cx}
noncomputable def iZip (K : PySem.W.Frag) (ta : TA) : TI := fun σ H R => ta σ H fun vs H1 => ∃ a b, vs = [.ref a, .ref b] ∧ (∃ xs, SqL K H1 a xs) ∧ (∃ ys, SqL K H1 b ys) ∧ R (Itz K a b) H1
end
end L2
namespace L2
open PySem
end L2


end
section
set_option Elab.async false
set_option linter.all false
set_option maxRecDepth 100000
set_option maxHeartbeats 4000000
namespace RR
open PySem PySem.W L2
theorem Paper.walk {ws : List Wd} {pr st rest : List Bool} {N : List (List Bool × V)} (h : Paper ws pr st N rest) : ∀ {ks : List Nat} {s t : List Bool} {n : Int}, (s, V.int n) ∈ N → walkN ws pr s ks = some t → ∃ j : Int, (t, V.int j) ∈ N ∧ j + ks.length ≤ n
  | [], s, t, n, hs, hw => by cases hw; exact ⟨n, hs, by simp⟩
  | k :: ks, s, t, n, hs, hw => by
    simp only [walkN] at hw
    split at hw
    · rename_i hk
      obtain ⟨j, h1, h2⟩ := h.falls s n hs k hk
      obtain ⟨i, h3, h4⟩ := h.walk h1 hw
      exact ⟨i, h3, by simp only [List.length_cons]; lia⟩
    · cases hw
theorem Paper.no_ring {ws : List Wd} {pr st rest : List Bool} {N : List (List Bool × V)} (h : Paper ws pr st N rest) {r : List Bool} {ks : List Nat} (hr : Reach ws pr st r) (hw : walkN ws pr r ks = some r) : ks = [] := by
  obtain ⟨n, hn⟩ := h.at hr
  obtain ⟨j, h1, h2⟩ := h.walk (valV_some hn) hw
  have h3 := valV_mem h.nd h1
  rw [hn] at h3
  injection h3 with h3
  injection h3 with h3
  cases ks with
  | nil => rfl
  | cons k ks => simp only [List.length_cons] at h2; lia
noncomputable def turned2 (w : Wd) (c : Int) : Wd :=
  if c % 5 = 0 then .nt (.nt w) else if c % 5 = 1 then .or .off w else match w with
    | .an a b => .nt (.or (.nt a) (.nt b))
    | .or a b => .or b a
    | w => .an w .on
inductive I_spTurned2 (vs : List V) (H : Hp) (Q : VK) : Prop
  | mk : ∀ (v : V) (wd : Wd) (c : Int), (vs = [v, .int c]) → (WAt H wd v) → (∀ v' H', Same H H' → WAt H' (turned2 wd c) v' → Q v' H') → I_spTurned2 vs H Q
noncomputable def spTurned2 : Sp := fun vs H Q _ => I_spTurned2 vs H Q
end RR


end
section
set_option linter.all false
namespace RS
noncomputable def PM {α : Type} (a b out : Array α) (ia ib : Nat) : Prop := out.toList.Perm (a.toList.take ia ++ b.toList.take ib) ∧ ia ≤ a.size ∧ ib ≤ b.size
theorem take_snoc {α : Type} {l : List α} {i : Nat} (h : i < l.length) : l.take (i + 1) = l.take i ++ [l[i]] := List.take_succ_eq_append_getElem h
theorem PM.pushB {α : Type} {a b out : Array α} {ia ib : Nat} (h : PM a b out ia ib) (hb : ib < b.size) : PM a b (out.push b[ib]) ia (ib + 1) := by
  refine ⟨?_, h.2.1, hb⟩
  rw [Array.toList_push, take_snoc (by simpa using hb), ← List.append_assoc]
  exact h.1.append_right _
theorem PM.pushA {α : Type} {a b out : Array α} {ia ib : Nat} (h : PM a b out ia ib) (ha : ia < a.size) : PM a b (out.push a[ia]) (ia + 1) ib := by
  refine ⟨?_, ha, h.2.2⟩
  rw [Array.toList_push, take_snoc (by simpa using ha)]
  refine (h.1.append_right _).trans ?_
  rw [List.append_assoc, List.append_assoc]
  exact List.Perm.append_left _ List.perm_append_comm
theorem take_more {α : Type} (l : List α) (i k : Nat) : l.take (i + k) = l.take i ++ (l.drop i).take k := List.take_add ..
theorem ext_list {α : Type} (a : Array α) (i j : Nat) : (a.extract i j).toList = (a.toList.drop i).take (j - i) := by
  simp [Array.toList_extract, List.extract_eq_take_drop]
theorem PM.extB {α : Type} {a b out : Array α} {ia ib k : Nat} (h : PM a b out ia ib) (hb : ib + k ≤ b.size) : PM a b (out ++ b.extract ib (ib + k)) ia (ib + k) := by
  refine ⟨?_, h.2.1, hb⟩
  rw [Array.toList_append, ext_list, take_more, ← List.append_assoc, show ib + k - ib = k by lia]
  exact h.1.append_right _
theorem PM.extA {α : Type} {a b out : Array α} {ia ib k : Nat} (h : PM a b out ia ib) (ha : ia + k ≤ a.size) : PM a b (out ++ a.extract ia (ia + k)) (ia + k) ib := by
  refine ⟨?_, ha, h.2.2⟩
  rw [Array.toList_append, ext_list, take_more, show ia + k - ia = k by lia]
  refine (h.1.append_right _).trans ?_
  rw [List.append_assoc, List.append_assoc]
  exact List.Perm.append_left _ List.perm_append_comm
theorem PM.done {α : Type} {a b out : Array α} {ia ib : Nat} (h : PM a b out ia ib) : (out ++ a.extract ia ++ b.extract ib).toList.Perm (a.toList ++ b.toList) := by
  rw [Array.toList_append, Array.toList_append, ext_list, ext_list, List.take_of_length_le (by simp), List.take_of_length_le (by simp)]
  refine ((h.1.append_right _).append_right _).trans ?_
  have ea : a.toList = a.toList.take ia ++ a.toList.drop ia := (List.take_append_drop ..).symm
  have eb : b.toList = b.toList.take ib ++ b.toList.drop ib := (List.take_append_drop ..).symm
  conv => rhs; rw [ea, eb]
  rw [List.append_assoc, List.append_assoc, List.append_assoc]
  refine List.Perm.append_left _ ?_
  rw [← List.append_assoc, ← List.append_assoc]
  exact List.Perm.append_right _ List.perm_append_comm
theorem PM.last {α : Type} {a b out : Array α} {ia ib : Nat} (h : PM a b out ia ib) : (out ++ b.extract ib ++ a.extract ia).toList.Perm (a.toList ++ b.toList) := by
  refine List.Perm.trans ?_ h.done
  rw [Array.toList_append, Array.toList_append, Array.toList_append, Array.toList_append, List.append_assoc, List.append_assoc]
  exact List.Perm.append_left _ List.perm_append_comm
end RS
namespace RS
noncomputable def PH {α : Type} (a b out : Array α) (na nb : Nat) : Prop := out.toList.Perm (a.toList.drop na ++ b.toList.drop nb) ∧ na ≤ a.size ∧ nb ≤ b.size
theorem drop_cons' {α : Type} {l : List α} {i : Nat} (h : i < l.length) : l.drop i = l[i] :: l.drop (i + 1) := List.drop_eq_getElem_cons h
theorem PH.pushA {α : Type} {a b out : Array α} {na nb : Nat} (h : PH a b out na nb) (h1 : 1 ≤ na) : PH a b (out.push (a[na - 1]'(by have := h.2.1; lia))) (na - 1) nb := by
  have h2 := h.2.1
  refine ⟨?_, by lia, h.2.2⟩
  rw [Array.toList_push, drop_cons' (l := a.toList) (i := na - 1) (by rw [Array.length_toList]; lia), show na - 1 + 1 = na by lia]
  refine (List.perm_append_singleton _ _).trans ?_
  rw [List.cons_append]
  exact List.Perm.cons _ h.1
theorem PH.pushB {α : Type} {a b out : Array α} {na nb : Nat} (h : PH a b out na nb) (h1 : 1 ≤ nb) : PH a b (out.push (b[nb - 1]'(by have := h.2.2; lia))) na (nb - 1) := by
  have h2 := h.2.2
  refine ⟨?_, h.2.1, by lia⟩
  rw [Array.toList_push, drop_cons' (l := b.toList) (i := nb - 1) (by rw [Array.length_toList]; lia), show nb - 1 + 1 = nb by lia]
  refine (List.perm_append_singleton _ _).trans ?_
  refine (List.Perm.cons _ h.1).trans ?_
  exact (List.perm_middle).symm
theorem PH.extA {α : Type} {a b out : Array α} {na nb k : Nat} (h : PH a b out na nb) (hk : k ≤ na) : PH a b (out ++ (a.extract k na).reverse) k nb := by
  refine ⟨?_, by have := h.2.1; lia, h.2.2⟩
  rw [Array.toList_append, Array.toList_reverse, ext_list]
  have e : a.toList.drop k = (a.toList.drop k).take (na - k) ++ a.toList.drop na := by
    conv => lhs; rw [← List.take_append_drop (na - k) (a.toList.drop k)]
    rw [List.drop_drop, show k + (na - k) = na by lia]
  generalize (a.toList.drop k).take (na - k) = X at e
  rw [e, List.append_assoc]
  exact ((List.Perm.append_left _ (List.reverse_perm _)).trans (h.1.append_right _)).trans List.perm_append_comm
theorem PH.extB {α : Type} {a b out : Array α} {na nb k : Nat} (h : PH a b out na nb) (hk : k ≤ nb) : PH a b (out ++ (b.extract k nb).reverse) na k := by
  refine ⟨?_, h.2.1, by have := h.2.2; lia⟩
  rw [Array.toList_append, Array.toList_reverse, ext_list]
  have e : b.toList.drop k = (b.toList.drop k).take (nb - k) ++ b.toList.drop nb := by
    conv => lhs; rw [← List.take_append_drop (nb - k) (b.toList.drop k)]
    rw [List.drop_drop, show k + (nb - k) = nb by lia]
  generalize (b.toList.drop k).take (nb - k) = X at e
  rw [e]
  refine ((List.Perm.append_left _ (List.reverse_perm _)).trans (h.1.append_right _)).trans ?_
  rw [List.append_assoc]
  exact List.Perm.append_left _ List.perm_append_comm
theorem PH.done {α : Type} {a b out : Array α} {na nb : Nat} (h : PH a b out na nb) : (a.extract 0 na ++ b.extract 0 nb ++ out.reverse).toList.Perm (a.toList ++ b.toList) := by
  rw [Array.toList_append, Array.toList_append, Array.toList_reverse, ext_list, ext_list, List.drop_zero, List.drop_zero, Nat.sub_zero, Nat.sub_zero]
  refine (List.Perm.append_left _ ((List.reverse_perm _).trans h.1)).trans ?_
  have ea : a.toList = a.toList.take na ++ a.toList.drop na := (List.take_append_drop ..).symm
  have eb : b.toList = b.toList.take nb ++ b.toList.drop nb := (List.take_append_drop ..).symm
  conv => rhs; rw [ea, eb]
  rw [List.append_assoc, List.append_assoc]
  refine List.Perm.append_left _ ?_
  rw [← List.append_assoc, ← List.append_assoc]
  exact List.Perm.append_right _ List.perm_append_comm
theorem PH.first {α : Type} {a b out : Array α} {na nb : Nat} (h : PH a b out na nb) : (b.extract 0 nb ++ a.extract 0 na ++ out.reverse).toList.Perm (a.toList ++ b.toList) := by
  refine List.Perm.trans ?_ h.done
  rw [Array.toList_append, Array.toList_append, Array.toList_append, Array.toList_append]
  exact List.Perm.append_right _ List.perm_append_comm
end RS


end
section
set_option Elab.async false
set_option linter.all false
set_option maxRecDepth 100000
set_option maxHeartbeats 4000000
namespace RS
open PySem PyProof.Rows
section
variable {M : Model} {A : Around} {E : Value → Shared → Prop} {s : Shared}
noncomputable def Ask (M : Model) (A : Around) (s : Shared) (κ : SortKind) (ok : Value → Prop) : Prop := ∀ x y, ok x → ok y → ∀ (R : Bool → Shared → Prop) (E : Value → Shared → Prop), (∀ b, R b s) → wpAny M A (keyLt' κ x y) R E s
theorem elem_at {arr : Array Keyed} {i : Nat} {Q : Keyed → SortSt → Prop} {st : SortSt} (h : i < arr.size) (q : Q arr[i] st) : wpS M A E s (elem' arr i) Q st := by
  rw [elem'_eq]
  have e : arr[i]? = some arr[i] := Array.getElem?_eq_getElem h
  rw [e]
  exact wpS_pure q
noncomputable def Oks (ok : Value → Prop) (a : Array Keyed) : Prop := ∀ x ∈ a, ok x.1
noncomputable def GalOk (M : Model) (A : Around) (E : Value → Shared → Prop) (s : Shared) (κ : SortKind) (ok : Value → Prop) (g : Bool → Keyed → Array Keyed → Nat → Nat → Nat → StateT SortSt Sem (Option Nat)) : Prop :=
  ∀ (left : Bool) (key : Keyed) (arr : Array Keyed) (b n hint : Nat) (Q : Option Nat → SortSt → Prop) (st : SortSt), kindOf st = κ → ok key.1 → Oks ok arr → b + n ≤ arr.size → hint < n → (∀ k, k ≤ n → Q (some k) st) → wpS M A E s (g left key arr b n hint) Q st
theorem set_all {α : Type} : ∀ (ms : List α) (a : Array α) (b k : Nat), b + k + ms.length ≤ a.size → ((ms.zipIdx k).foldl (fun a x => match x with | (p, j) => a.setIfInBounds (b + j) p) a).toList = a.toList.take (b + k) ++ ms ++ a.toList.drop (b + k + ms.length)
  | [], a, b, k, _ => by simp
  | m :: ms, a, b, k, h => by
    simp only [List.length_cons] at h
    rw [List.zipIdx_cons, List.foldl_cons]
    have := set_all ms (a.setIfInBounds (b + k) m) b (k + 1) (by rw [Array.size_setIfInBounds]; lia)
    rw [show b + (k + 1) = b + k + 1 by lia] at this
    refine this.trans ?_
    rw [Array.toList_setIfInBounds]
    have hl : b + k < a.toList.length := by rw [Array.length_toList]; lia
    rw [List.take_set, List.drop_set_of_lt (by lia), List.length_cons, show b + k + (ms.length + 1) = b + k + 1 + ms.length by lia]
    have hlen : (a.toList.take (b + k)).length = b + k := by rw [List.length_take]; lia
    rw [take_snoc hl, List.set_append_right _ _ (by lia), hlen, Nat.sub_self]
    simp
theorem q_of {Q : Bool → SortSt → Prop} {b : Bool} {st : SortSt} (e : b = true) (h : Q true st) : Q b st := e ▸ h
theorem mem_ext {α : Type} {a : Array α} {i j : Nat} {x : α} (h : x ∈ a.extract i j) : x ∈ a := by
  have h1 : x ∈ (a.extract i j).toList := Array.mem_toList_iff.mpr h
  rw [ext_list] at h1
  exact Array.mem_toList_iff.mp (List.mem_of_mem_drop (List.mem_of_mem_take h1))
structure SameG (st st' : SortSt) : Prop where
  kind : kindOf st' = kindOf st
  arr : arrOf st' = arrOf st
  pend : pendingOf st' = pendingOf st
  fail : failedOf st' = failedOf st
theorem SameG.refl (st : SortSt) : SameG st st := ⟨rfl, rfl, rfl, rfl⟩
theorem SameG.trans {a b c : SortSt} (x : SameG a b) (y : SameG b c) : SameG a c := ⟨y.kind.trans x.kind, y.arr.trans x.arr, y.pend.trans x.pend, y.fail.trans x.fail⟩
theorem mod_gal {st1 st : SortSt} {f : SortSt → SortSt} {Q : PUnit → SortSt → Prop} (hS : SameG st1 st) (q : ∀ st', SameG st1 st' → Q PUnit.unit st') (e : SameG st (f st) := by exact ⟨rfl, rfl, rfl, rfl⟩) : wpS M A E s (modify f) Q st := wpS_modify (q _ (SameG.trans hS e))
noncomputable def MergeOk (M : Model) (A : Around) (E : Value → Shared → Prop) (s : Shared) (κ : SortKind) (ok : Value → Prop) (g : Array Keyed → Array Keyed → StateT SortSt Sem (Array Keyed)) : Prop :=
  ∀ (a b : Array Keyed) (Q : Array Keyed → SortSt → Prop) (st : SortSt), kindOf st = κ → Oks ok a → Oks ok b → 0 < a.size → 0 < b.size → (∀ r st', SameG st st' → r.toList.Perm (a.toList ++ b.toList) → Q r st') → wpS M A E s (g a b) Q st
end
end RS


end
section
set_option Elab.async false
set_option linter.all false
set_option maxRecDepth 100000
set_option maxHeartbeats 4000000
namespace RS
open PySem PyProof.Rows
section
variable {M : Model} {A : Around} {E : Value → Shared → Prop} {s : Shared} {κ : SortKind} {ok : Value → Prop} {a₀ : Array Keyed}
structure SP (κ : SortKind) (a₀ : Array Keyed) (p : Array (Nat × Nat × Nat)) (st : SortSt) : Prop where
  kind : kindOf st = κ
  perm : (arrOf st).toList.Perm a₀.toList
  fail : failedOf st = none
  pend : pendingOf st = p
theorem SP.size {p : Array (Nat × Nat × Nat)} {st : SortSt} (h : SP κ a₀ p st) : (arrOf st).size = a₀.size := by
  have := h.perm.length_eq
  rwa [Array.length_toList, Array.length_toList] at this
theorem SP.oks {p : Array (Nat × Nat × Nat)} {st : SortSt} (h : SP κ a₀ p st) (o : Oks ok a₀) : Oks ok (arrOf st) := fun x hx => o x (Array.mem_toList_iff.mp (h.perm.mem_iff.mp (Array.mem_toList_iff.mpr hx)))
end
end RS


end
section
set_option Elab.async false
set_option linter.all false
set_option maxRecDepth 100000
set_option maxHeartbeats 4000000
namespace RS
open PySem PyProof.Rows
noncomputable def Runs : List (Nat × Nat × Nat) → Nat → Nat → Prop
  | [], s, e => s = e
  | (st, n, _) :: r, s, e => st = s ∧ 0 < n ∧ Runs r (s + n) e
theorem Runs.le : ∀ {l : List (Nat × Nat × Nat)} {s e : Nat}, Runs l s e → s ≤ e
  | [], s, e, h => Nat.le_of_eq h
  | (st, n, _) :: r, s, e, h => by
    have := Runs.le h.2.2
    lia
theorem Runs.snoc {lo n pw : Nat} (hn : 0 < n) : ∀ {l : List (Nat × Nat × Nat)} {s : Nat}, Runs l s lo → Runs (l ++ [(lo, n, pw)]) s (lo + n)
  | [], s, h => by
    have h : s = lo := h
    subst h
    exact ⟨rfl, hn, rfl⟩
  | (st, k, _) :: r, s, h => ⟨h.1, h.2.1, Runs.snoc hn h.2.2⟩
theorem Runs.same : ∀ {l l' : List (Nat × Nat × Nat)} {s e : Nat}, l'.map (fun x => (x.1, x.2.1)) = l.map (fun x => (x.1, x.2.1)) → Runs l s e → Runs l' s e
  | [], [], _, _, _, h => h
  | [], _ :: _, _, _, he, _ => by cases he
  | _ :: _, [], _, _, he, _ => by cases he
  | (a, b, c) :: l, (a', b', c') :: l', s, e, he, h => by
    simp only [List.map_cons, List.cons.injEq, Prod.mk.injEq] at he
    obtain ⟨⟨e1, e2⟩, e3⟩ := he
    subst e1 e2
    exact ⟨h.1, h.2.1, Runs.same e3 h.2.2⟩
theorem Runs.merge : ∀ {l : List (Nat × Nat × Nat)} {s e i : Nat}, Runs l s e → i + 1 < l.length → ∃ sa na pa sb nb pb, l[i]? = some (sa, na, pa) ∧ l[i + 1]? = some (sb, nb, pb) ∧ sb = sa + na ∧ 0 < na ∧ 0 < nb ∧ sb + nb ≤ e ∧ Runs ((l.set i (sa, na + nb, pa)).eraseIdx (i + 1)) s e
  | (a, n, p) :: (b, m, q) :: r, s, e, 0, h, _ => by
    obtain ⟨h1, h2, h3, h4, h5⟩ := h
    have := Runs.le h5
    refine ⟨a, n, p, b, m, q, rfl, rfl, by lia, h2, h4, by lia, h1, by lia, ?_⟩
    show Runs r (s + (n + m)) e
    rw [← Nat.add_assoc]
    exact h5
  | (a, n, p) :: l, s, e, i + 1, h, hl => by
    obtain ⟨sa, na, pa, sb, nb, pb, e1, e2, e3, e4, e5, e6, e7⟩ := Runs.merge (i := i) h.2.2 (by simpa using hl)
    exact ⟨sa, na, pa, sb, nb, pb, by simpa using e1, by simpa using e2, e3, e4, e5, e6, h.1, h.2.1, e7⟩
  | [], _, _, _, _, h => by simp at h
  | [_], _, _, 0, _, h => by simp at h
theorem map_modify {l : List (Nat × Nat × Nat)} {i pw : Nat} : (l.modify i fun x => match x with | (st, len, _) => (st, len, pw)).map (fun x => (x.1, x.2.1)) = l.map (fun x => (x.1, x.2.1)) := by
  apply List.ext_getElem?
  intro j
  rw [List.getElem?_map, List.getElem?_map, List.getElem?_modify]
  cases l[j]? with
  | none => rfl
  | some x =>
    show some _ = some _
    by_cases h : i = j
    · simp [h]
    · simp [h]
section
variable {M : Model} {A : Around} {E : Value → Shared → Prop} {s : Shared} {κ : SortKind} {ok : Value → Prop} {a₀ : Array Keyed}
end
end RS


end
section
set_option Elab.async false
set_option linter.all false
set_option maxRecDepth 100000
set_option maxHeartbeats 4000000
namespace RS
open PySem PyProof.Rows
section
variable {rk : Value → Nat}
noncomputable def rkA (rk : Value → Nat) (a : Array Keyed) (i : Nat) : Nat := match a[i]? with | some x => rk x.1 | none => 0
theorem rkA_eq {a : Array Keyed} {i : Nat} (h : i < a.size) : rkA rk a i = rk (a[i]).1 := by
  unfold rkA
  rw [Array.getElem?_eq_getElem h]
theorem rkA_congr {a b : Array Keyed} {i j : Nat} (h : a[i]? = b[j]?) : rkA rk a i = rkA rk b j := by
  unfold rkA
  rw [h]
noncomputable def UpR (rk : Value → Nat) (a : Array Keyed) (s n : Nat) : Prop := ∀ i j, s ≤ i → i ≤ j → j < s + n → rkA rk a i ≤ rkA rk a j
noncomputable def RSl (rk : Value → Nat) (l : List Keyed) : Prop := l.Pairwise fun x y => rk x.1 ≤ rk y.1
theorem UpR.congr {a b : Array Keyed} {s n : Nat} (h : UpR rk a s n) (e : ∀ i, s ≤ i → i < s + n → b[i]? = a[i]?) : UpR rk b s n := fun i j h1 h2 h3 => by
  rw [rkA_congr (e i h1 (by lia)), rkA_congr (e j (by lia) h3)]
  exact h i j h1 h2 h3
theorem UpR.rsl {a : Array Keyed} {s n : Nat} (h : UpR rk a s n) : RSl rk ((a.toList.drop s).take n) := by
  unfold RSl
  rw [List.pairwise_iff_getElem]
  intro i j hi hj hij
  rw [List.length_take, List.length_drop, Array.length_toList] at hi hj
  have e : ∀ i, (hi : i < ((a.toList.drop s).take n).length) → rk (((a.toList.drop s).take n)[i]).1 = rkA rk a (s + i) := fun i hi => by
    have hi' := hi
    rw [List.length_take, List.length_drop, Array.length_toList] at hi'
    rw [rkA_eq (show s + i < a.size by lia)]
    simp [List.getElem_take, List.getElem_drop]
  rw [e, e]
  exact h _ _ (by lia) (by lia) (by lia)
theorem UpR.of {a : Array Keyed} {s n : Nat} (hz : s + n ≤ a.size) (h : RSl rk ((a.toList.drop s).take n)) : UpR rk a s n := fun i j h1 h2 h3 => by
  by_cases hij : i = j
  · rw [hij]
    exact Nat.le_refl _
  have e : ∀ i, (hi : i < ((a.toList.drop s).take n).length) → rk (((a.toList.drop s).take n)[i]).1 = rkA rk a (s + i) := fun i hi => by
    have hi' := hi
    rw [List.length_take, List.length_drop, Array.length_toList] at hi'
    rw [rkA_eq (show s + i < a.size by lia)]
    simp [List.getElem_take, List.getElem_drop]
  unfold RSl at h
  rw [List.pairwise_iff_getElem] at h
  have hl : ((a.toList.drop s).take n).length = n := by
    rw [List.length_take, List.length_drop, Array.length_toList]
    lia
  have := h (i - s) (j - s) (by lia) (by lia) (by lia)
  rw [e, e, show s + (i - s) = i by lia, show s + (j - s) = j by lia] at this
  exact this
structure Cut (T : Nat → Bool) (n k : Nat) : Prop where
  le : k ≤ n
  yes : ∀ i, i < k → T i = true
  no : ∀ i, k ≤ i → i < n → T i = false
noncomputable def MonoT (T : Nat → Bool) (n : Nat) : Prop := ∀ i j, i ≤ j → j < n → T j = true → T i = true
theorem MonoT.no {T : Nat → Bool} {n i j : Nat} (h : MonoT T n) (hij : i ≤ j) (hj : j < n) (e : T i = false) : T j = false := by
  cases c : T j with
  | false => rfl
  | true =>
    rw [h i j hij hj c] at e
    cases e
structure BinI (T : Nat → Bool) (n x lo hi : Nat) : Prop where
  le : lo ≤ hi
  hn : hi ≤ n
  cnt : hi - lo + x ≤ n
  yes : ∀ i, i < lo → T i = true
  no : ∀ i, hi ≤ i → i < n → T i = false
theorem BinI.stop {T : Nat → Bool} {n x lo hi : Nat} (h : BinI T n x lo hi) (hc : lo ≥ hi) : Cut T n hi := ⟨h.hn, fun i hi => h.yes i (by lia), h.no⟩
theorem BinI.fin {T : Nat → Bool} {n lo hi : Nat} (h : BinI T n (max 0 n) lo hi) : Cut T n hi := h.stop (by have := h.cnt; lia)
theorem BinI.right {T : Nat → Bool} {n x lo hi : Nat} (h : BinI T n x lo hi) (m : MonoT T n) (hc : ¬ lo ≥ hi) (c : true = T (lo + (hi - lo) / 2)) : BinI T n (x + 1) (lo + (hi - lo) / 2 + 1) hi := by
  have h1 := h.hn
  have h2 := h.cnt
  exact ⟨by lia, h1, by lia, fun i hi' => m i _ (by lia) (by lia) c.symm, h.no⟩
theorem BinI.left {T : Nat → Bool} {n x lo hi : Nat} (h : BinI T n x lo hi) (m : MonoT T n) (hc : ¬ lo ≥ hi) (c : false = T (lo + (hi - lo) / 2)) : BinI T n (x + 1) lo (lo + (hi - lo) / 2) := by
  have h1 := h.hn
  have h2 := h.cnt
  exact ⟨by lia, by lia, by lia, h.yes, fun i hi' hn => m.no hi' hn c.symm⟩
structure ExpR (T : Nat → Bool) (n hint x l o : Nat) : Prop where
  lt : l < o
  cnt : x + 1 ≤ o
  hn : hint + l < n
  yes : T (hint + l) = true
theorem ExpR.start {T : Nat → Bool} {n hint : Nat} (h : hint < n) (c : true = T hint) : ExpR T n hint 0 0 1 := ⟨by lia, by lia, h, c.symm⟩
theorem ExpR.step {T : Nat → Bool} {n hint x l o : Nat} (h : ExpR T n hint x l o) (hc : ¬ o ≥ n - hint) (c : true = T (hint + o)) : ExpR T n hint (x + 1) o (2 * o + 1) := by
  have := h.cnt
  exact ⟨by lia, by lia, by lia, c.symm⟩
theorem ExpR.stop {T : Nat → Bool} {n hint x l o : Nat} (h : ExpR T n hint x l o) (m : MonoT T n) (hc : o ≥ n - hint) : BinI T n 0 (hint + l + 1) (hint + min o (n - hint)) := by
  have h1 := h.hn
  have h2 := h.lt
  exact ⟨by lia, by lia, by lia, fun i hi => m i _ (by lia) h1 h.yes, fun i hi hn => absurd hi (by lia)⟩
theorem ExpR.fin {T : Nat → Bool} {n hint l o : Nat} (h : ExpR T n hint (max 0 n) l o) (m : MonoT T n) : BinI T n 0 (hint + l + 1) (hint + min o (n - hint)) := h.stop m (by have := h.cnt; lia)
theorem ExpR.found {T : Nat → Bool} {n hint x l o : Nat} (h : ExpR T n hint x l o) (m : MonoT T n) (hc : ¬ o ≥ n - hint) (c : false = T (hint + o)) : BinI T n 0 (hint + l + 1) (hint + min o (n - hint)) := by
  have h1 := h.hn
  have h2 := h.lt
  exact ⟨by lia, by lia, by lia, fun i hi => m i _ (by lia) h1 h.yes, fun i hi hn => m.no (by lia) hn c.symm⟩
structure ExpL (T : Nat → Bool) (n hint x l o : Nat) : Prop where
  lt : l < o
  cnt : x + 1 ≤ o
  hl : l ≤ hint
  no : T (hint - l) = false
theorem ExpL.start {T : Nat → Bool} {n hint : Nat} (c : false = T hint) : ExpL T n hint 0 0 1 := ⟨by lia, by lia, by lia, c.symm⟩
theorem ExpL.step {T : Nat → Bool} {n hint x l o : Nat} (h : ExpL T n hint x l o) (hc : ¬ o ≥ hint + 1) (c : false = T (hint - o)) : ExpL T n hint (x + 1) o (2 * o + 1) := by
  have := h.cnt
  exact ⟨by lia, by lia, by lia, c.symm⟩
theorem ExpL.stop {T : Nat → Bool} {n hint x l o : Nat} (h : ExpL T n hint x l o) (m : MonoT T n) (hh : hint < n) (hc : o ≥ hint + 1) : BinI T n 0 (hint + 1 - min o (hint + 1)) (hint - l) := by
  have h1 := h.hl
  have h2 := h.lt
  exact ⟨by lia, by lia, by lia, fun i hi => absurd hi (by lia), fun i hi hn => m.no hi hn h.no⟩
theorem ExpL.fin {T : Nat → Bool} {n hint l o : Nat} (h : ExpL T n hint (max 0 n) l o) (m : MonoT T n) (hh : hint < n) : BinI T n 0 (hint + 1 - min o (hint + 1)) (hint - l) := h.stop m hh (by have := h.cnt; lia)
theorem ExpL.found {T : Nat → Bool} {n hint x l o : Nat} (h : ExpL T n hint x l o) (m : MonoT T n) (hh : hint < n) (hc : ¬ o ≥ hint + 1) (c : true = T (hint - o)) : BinI T n 0 (hint + 1 - min o (hint + 1)) (hint - l) := by
  have h1 := h.hl
  have h2 := h.lt
  exact ⟨by lia, by lia, by lia, fun i hi => m i (hint - o) (by lia) (by lia) c.symm, fun i hi hn => m.no hi hn h.no⟩
theorem rsl_mid {X Y Z1 Z2 : List Keyed} (hY : RSl rk (X ++ Y)) (hZ : RSl rk (X ++ (Z1 ++ Z2))) (h : ∀ z ∈ Z1, ∀ y ∈ Y, rk z.1 ≤ rk y.1) : RSl rk (X ++ Z1 ++ Y) ∧ RSl rk (X ++ Z1 ++ Z2) := by
  unfold RSl at *
  refine ⟨?_, by rw [List.append_assoc]; exact hZ⟩
  rw [List.pairwise_append] at hY hZ
  rw [List.append_assoc, List.pairwise_append]
  refine ⟨hY.1, ?_, fun x hx y hy => ?_⟩
  · rw [List.pairwise_append]
    exact ⟨(List.pairwise_append.mp hZ.2.1).1, hY.2.1, h⟩
  · rcases List.mem_append.mp hy with hy | hy
    · exact hZ.2.2 x hx y (List.mem_append_left _ hy)
    · exact hY.2.2 x hx y hy
theorem drop_le {l : List Keyed} {i : Nat} (hi : i < l.length) (h : RSl rk (l.drop i)) {y : Keyed} (hy : y ∈ l.drop i) : rk (l[i]).1 ≤ rk y.1 := by
  rw [List.drop_eq_getElem_cons hi] at h hy
  rcases List.mem_cons.mp hy with rfl | hy
  · exact Nat.le_refl _
  · exact (List.pairwise_cons.mp h).1 y hy
structure PMS (rk : Value → Nat) (a b out : Array Keyed) (ia ib : Nat) : Prop where
  pm : PM a b out ia ib
  ra : RSl rk (out.toList ++ a.toList.drop ia)
  rb : RSl rk (out.toList ++ b.toList.drop ib)
theorem PMS.da {a b out : Array Keyed} {ia ib : Nat} (h : PMS rk a b out ia ib) : RSl rk (a.toList.drop ia) := (List.pairwise_append.mp h.ra).2.1
theorem PMS.db {a b out : Array Keyed} {ia ib : Nat} (h : PMS rk a b out ia ib) : RSl rk (b.toList.drop ib) := (List.pairwise_append.mp h.rb).2.1
theorem PMS.pushB {a b out : Array Keyed} {ia ib : Nat} (h : PMS rk a b out ia ib) (hb : ib < b.size) (ha : ia < a.size) (hle : rkA rk b ib ≤ rkA rk a ia) : PMS rk a b (out.push b[ib]) ia (ib + 1) := by
  rw [rkA_eq hb, rkA_eq ha] at hle
  have eb : b.toList.drop ib = [b[ib]] ++ b.toList.drop (ib + 1) := List.drop_eq_getElem_cons (by rw [Array.length_toList]; exact hb)
  have hr := h.rb
  rw [eb] at hr
  have := rsl_mid h.ra hr (fun z hz y hy => by
    rw [List.mem_singleton.mp hz]
    have := drop_le (l := a.toList) (i := ia) (by rw [Array.length_toList]; exact ha) h.da hy
    rw [Array.getElem_toList] at this
    lia)
  refine ⟨h.pm.pushB hb, ?_, ?_⟩
  · rw [Array.toList_push]; exact this.1
  · rw [Array.toList_push]; exact this.2
theorem PMS.pushA {a b out : Array Keyed} {ia ib : Nat} (h : PMS rk a b out ia ib) (ha : ia < a.size) (hb : ib < b.size) (hle : rkA rk a ia ≤ rkA rk b ib) : PMS rk a b (out.push a[ia]) (ia + 1) ib := by
  rw [rkA_eq hb, rkA_eq ha] at hle
  have ea : a.toList.drop ia = [a[ia]] ++ a.toList.drop (ia + 1) := List.drop_eq_getElem_cons (by rw [Array.length_toList]; exact ha)
  have hr := h.ra
  rw [ea] at hr
  have := rsl_mid h.rb hr (fun z hz y hy => by
    rw [List.mem_singleton.mp hz]
    have := drop_le (l := b.toList) (i := ib) (by rw [Array.length_toList]; exact hb) h.db hy
    rw [Array.getElem_toList] at this
    lia)
  refine ⟨h.pm.pushA ha, ?_, ?_⟩
  · rw [Array.toList_push]; exact this.2
  · rw [Array.toList_push]; exact this.1
theorem mem_seg {a : Array Keyed} {i k : Nat} {z : Keyed} (hk : i + k ≤ a.size) (h : z ∈ (a.toList.drop i).take k) : ∃ j, j < k ∧ rk z.1 = rkA rk a (i + j) := by
  obtain ⟨j, hj, e⟩ := List.mem_iff_getElem.mp h
  have hj' := hj
  rw [List.length_take, List.length_drop, Array.length_toList] at hj'
  refine ⟨j, by lia, ?_⟩
  rw [rkA_eq (show i + j < a.size by lia), ← e]
  simp [List.getElem_take, List.getElem_drop]
theorem PMS.extA {a b out : Array Keyed} {ia ib k : Nat} (h : PMS rk a b out ia ib) (ha : ia + k ≤ a.size) (hb : ib < b.size) (hle : ∀ i, i < k → rkA rk a (ia + i) ≤ rkA rk b ib) : PMS rk a b (out ++ a.extract ia (ia + k)) (ia + k) ib := by
  rw [rkA_eq hb] at hle
  have ea : a.toList.drop ia = (a.toList.drop ia).take k ++ a.toList.drop (ia + k) := by
    conv => lhs; rw [← List.take_append_drop k (a.toList.drop ia)]
    rw [List.drop_drop]
  have hr := h.ra
  rw [ea] at hr
  have := rsl_mid h.rb hr (fun z hz y hy => by
    obtain ⟨j, hj, e⟩ := mem_seg (rk := rk) ha hz
    have h1 := hle j hj
    have := drop_le (l := b.toList) (i := ib) (by rw [Array.length_toList]; exact hb) h.db hy
    rw [Array.getElem_toList] at this
    lia)
  have ex : (a.extract ia (ia + k)).toList = (a.toList.drop ia).take k := by rw [ext_list, Nat.add_sub_cancel_left]
  refine ⟨h.pm.extA ha, ?_, ?_⟩
  · rw [Array.toList_append, ex]; exact this.2
  · rw [Array.toList_append, ex]; exact this.1
theorem PMS.extB {a b out : Array Keyed} {ia ib k : Nat} (h : PMS rk a b out ia ib) (hb : ib + k ≤ b.size) (ha : ia < a.size) (hle : ∀ i, i < k → rkA rk b (ib + i) ≤ rkA rk a ia) : PMS rk a b (out ++ b.extract ib (ib + k)) ia (ib + k) := by
  rw [rkA_eq ha] at hle
  have eb : b.toList.drop ib = (b.toList.drop ib).take k ++ b.toList.drop (ib + k) := by
    conv => lhs; rw [← List.take_append_drop k (b.toList.drop ib)]
    rw [List.drop_drop]
  have hr := h.rb
  rw [eb] at hr
  have := rsl_mid h.ra hr (fun z hz y hy => by
    obtain ⟨j, hj, e⟩ := mem_seg (rk := rk) hb hz
    have h1 := hle j hj
    have := drop_le (l := a.toList) (i := ia) (by rw [Array.length_toList]; exact ha) h.da hy
    rw [Array.getElem_toList] at this
    lia)
  have ex : (b.extract ib (ib + k)).toList = (b.toList.drop ib).take k := by rw [ext_list, Nat.add_sub_cancel_left]
  refine ⟨h.pm.extB hb, ?_, ?_⟩
  · rw [Array.toList_append, ex]; exact this.1
  · rw [Array.toList_append, ex]; exact this.2
structure Fine (rk : Value → Nat) (a b r : Array Keyed) : Prop where
  perm : r.toList.Perm (a.toList ++ b.toList)
  up : RSl rk r.toList
theorem ext_all {a : Array Keyed} {i : Nat} : (a.extract i a.size).toList = a.toList.drop i := by
  rw [ext_list]
  apply List.take_of_length_le
  rw [List.length_drop, Array.length_toList]
  exact Nat.le_refl _
theorem drop_end {a : Array Keyed} {i : Nat} (h : i = a.size) : a.toList.drop i = [] := by
  apply List.drop_of_length_le
  rw [Array.length_toList]
  lia
theorem PMS.done {a b out : Array Keyed} {ia ib : Nat} (h : PMS rk a b out ia ib) (e : ia = a.size ∨ ib = b.size) : Fine rk a b (out ++ a.extract ia a.size ++ b.extract ib b.size) := by
  refine ⟨h.pm.done, ?_⟩
  rw [Array.toList_append, Array.toList_append, ext_all, ext_all]
  rcases e with e | e
  · rw [drop_end e, List.append_nil]
    exact h.rb
  · rw [drop_end e, List.append_nil]
    exact h.ra
theorem PMS.last {a b out : Array Keyed} {ia ib : Nat} (h : PMS rk a b out ia ib) (e : ia + 1 = a.size) (hl : ∀ y ∈ b, rk y.1 ≤ rkA rk a (a.size - 1)) : Fine rk a b (out ++ b.extract ib b.size ++ a.extract ia a.size) := by
  refine ⟨h.pm.last, ?_⟩
  rw [Array.toList_append, Array.toList_append, ext_all, ext_all]
  refine (rsl_mid h.ra (Z1 := b.toList.drop ib) (Z2 := []) (by rw [List.append_nil]; exact h.rb) (fun z hz y hy => ?_)).1
  have h1 := hl z (Array.mem_toList_iff.mp (List.mem_of_mem_drop hz))
  have ea : a.toList.drop ia = [a[ia]'(by lia)] := by
    rw [List.drop_eq_getElem_cons (by rw [Array.length_toList]; lia), List.drop_of_length_le (by rw [Array.length_toList]; lia)]
    simp
  rw [ea] at hy
  rw [List.mem_singleton.mp hy]
  rw [rkA_eq (show a.size - 1 < a.size by lia)] at h1
  have e2 : a.size - 1 = ia := by lia
  simp only [e2] at h1
  exact h1
theorem PMS.init {a b : Array Keyed} (ha : 0 < a.size) (hb : 0 < b.size) (ra : RSl rk a.toList) (rb : RSl rk b.toList) (h0 : rkA rk b 0 ≤ rkA rk a 0) : PMS rk a b #[b[0]] 0 1 := by
  have p0 : PMS rk a b #[] 0 0 := ⟨⟨by simp, Nat.zero_le _, Nat.zero_le _⟩, by simpa using ra, by simpa using rb⟩
  exact p0.pushB hb ha h0
theorem UpR.sub {a : Array Keyed} {s n s' n' : Nat} (h : UpR rk a s n) (h1 : s ≤ s') (h2 : s' + n' ≤ s + n) : UpR rk a s' n' := fun i j x y z => h i j (by lia) y (by lia)
theorem RSl.up {a : Array Keyed} (h : RSl rk a.toList) : UpR rk a 0 a.size := UpR.of (by lia) (by
  rw [List.drop_zero, ← Array.length_toList, List.take_length]
  exact h)
theorem ext_rkA {a : Array Keyed} {i j n : Nat} (h : i + j < n) (hn : n ≤ a.size) : rkA rk (a.extract i n) j = rkA rk a (i + j) := by
  have e : (a.extract i n)[j]? = a[i + j]? := by
    rw [Array.getElem?_extract]
    rw [if_pos (by lia)]
  exact rkA_congr e
theorem merged_up {arr arr3 merged : Array Keyed} {sa na sb nb k nb2 : Nat} (hsb : sb = sa + na) (hz : sb + nb ≤ arr.size) (hk : k < na) (hb0 : 0 < nb2) (hb2 : nb2 ≤ nb) (uA : UpR rk arr sa na) (uB : UpR rk arr sb nb)
    (hy : ∀ i, i < k → rkA rk arr (sa + i) ≤ rkA rk arr sb) (hn2 : ∀ i, nb2 ≤ i → i < nb → rkA rk arr (sa + na - 1) ≤ rkA rk arr (sb + i))
    (e : arr3.toList = arr.toList.take (sa + k) ++ merged.toList ++ arr.toList.drop (sa + k + merged.toList.length)) (F : Fine rk (arr.extract (sa + k) sb) (arr.extract sb (sb + nb2)) merged) :
    UpR rk arr3 sa (na + nb) ∧ ∀ i, i < sa ∨ sa + na + nb ≤ i → arr3[i]? = arr[i]? := by
  have hml : merged.toList.length = na - k + nb2 := by
    have := F.perm.length_eq
    rw [List.length_append, Array.length_toList, Array.length_toList, Array.length_toList, Array.size_extract, Array.size_extract] at this
    rw [Array.length_toList]
    lia
  have hl3 : arr3.size = arr.size := by
    have := congrArg List.length e
    rw [List.length_append, List.length_append, List.length_take, List.length_drop, hml, Array.length_toList, Array.length_toList] at this
    lia
  have mem : ∀ z ∈ merged.toList, (∃ j, k ≤ j ∧ j < na ∧ rk z.1 = rkA rk arr (sa + j)) ∨ (∃ j, j < nb2 ∧ rk z.1 = rkA rk arr (sb + j)) := fun z hz' => by
    rcases List.mem_append.mp (F.perm.mem_iff.mp hz') with h | h
    · rw [ext_list] at h
      obtain ⟨j, hj, ej⟩ := mem_seg (rk := rk) (show sa + k + (sb - (sa + k)) ≤ arr.size by lia) h
      exact .inl ⟨k + j, by lia, by lia, by rw [ej, Nat.add_assoc]⟩
    · rw [ext_list] at h
      obtain ⟨j, hj, ej⟩ := mem_seg (rk := rk) (show sb + (sb + nb2 - sb) ≤ arr.size by lia) h
      exact .inr ⟨j, by lia, ej⟩
  refine ⟨UpR.of (by lia) ?_, fun i hi => ?_⟩
  · have es : (arr3.toList.drop sa).take (na + nb) = (arr.toList.drop sa).take k ++ merged.toList ++ (arr.toList.drop (sb + nb2)).take (nb - nb2) := by
      rw [e, List.append_assoc, List.drop_append_of_le_length (by rw [List.length_take, Array.length_toList]; lia)]
      have e1 : (arr.toList.take (sa + k)).drop sa = (arr.toList.drop sa).take k := by
        rw [List.drop_take]
        congr 1
        lia
      have l1 : ((arr.toList.drop sa).take k).length = k := by
        rw [List.length_take, List.length_drop, Array.length_toList]
        lia
      rw [e1, List.take_append, l1, List.take_append, List.take_of_length_le (show ((arr.toList.drop sa).take k).length ≤ na + nb by lia), List.take_of_length_le (show merged.toList.length ≤ na + nb - k by lia), List.append_assoc, hml, show sa + k + (na - k + nb2) = sb + nb2 by lia, show na + nb - k - (na - k + nb2) = nb - nb2 by lia]
    rw [es]
    unfold RSl
    rw [List.append_assoc, List.pairwise_append]
    refine ⟨(uA.sub (s' := sa) (n' := k) (by lia) (by lia)).rsl, ?_, fun x hx z hz' => ?_⟩
    · rw [List.pairwise_append]
      refine ⟨F.up, (uB.sub (s' := sb + nb2) (n' := nb - nb2) (by lia) (by lia)).rsl, fun z hz' y hy' => ?_⟩
      obtain ⟨j, hj, ej⟩ := mem_seg (rk := rk) (show sb + nb2 + (nb - nb2) ≤ arr.size by lia) hy'
      rw [ej, Nat.add_assoc]
      rcases mem z hz' with ⟨i, h1, h2, h3⟩ | ⟨i, h1, h3⟩
      · have := hn2 (nb2 + j) (by lia) (by lia)
        have h5 := uA (sa + i) (sa + na - 1) (by lia) (by lia) (by lia)
        lia
      · have h5 := uB (sb + i) (sb + (nb2 + j)) (by lia) (by lia) (by lia)
        lia
    · obtain ⟨j, hj, ej⟩ := mem_seg (rk := rk) (show sa + k ≤ arr.size by lia) hx
      rw [ej]
      have h0 := hy j hj
      rcases List.mem_append.mp hz' with hz' | hz'
      · rcases mem z hz' with ⟨i, h1, h2, h3⟩ | ⟨i, h1, h3⟩
        · have h5 := uA (sa + j) (sa + i) (by lia) (by lia) (by lia)
          lia
        · have h5 := uB sb (sb + i) (by lia) (by lia) (by lia)
          lia
      · obtain ⟨i, hi, ei⟩ := mem_seg (rk := rk) (show sb + nb2 + (nb - nb2) ≤ arr.size by lia) hz'
        have h5 := uB sb (sb + nb2 + i) (by lia) (by lia) (by lia)
        lia
  · have g : ∀ (x : Array Keyed) (i : Nat), x[i]? = x.toList[i]? := fun x i => by rw [Array.getElem?_toList]
    rw [g, g, e]
    have lt : (arr.toList.take (sa + k)).length = sa + k := by
      rw [List.length_take, Array.length_toList]
      lia
    rcases hi with hi | hi
    · rw [List.append_assoc, List.getElem?_append_left (by lia), List.getElem?_take_of_lt (by lia)]
    · rw [List.getElem?_append_right (by rw [List.length_append]; lia), List.length_append, lt, hml, List.getElem?_drop]
      congr 1
      lia
end
end RS


end
section
set_option Elab.async false
set_option linter.all false
set_option maxRecDepth 100000
set_option maxHeartbeats 4000000
namespace RS
open PySem PyProof.Rows
section
variable {rk : Value → Nat}
theorem rsl_mid2 {X Y Z1 Z2 : List Keyed} (hY : RSl rk (Y ++ X)) (hZ : RSl rk ((Z2 ++ Z1) ++ X)) (h : ∀ y ∈ Y, ∀ z ∈ Z1, rk y.1 ≤ rk z.1) : RSl rk (Y ++ (Z1 ++ X)) ∧ RSl rk (Z2 ++ (Z1 ++ X)) := by
  unfold RSl at *
  rw [List.append_assoc] at hZ
  refine ⟨?_, hZ⟩
  rw [List.pairwise_append] at hY hZ ⊢
  refine ⟨hY.1, hZ.2.1, fun x hx y hy => ?_⟩
  rcases List.mem_append.mp hy with hy | hy
  · exact h x hx y hy
  · exact hY.2.2 x hx y hy
theorem take_le {a : Array Keyed} {n : Nat} (h1 : 1 ≤ n) (hn : n ≤ a.size) (h : RSl rk (a.toList.take n)) {y : Keyed} (hy : y ∈ a.toList.take n) : rk y.1 ≤ rk (a[n - 1]'(by lia)).1 := by
  have e : a.toList.take n = a.toList.take (n - 1) ++ [a[n - 1]'(by lia)] := by
    have := take_snoc (l := a.toList) (i := n - 1) (by rw [Array.length_toList]; lia)
    rw [show n - 1 + 1 = n by lia] at this
    rw [this]
    simp
  rw [e] at h hy
  rcases List.mem_append.mp hy with hy | hy
  · exact (List.pairwise_append.mp h).2.2 y hy _ (List.mem_singleton.mpr rfl)
  · rw [List.mem_singleton.mp hy]
    exact Nat.le_refl _
structure PHS (rk : Value → Nat) (a b out : Array Keyed) (na nb : Nat) : Prop where
  ph : PH a b out na nb
  ra : RSl rk (a.toList.take na ++ out.toList.reverse)
  rb : RSl rk (b.toList.take nb ++ out.toList.reverse)
theorem PHS.da {a b out : Array Keyed} {na nb : Nat} (h : PHS rk a b out na nb) : RSl rk (a.toList.take na) := (List.pairwise_append.mp h.ra).1
theorem PHS.db {a b out : Array Keyed} {na nb : Nat} (h : PHS rk a b out na nb) : RSl rk (b.toList.take nb) := (List.pairwise_append.mp h.rb).1
theorem take_last {a : Array Keyed} {n : Nat} (h1 : 1 ≤ n) (hn : n ≤ a.size) : a.toList.take n = a.toList.take (n - 1) ++ [a[n - 1]'(by lia)] := by
  have := take_snoc (l := a.toList) (i := n - 1) (by rw [Array.length_toList]; lia)
  rw [show n - 1 + 1 = n by lia] at this
  rw [this]
  simp
theorem PHS.pushA {a b out : Array Keyed} {na nb : Nat} (h : PHS rk a b out na nb) (h1 : 1 ≤ na) (hb : 1 ≤ nb) (hle : rkA rk b (nb - 1) ≤ rkA rk a (na - 1)) : PHS rk a b (out.push (a[na - 1]'(by have := h.ph.2.1; lia))) (na - 1) nb := by
  have l1 := h.ph.2.1
  have l2 := h.ph.2.2
  have hr := h.ra
  rw [take_last h1 l1] at hr
  rw [rkA_eq (show nb - 1 < b.size by lia), rkA_eq (show na - 1 < a.size by lia)] at hle
  have := rsl_mid2 h.rb hr (fun y hy z hz => by
    rw [List.mem_singleton.mp hz]
    exact Nat.le_trans (take_le hb l2 h.db hy) hle)
  refine ⟨h.ph.pushA h1, ?_, ?_⟩
  · rw [Array.toList_push, List.reverse_append]; exact this.2
  · rw [Array.toList_push, List.reverse_append]; exact this.1
theorem PHS.pushB {a b out : Array Keyed} {na nb : Nat} (h : PHS rk a b out na nb) (h1 : 1 ≤ nb) (ha : 1 ≤ na) (hle : rkA rk a (na - 1) ≤ rkA rk b (nb - 1)) : PHS rk a b (out.push (b[nb - 1]'(by have := h.ph.2.2; lia))) na (nb - 1) := by
  have l1 := h.ph.2.1
  have l2 := h.ph.2.2
  have hr := h.rb
  rw [take_last h1 l2] at hr
  rw [rkA_eq (show nb - 1 < b.size by lia), rkA_eq (show na - 1 < a.size by lia)] at hle
  have := rsl_mid2 h.ra hr (fun y hy z hz => by
    rw [List.mem_singleton.mp hz]
    exact Nat.le_trans (take_le ha l1 h.da hy) hle)
  refine ⟨h.ph.pushB h1, ?_, ?_⟩
  · rw [Array.toList_push, List.reverse_append]; exact this.1
  · rw [Array.toList_push, List.reverse_append]; exact this.2
theorem PHS.extA {a b out : Array Keyed} {na nb k : Nat} (h : PHS rk a b out na nb) (hk : k ≤ na) (hb : 1 ≤ nb) (hle : ∀ i, k ≤ i → i < na → rkA rk b (nb - 1) ≤ rkA rk a i) : PHS rk a b (out ++ (a.extract k na).reverse) k nb := by
  have l1 := h.ph.2.1
  have l2 := h.ph.2.2
  have ea : a.toList.take na = a.toList.take k ++ (a.toList.drop k).take (na - k) := by
    conv => lhs; rw [show na = k + (na - k) by lia]
    exact List.take_add ..
  have hr := h.ra
  rw [ea] at hr
  have := rsl_mid2 h.rb hr (fun y hy z hz => by
    obtain ⟨j, hj, e⟩ := mem_seg (rk := rk) (show k + (na - k) ≤ a.size by lia) hz
    have h1 := hle (k + j) (by lia) (by lia)
    have := take_le hb l2 h.db hy
    rw [rkA_eq (show nb - 1 < b.size by lia)] at h1
    lia)
  have ex : (out ++ (a.extract k na).reverse).toList.reverse = (a.toList.drop k).take (na - k) ++ out.toList.reverse := by
    rw [Array.toList_append, List.reverse_append, Array.toList_reverse, List.reverse_reverse, ext_list]
  refine ⟨h.ph.extA hk, ?_, ?_⟩
  · rw [ex]; exact this.2
  · rw [ex]; exact this.1
theorem PHS.extB {a b out : Array Keyed} {na nb k : Nat} (h : PHS rk a b out na nb) (hk : k ≤ nb) (ha : 1 ≤ na) (hle : ∀ i, k ≤ i → i < nb → rkA rk a (na - 1) ≤ rkA rk b i) : PHS rk a b (out ++ (b.extract k nb).reverse) na k := by
  have l1 := h.ph.2.1
  have l2 := h.ph.2.2
  have eb : b.toList.take nb = b.toList.take k ++ (b.toList.drop k).take (nb - k) := by
    conv => lhs; rw [show nb = k + (nb - k) by lia]
    exact List.take_add ..
  have hr := h.rb
  rw [eb] at hr
  have := rsl_mid2 h.ra hr (fun y hy z hz => by
    obtain ⟨j, hj, e⟩ := mem_seg (rk := rk) (show k + (nb - k) ≤ b.size by lia) hz
    have h1 := hle (k + j) (by lia) (by lia)
    have := take_le ha l1 h.da hy
    rw [rkA_eq (show na - 1 < a.size by lia)] at h1
    lia)
  have ex : (out ++ (b.extract k nb).reverse).toList.reverse = (b.toList.drop k).take (nb - k) ++ out.toList.reverse := by
    rw [Array.toList_append, List.reverse_append, Array.toList_reverse, List.reverse_reverse, ext_list]
  refine ⟨h.ph.extB hk, ?_, ?_⟩
  · rw [ex]; exact this.1
  · rw [ex]; exact this.2
theorem ext_take {a : Array Keyed} {n : Nat} : (a.extract 0 n).toList = a.toList.take n := by
  rw [ext_list]
  simp
theorem PHS.done {a b out : Array Keyed} {na nb : Nat} (h : PHS rk a b out na nb) (e : na = 0 ∨ nb = 0) : Fine rk a b (a.extract 0 na ++ b.extract 0 nb ++ out.reverse) := by
  refine ⟨h.ph.done, ?_⟩
  rw [Array.toList_append, Array.toList_append, ext_take, ext_take, Array.toList_reverse]
  rcases e with rfl | rfl
  · rw [List.take_zero, List.nil_append]
    exact h.rb
  · rw [List.take_zero, List.append_nil]
    exact h.ra
theorem PHS.first {a b out : Array Keyed} {na nb : Nat} (h : PHS rk a b out na nb) (e : nb = 1) (hl : ∀ y ∈ a, rkA rk b 0 ≤ rk y.1) : Fine rk a b (b.extract 0 nb ++ a.extract 0 na ++ out.reverse) := by
  refine ⟨h.ph.first, ?_⟩
  have l2 := h.ph.2.2
  rw [Array.toList_append, Array.toList_append, ext_take, ext_take, Array.toList_reverse, List.append_assoc]
  have hra := h.ra
  refine (rsl_mid2 h.rb (Z1 := a.toList.take na) (Z2 := []) (by rw [List.nil_append]; exact hra) (fun y hy z hz => ?_)).1
  have h1 := hl z (Array.mem_toList_iff.mp (List.mem_of_mem_take hz))
  have := take_le (show 1 ≤ nb by lia) l2 h.db hy
  rw [rkA_eq (show 0 < b.size by lia)] at h1
  subst e
  exact Nat.le_trans this h1
theorem PHS.init {a b : Array Keyed} (ha : 0 < a.size) (hb : 0 < b.size) (ra : RSl rk a.toList) (rb : RSl rk b.toList) (h0 : rkA rk b (b.size - 1) ≤ rkA rk a (a.size - 1)) : PHS rk a b #[a[a.size - 1]] (a.size - 1) b.size := by
  have p0 : PHS rk a b #[] a.size b.size := ⟨⟨by simp, Nat.le_refl _, Nat.le_refl _⟩, by rw [← Array.length_toList, List.take_length]; simpa using ra, by rw [← Array.length_toList, List.take_length]; simpa using rb⟩
  exact p0.pushA ha hb h0
end
end RS


end
section
set_option Elab.async false
set_option linter.all false
set_option maxRecDepth 100000
set_option maxHeartbeats 4000000
namespace RS
open PySem PyProof.Rows
section
variable {M : Model} {A : Around} {E : Value → Shared → Prop} {s : Shared} {rk : Value → Nat}
noncomputable def AskR (M : Model) (A : Around) (s : Shared) (κ : SortKind) (rk : Value → Nat) (ok : Value → Prop) : Prop := ∀ x y, ok x → ok y → ∀ (R : Bool → Shared → Prop) (E : Value → Shared → Prop), R (decide (rk x < rk y)) s → wpAny M A (keyLt' κ x y) R E s
theorem lt_rk {κ : SortKind} {ok : Value → Prop} {x y : Array Keyed} {i j : Nat} {hi : i < x.size} {hj : j < y.size} {Q : Option Bool → SortSt → Prop} {st : SortSt} (h : AskR M A s κ rk ok) (hk : kindOf st = κ) (hx : ok (x[i]).1) (hy : ok (y[j]).1) (q : ∀ c, c = decide (rkA rk x i < rkA rk y j) → Q (some c) st) : wpS M A E s (lt' x[i] y[j]) Q st := by
  rw [lt'_eq]
  refine wpS_bind (wpS_get (wpS_bind (wpS_lift ?_)))
  rw [hk]
  exact wpAny_attempt (h (x[i]).1 (y[j]).1 hx hy _ _ ⟨rfl, wpS_pure (q _ (by rw [rkA_eq hi, rkA_eq hj]))⟩)
noncomputable def GalR (M : Model) (A : Around) (E : Value → Shared → Prop) (s : Shared) (κ : SortKind) (rk : Value → Nat) (ok : Value → Prop) (g : Bool → Keyed → Array Keyed → Nat → Nat → Nat → StateT SortSt Sem (Option Nat)) : Prop :=
  ∀ (left : Bool) (y : Array Keyed) (j : Nat) (hj : j < y.size) (arr : Array Keyed) (b n hint : Nat) (Q : Option Nat → SortSt → Prop) (st : SortSt), kindOf st = κ → ok (y[j]).1 → Oks ok arr → b + n ≤ arr.size → hint < n → UpR rk arr b n →
    (∀ k, k ≤ n → (∀ i, i < k → rkA rk arr (b + i) ≤ rkA rk y j) → (∀ i, k ≤ i → i < n → rkA rk y j ≤ rkA rk arr (b + i)) → Q (some k) st) → wpS M A E s (g left y[j] arr b n hint) Q st
theorem start_gal {κ : SortKind} {ok : Value → Prop} {g : Bool → Keyed → Array Keyed → Nat → Nat → Nat → StateT SortSt Sem (Option Nat)} {left : Bool} {key : Keyed} {arr : Array Keyed} {b n hint : Nat} {Q : Option Nat → SortSt → Prop} {st : SortSt}
    (H : GalR M A E s κ rk ok g) (hs : GalR M A E s κ rk ok g → wpS M A E s (g left key arr b n hint) Q st) : wpS M A E s (g left key arr b n hint) Q st := hs H
noncomputable def MergeR (M : Model) (A : Around) (E : Value → Shared → Prop) (s : Shared) (κ : SortKind) (rk : Value → Nat) (ok : Value → Prop) (g : Array Keyed → Array Keyed → StateT SortSt Sem (Array Keyed)) : Prop :=
  ∀ (a b : Array Keyed) (Q : Array Keyed → SortSt → Prop) (st : SortSt), kindOf st = κ → Oks ok a → Oks ok b → 0 < a.size → 0 < b.size → RSl rk a.toList → RSl rk b.toList → rkA rk b 0 ≤ rkA rk a 0 → (∀ y ∈ b, rk y.1 ≤ rkA rk a (a.size - 1)) → (∀ r st', SameG st st' → Fine rk a b r → Q r st') → wpS M A E s (g a b) Q st
theorem use_merR {κ : SortKind} {ok : Value → Prop} {g : Array Keyed → Array Keyed → StateT SortSt Sem (Array Keyed)} {a b : Array Keyed} {Q : Array Keyed → SortSt → Prop} {st : SortSt} (H : MergeR M A E s κ rk ok g) (h1 : kindOf st = κ) (h2 : Oks ok a) (h3 : Oks ok b) (h4 : 0 < a.size) (h5 : 0 < b.size) (h6 : RSl rk a.toList) (h7 : RSl rk b.toList) (h8 : rkA rk b 0 ≤ rkA rk a 0) (h9 : ∀ y ∈ b, rk y.1 ≤ rkA rk a (a.size - 1)) (q : ∀ r st', SameG st st' → Fine rk a b r → Q r st') : wpS M A E s (g a b) Q st := H a b Q st h1 h2 h3 h4 h5 h6 h7 h8 h9 q
noncomputable def galT (rk : Value → Nat) (left : Bool) (y : Array Keyed) (j : Nat) (arr : Array Keyed) (b : Nat) (i : Nat) : Bool := if left = true then decide (rkA rk arr (b + i) < rkA rk y j) else !decide (rkA rk y j < rkA rk arr (b + i))
theorem galT_mono {left : Bool} {y arr : Array Keyed} {j b n : Nat} (h : UpR rk arr b n) : MonoT (galT rk left y j arr b) n := fun i k h1 h2 h3 => by
  have := h (b + i) (b + k) (by lia) (by lia) (by lia)
  unfold galT at *
  cases left with
  | true =>
    rw [if_pos rfl] at *
    have := of_decide_eq_true h3
    exact decide_eq_true (by lia)
  | false =>
    rw [if_neg (by decide)] at *
    simp at *
    lia
theorem galT_cut {left : Bool} {y arr : Array Keyed} {j b n k : Nat} (h : Cut (galT rk left y j arr b) n k) : (∀ i, i < k → rkA rk arr (b + i) ≤ rkA rk y j) ∧ (∀ i, k ≤ i → i < n → rkA rk y j ≤ rkA rk arr (b + i)) := by
  refine ⟨fun i hi => ?_, fun i h1 h2 => ?_⟩
  · have h3 := h.yes i hi
    unfold galT at h3
    cases left with
    | true =>
      rw [if_pos rfl] at h3
      have := of_decide_eq_true h3
      lia
    | false =>
      rw [if_neg (by decide)] at h3
      simp at h3
      lia
  · have h3 := h.no i h1 h2
    unfold galT at h3
    cases left with
    | true =>
      rw [if_pos rfl] at h3
      have := of_decide_eq_false h3
      lia
    | false =>
      rw [if_neg (by decide)] at h3
      simp at h3
      lia
theorem ite_once2 {β : Type} {c : Prop} [Decidable c] {X Y : StateT SortSt Sem β} {Q : β → SortSt → Prop} {st : SortSt} {P : Prop} (h1 : c → P → wpS M A E s X Q st) (h2 : ¬ c → P → wpS M A E s Y Q st) (h : P) : wpS M A E s (if c then X else Y) Q st := by
  by_cases z : c
  · rw [if_pos z]; exact h1 z h
  · rw [if_neg z]; exact h2 z h
theorem ite_once {β : Type} {c : Prop} [Decidable c] {X Y : StateT SortSt Sem β} {Q : β → SortSt → Prop} {st : SortSt} {P : Prop} (h1 : P → wpS M A E s X Q st) (h2 : P → wpS M A E s Y Q st) (h : P) : wpS M A E s (if c then X else Y) Q st := by
  by_cases z : c
  · rw [if_pos z]; exact h1 h
  · rw [if_neg z]; exact h2 h
theorem up_cat {arr : Array Keyed} {sa na sb nb : Nat} (hsb : sb = sa + na) (uA : UpR rk arr sa na) (uB : UpR rk arr sb nb) (h : rkA rk arr (sa + na - 1) ≤ rkA rk arr sb) : UpR rk arr sa (na + nb) := fun i j h1 h2 h3 => by
  by_cases c1 : j < sa + na
  · exact uA i j h1 h2 c1
  by_cases c2 : sb ≤ i
  · exact uB i j c2 h2 (by lia)
  have x1 := uA i (sa + na - 1) h1 (by lia) (by lia)
  have x2 := uB sb j (by lia) (by lia) (by lia)
  lia
theorem merge_atR {κ : SortKind} {ok : Value → Prop} (h : AskR M A s κ rk ok) {i sa na pa sb nb pb : Nat} {st : SortSt} {Q : Bool → SortSt → Prop} (hk : kindOf st = κ) (hf : failedOf st = none) (hO : Oks ok (arrOf st)) (h1 : (pendingOf st)[i]? = some (sa, na, pa)) (h2 : (pendingOf st)[i + 1]? = some (sb, nb, pb))
    (hsa : sb = sa + na) (hna : 0 < na) (hnb : 0 < nb) (hsz : sb + nb ≤ (arrOf st).size) (uA : UpR rk (arrOf st) sa na) (uB : UpR rk (arrOf st) sb nb)
    (q : ∀ st', kindOf st' = κ → failedOf st' = none → (arrOf st').toList.Perm (arrOf st).toList → pendingOf st' = ((pendingOf st).setIfInBounds i (sa, na + nb, pa)).eraseIdxIfInBounds (i + 1) → UpR rk (arrOf st') sa (na + nb) → (∀ i, i < sa ∨ sa + na + nb ≤ i → (arrOf st')[i]? = (arrOf st)[i]?) → Q true st') : wpS M A E s (mergeAt' i) Q st := by
  refine wpS_bind (wpS_get ?_)
  have h1' := h1
  have h2' := h2
  unfold pendingOf at h1' h2'
  rw [h1', h2']
  refine wpS_bind (wpS_modify (f := fun _ => _) ?_)
  refine wpS_bind (elem_at (arr := arrOf st) (i := sb) (by lia) ?_)
  have ho : ∀ {i : Nat} (hi : i < (arrOf st).size), ok ((arrOf st)[i]).1 := fun hi => hO _ (Array.getElem_mem _)
  refine wpS_bind ?_
  refine start_gal (κ := κ) (rk := rk) (ok := ok) ?_ (fun G => ?_)
  · intro left y j hj arr b n hint Q st0 hk hkey harr hb hh hU q
    obtain ⟨T, eT⟩ : ∃ T, T = galT rk left y j arr b := ⟨_, rfl⟩
    have mono : MonoT T n := by rw [eT]; exact galT_mono hU
    have q' : ∀ k, Cut T n k → Q (some k) st0 := fun k hc => by
      rw [eT] at hc
      exact q k hc.le (galT_cut hc).1 (galT_cut hc).2
    have byd : ∀ (m : Nat), m < n → ∀ (R : Option Bool → SortSt → Prop), (∀ c, c = T m → R (some c) st0) → wpS M A E s (do
        let x ← elem' arr (b + m)
        if left = true then lt' x y[j] else do
          let c ← lt' y[j] x
          pure (Option.map (fun x => !x) c)) R st0 := fun m hm R hR => by
      rw [eT] at hR
      refine wpS_bind (elem_at (i := b + m) (by lia) ?_)
      have hx : ok (arr[b + m]'(by lia)).1 := harr _ (Array.getElem_mem _)
      cases left with
      | true => exact lt_rk h hk hx hkey fun c hc => hR c (by rw [hc]; rfl)
      | false => exact wpS_bind (lt_rk h hk hkey hx fun c hc => wpS_pure (hR _ (by rw [hc]; rfl)))
    refine wpS_bind (byd hint hh _ fun right hr0 => ?_)
    cases right with
    | true =>
      refine wpS_bind (wpS_forRange (fun x c st' => st' = st0 ∧ c.1 = none ∧ ExpR T n hint x c.2.1 c.2.2) ?_ ?_ ⟨rfl, rfl, ExpR.start hh hr0⟩)
      · rintro i ⟨r, lastofs, ofs⟩ st' _ _ ⟨h0, hr, hE⟩
        have h0 : st0 = st' := h0.symm
        subst h0
        replace hr : r = none := hr
        subst hr
        replace hE : ExpR T n hint i lastofs ofs := hE
        by_cases hc : ofs ≥ n - hint
        · rw [if_pos hc]
          refine wpS_pure ?_
          refine wpS_bind (wpS_forRange (fun x c st' => st' = st0 ∧ c.1 = none ∧ BinI T n x c.2.1 c.2.2) ?_ ?_ ⟨rfl, rfl, ExpR.stop (T := T) hE mono hc⟩)
          · rintro i ⟨r, lo, hi⟩ st' _ _ ⟨h0, hr, hB⟩
            have h0 : st0 = st' := h0.symm
            subst h0
            replace hr : r = none := hr
            replace hB : BinI T n i lo hi := hB
            have hhi := hB.hn
            subst hr
            by_cases hc : lo ≥ hi
            · rw [if_pos hc]
              exact wpS_pure (wpS_pure (q' hi (hB.stop hc)))
            · rw [if_neg hc]
              refine wpS_bind (byd (lo + (hi - lo) / 2) (by lia) _ fun c hT => ?_)
              cases c with
              | true => exact wpS_pure ⟨rfl, rfl, hB.right mono hc hT⟩
              | false => exact wpS_pure ⟨rfl, rfl, hB.left mono hc hT⟩
          · rintro ⟨r, lo, hi⟩ st' ⟨h0, hr, hB⟩
            have h0 : st0 = st' := h0.symm
            subst h0
            replace hr : r = none := hr
            subst hr
            exact wpS_pure (q' hi (BinI.fin hB))
        · rw [if_neg hc]
          refine wpS_bind (byd (hint + ofs) (by lia) _ fun c hT => ?_)
          cases c with
          | true => exact wpS_pure ⟨rfl, rfl, ExpR.step hE hc hT⟩
          | false =>
            refine wpS_pure ?_
            refine wpS_bind (wpS_forRange (fun x c st' => st' = st0 ∧ c.1 = none ∧ BinI T n x c.2.1 c.2.2) ?_ ?_ ⟨rfl, rfl, ExpR.found (T := T) hE mono hc hT⟩)
            · rintro i ⟨r, lo, hi⟩ st' _ _ ⟨h0, hr, hB⟩
              have h0 : st0 = st' := h0.symm
              subst h0
              replace hr : r = none := hr
              replace hB : BinI T n i lo hi := hB
              have hhi := hB.hn
              subst hr
              by_cases hc : lo ≥ hi
              · rw [if_pos hc]
                exact wpS_pure (wpS_pure (q' hi (hB.stop hc)))
              · rw [if_neg hc]
                refine wpS_bind (byd (lo + (hi - lo) / 2) (by lia) _ fun c hT => ?_)
                cases c with
                | true => exact wpS_pure ⟨rfl, rfl, hB.right mono hc hT⟩
                | false => exact wpS_pure ⟨rfl, rfl, hB.left mono hc hT⟩
            · rintro ⟨r, lo, hi⟩ st' ⟨h0, hr, hB⟩
              have h0 : st0 = st' := h0.symm
              subst h0
              replace hr : r = none := hr
              subst hr
              exact wpS_pure (q' hi (BinI.fin hB))
      · rintro ⟨r, lastofs, ofs⟩ st' ⟨h0, hr, hE⟩
        have h0 : st0 = st' := h0.symm
        subst h0
        replace hr : r = none := hr
        subst hr
        replace hE : ExpR T n hint (max 0 n) lastofs ofs := hE
        refine wpS_bind (wpS_forRange (fun x c st' => st' = st0 ∧ c.1 = none ∧ BinI T n x c.2.1 c.2.2) ?_ ?_ ⟨rfl, rfl, ExpR.fin (T := T) hE mono⟩)
        · rintro i ⟨r, lo, hi⟩ st' _ _ ⟨h0, hr, hB⟩
          have h0 : st0 = st' := h0.symm
          subst h0
          replace hr : r = none := hr
          replace hB : BinI T n i lo hi := hB
          have hhi := hB.hn
          subst hr
          by_cases hc : lo ≥ hi
          · rw [if_pos hc]
            exact wpS_pure (wpS_pure (q' hi (hB.stop hc)))
          · rw [if_neg hc]
            refine wpS_bind (byd (lo + (hi - lo) / 2) (by lia) _ fun c hT => ?_)
            cases c with
            | true => exact wpS_pure ⟨rfl, rfl, hB.right mono hc hT⟩
            | false => exact wpS_pure ⟨rfl, rfl, hB.left mono hc hT⟩
        · rintro ⟨r, lo, hi⟩ st' ⟨h0, hr, hB⟩
          have h0 : st0 = st' := h0.symm
          subst h0
          replace hr : r = none := hr
          subst hr
          exact wpS_pure (q' hi (BinI.fin hB))
    | false =>
      refine wpS_bind (wpS_forRange (fun x c st' => st' = st0 ∧ c.1 = none ∧ ExpL T n hint x c.2.1 c.2.2) ?_ ?_ ⟨rfl, rfl, ExpL.start hr0⟩)
      · rintro i ⟨r, lastofs, ofs⟩ st' _ _ ⟨h0, hr, hE⟩
        have h0 : st0 = st' := h0.symm
        subst h0
        replace hr : r = none := hr
        subst hr
        replace hE : ExpL T n hint i lastofs ofs := hE
        by_cases hc : ofs ≥ hint + 1
        · rw [if_pos hc]
          refine wpS_pure ?_
          refine wpS_bind (wpS_forRange (fun x c st' => st' = st0 ∧ c.1 = none ∧ BinI T n x c.2.1 c.2.2) ?_ ?_ ⟨rfl, rfl, ExpL.stop (T := T) hE mono hh hc⟩)
          · rintro i ⟨r, lo, hi⟩ st' _ _ ⟨h0, hr, hB⟩
            have h0 : st0 = st' := h0.symm
            subst h0
            replace hr : r = none := hr
            replace hB : BinI T n i lo hi := hB
            have hhi := hB.hn
            subst hr
            by_cases hc : lo ≥ hi
            · rw [if_pos hc]
              exact wpS_pure (wpS_pure (q' hi (hB.stop hc)))
            · rw [if_neg hc]
              refine wpS_bind (byd (lo + (hi - lo) / 2) (by lia) _ fun c hT => ?_)
              cases c with
              | true => exact wpS_pure ⟨rfl, rfl, hB.right mono hc hT⟩
              | false => exact wpS_pure ⟨rfl, rfl, hB.left mono hc hT⟩
          · rintro ⟨r, lo, hi⟩ st' ⟨h0, hr, hB⟩
            have h0 : st0 = st' := h0.symm
            subst h0
            replace hr : r = none := hr
            subst hr
            exact wpS_pure (q' hi (BinI.fin hB))
        · rw [if_neg hc]
          refine wpS_bind (byd (hint - ofs) (by lia) _ fun c hT => ?_)
          cases c with
          | false => exact wpS_pure ⟨rfl, rfl, ExpL.step hE hc hT⟩
          | true =>
            refine wpS_pure ?_
            refine wpS_bind (wpS_forRange (fun x c st' => st' = st0 ∧ c.1 = none ∧ BinI T n x c.2.1 c.2.2) ?_ ?_ ⟨rfl, rfl, ExpL.found (T := T) hE mono hh hc hT⟩)
            · rintro i ⟨r, lo, hi⟩ st' _ _ ⟨h0, hr, hB⟩
              have h0 : st0 = st' := h0.symm
              subst h0
              replace hr : r = none := hr
              replace hB : BinI T n i lo hi := hB
              have hhi := hB.hn
              subst hr
              by_cases hc : lo ≥ hi
              · rw [if_pos hc]
                exact wpS_pure (wpS_pure (q' hi (hB.stop hc)))
              · rw [if_neg hc]
                refine wpS_bind (byd (lo + (hi - lo) / 2) (by lia) _ fun c hT => ?_)
                cases c with
                | true => exact wpS_pure ⟨rfl, rfl, hB.right mono hc hT⟩
                | false => exact wpS_pure ⟨rfl, rfl, hB.left mono hc hT⟩
            · rintro ⟨r, lo, hi⟩ st' ⟨h0, hr, hB⟩
              have h0 : st0 = st' := h0.symm
              subst h0
              replace hr : r = none := hr
              subst hr
              exact wpS_pure (q' hi (BinI.fin hB))
      · rintro ⟨r, lastofs, ofs⟩ st' ⟨h0, hr, hE⟩
        have h0 : st0 = st' := h0.symm
        subst h0
        replace hr : r = none := hr
        subst hr
        replace hE : ExpL T n hint (max 0 n) lastofs ofs := hE
        refine wpS_bind (wpS_forRange (fun x c st' => st' = st0 ∧ c.1 = none ∧ BinI T n x c.2.1 c.2.2) ?_ ?_ ⟨rfl, rfl, ExpL.fin (T := T) hE mono hh⟩)
        · rintro i ⟨r, lo, hi⟩ st' _ _ ⟨h0, hr, hB⟩
          have h0 : st0 = st' := h0.symm
          subst h0
          replace hr : r = none := hr
          replace hB : BinI T n i lo hi := hB
          have hhi := hB.hn
          subst hr
          by_cases hc : lo ≥ hi
          · rw [if_pos hc]
            exact wpS_pure (wpS_pure (q' hi (hB.stop hc)))
          · rw [if_neg hc]
            refine wpS_bind (byd (lo + (hi - lo) / 2) (by lia) _ fun c hT => ?_)
            cases c with
            | true => exact wpS_pure ⟨rfl, rfl, hB.right mono hc hT⟩
            | false => exact wpS_pure ⟨rfl, rfl, hB.left mono hc hT⟩
        · rintro ⟨r, lo, hi⟩ st' ⟨h0, hr, hB⟩
          have h0 : st0 = st' := h0.symm
          subst h0
          replace hr : r = none := hr
          subst hr
          exact wpS_pure (q' hi (BinI.fin hB))
  refine G _ _ _ _ _ _ _ _ _ _ hk (ho _) hO (show sa + na ≤ (arrOf st).size by lia) hna uA fun k hkn hy hn => ?_
  show wpS M A E s (if (na - k == 0) = true then _ else _) Q _
  by_cases hz : na - k = 0
  · rw [if_pos (by simp [hz])]
    refine wpS_pure (q _ hk hf (List.Perm.refl _) rfl ?_ fun _ _ => rfl)
    refine up_cat hsa uA uB ?_
    have := hy (na - 1) (by lia)
    rwa [show sa + (na - 1) = sa + na - 1 by lia] at this
  rw [if_neg (by simpa using hz)]
  refine wpS_bind (elem_at (arr := arrOf st) (i := sa + k + (na - k) - 1) (by lia) ?_)
  refine wpS_bind (G _ _ _ _ _ _ _ _ _ _ hk (ho _) hO (show sb + nb ≤ (arrOf st).size by lia) (show nb - 1 < nb by lia) uB fun nb2 hnb2 hy2 hn2 => ?_)
  rw [show sa + k + (na - k) - 1 = sa + na - 1 by lia] at hy2 hn2
  show wpS M A E s (if (nb2 == 0) = true then _ else _) Q _
  by_cases hz2 : nb2 = 0
  · rw [if_pos (by simp [hz2])]
    refine wpS_pure (q _ hk hf (List.Perm.refl _) rfl ?_ fun _ _ => rfl)
    exact up_cat hsa uA uB (hn2 0 (by lia) hnb)
  rw [if_neg (by simpa using hz2)]
  have rX : RSl rk ((arrOf st).extract (sa + k) sb).toList := by
    rw [ext_list]
    exact (uA.sub (s' := sa + k) (n' := sb - (sa + k)) (by lia) (by lia)).rsl
  have rY : RSl rk ((arrOf st).extract sb (sb + nb2)).toList := by
    rw [ext_list]
    exact (uB.sub (s' := sb) (n' := sb + nb2 - sb) (by lia) (by lia)).rsl
  have r0 : rkA rk ((arrOf st).extract sb (sb + nb2)) 0 ≤ rkA rk ((arrOf st).extract (sa + k) sb) 0 := by
    rw [ext_rkA (by lia) (by lia), ext_rkA (by lia) (by lia)]
    exact hn k (Nat.le_refl _) (by lia)
  have rL : ∀ y ∈ (arrOf st).extract sb (sb + nb2), rk y.1 ≤ rkA rk ((arrOf st).extract (sa + k) sb) (((arrOf st).extract (sa + k) sb).size - 1) := fun y hy' => by
    have hm : y ∈ ((arrOf st).extract sb (sb + nb2)).toList := Array.mem_toList_iff.mpr hy'
    rw [ext_list] at hm
    obtain ⟨j, hj, ej⟩ := mem_seg (rk := rk) (show sb + (sb + nb2 - sb) ≤ (arrOf st).size by lia) hm
    rw [ej, Array.size_extract, ext_rkA (by lia) (by lia)]
    have := hy2 j (by lia)
    rw [show sa + k + (min sb (arrOf st).size - (sa + k) - 1) = sa + na - 1 by lia]
    exact this
  have hx : ((arrOf st).extract (sa + k) sb).size = na - k := by
    rw [Array.size_extract]
    lia
  have hyz : ((arrOf st).extract sb (sb + nb2)).size = nb2 := by
    rw [Array.size_extract]
    lia
  have oX : Oks ok ((arrOf st).extract (sa + k) sb) := fun z hz => hO z (mem_ext hz)
  have oY : Oks ok ((arrOf st).extract sb (sb + nb2)) := fun z hz => hO z (mem_ext hz)
  have back : ∀ (merged : Array Keyed) (st2 : SortSt), kindOf st2 = κ → failedOf st2 = none → arrOf st2 = arrOf st → pendingOf st2 = ((pendingOf st).setIfInBounds i (sa, na + nb, pa)).eraseIdxIfInBounds (i + 1) → Fine rk ((arrOf st).extract (sa + k) sb) ((arrOf st).extract sb (sb + nb2)) merged →
      ∀ st3, kindOf st3 = kindOf st2 → failedOf st3 = failedOf st2 → pendingOf st3 = pendingOf st2 → arrOf st3 = merged.toList.zipIdx.foldl (fun a x => match x with | (p, j) => a.setIfInBounds (sa + k + j) p) (arrOf st2) → Q true st3 := fun merged st2 e1 e2 e3 e4 hF st3 f1 f2 f3 f4 => by
    have hp := hF.perm
    have hml : merged.toList.length = na - k + nb2 := by
      have := hp.length_eq
      rw [List.length_append, Array.length_toList, Array.length_toList, Array.length_toList, hx, hyz] at this
      rw [Array.length_toList]
      exact this
    have eM : (arrOf st3).toList = (arrOf st).toList.take (sa + k) ++ merged.toList ++ (arrOf st).toList.drop (sa + k + merged.toList.length) := by
      rw [f4, e3, set_all _ _ _ 0 (by rw [hml]; lia)]
      rfl
    have mu := merged_up hsa hsz (by lia) (by lia) hnb2 uA uB hy hn2 eM hF
    refine q st3 (f1.trans e1) (f2.trans e2) ?_ (f3.trans e4) mu.1 mu.2
    rw [f4, e3, set_all _ _ _ 0 (by rw [hml]; lia)]
    have eA : (arrOf st).toList = (arrOf st).toList.take (sa + k) ++ (((arrOf st).extract (sa + k) sb).toList ++ ((arrOf st).extract sb (sb + nb2)).toList) ++ (arrOf st).toList.drop (sa + k + 0 + merged.toList.length) := by
      rw [ext_list, ext_list, hml]
      conv => lhs; rw [← List.take_append_drop (sa + k) (arrOf st).toList]
      rw [List.append_assoc]
      congr 1
      conv => lhs; rw [← List.take_append_drop (sb - (sa + k)) ((arrOf st).toList.drop (sa + k))]
      rw [List.append_assoc]
      congr 1
      rw [List.drop_drop, show sa + k + (sb - (sa + k)) = sb by lia]
      conv => lhs; rw [← List.take_append_drop (sb + nb2 - sb) ((arrOf st).toList.drop sb)]
      congr 1
      rw [List.drop_drop]
      congr 1
      lia
    conv => rhs; rw [eA]
    rw [Nat.add_zero]
    exact (hp.append_left _).append_right _
  show wpS M A E s (if na - k ≤ nb2 then _ else _) Q _
  by_cases hle : na - k ≤ nb2
  · rw [if_pos hle]
    refine wpS_bind ?_
    refine use_merR (κ := κ) (rk := rk) (ok := ok) ?_ hk oX oY (by rw [hx]; lia) (by rw [hyz]; lia) rX rY r0 rL (fun r st2 hs hp => ?_)
    · intro a b Q st1 hk1 oA oB ha hb hRa hRb h0 hlast q1
      have hUa := hRa.up
      have hUb := hRb.up
      clear q back hx hyz oX oY rX rY r0 rL hy hn hy2 hn2 hz2 hnb2 hz hkn hle
      clear ho h1' h2' h1 h2 hsa hna hnb hsz uA uB hO hf hk nb2 k
      have oa : ∀ {i : Nat} (hi : i < a.size), ok (a[i]).1 := fun hi => oA _ (Array.getElem_mem _)
      have ob : ∀ {i : Nat} (hi : i < b.size), ok (b[i]).1 := fun hi => oB _ (Array.getElem_mem _)
      refine wpS_bind (wpS_lift (wpAny_rule ⟨rfl, ?_⟩))
      refine wpS_bind (elem_at (arr := b) (i := 0) hb ?_)
      have pm1 := PMS.init ha hb hRa hRb h0
      show wpS M A E s (if (1 == b.size) = true then _ else _) Q _
      by_cases hb1 : 1 = b.size
      · rw [if_pos (by simpa using hb1)]
        exact wpS_pure (q1 _ _ (SameG.refl _) (PMS.done pm1 (.inr hb1)))
      rw [if_neg (by simpa using hb1)]
      show wpS M A E s (if (0 + 1 == a.size) = true then _ else _) Q _
      by_cases ha1 : 0 + 1 = a.size
      · rw [if_pos (by simpa using ha1)]
        exact wpS_pure (q1 _ _ (SameG.refl _) (PMS.last pm1 ha1 hlast))
      rw [if_neg (by simpa using ha1)]
      refine wpS_bind (wpS_get ?_)
      refine wpS_bind (wpS_mono (Q := fun c st' => SameG st1 st' ∧ ∃ r, c.1 = some r ∧ Fine rk a b r) (wpS_forRange (fun i c st' => SameG st1 st' ∧ c.1 = none ∧ PMS rk a b c.2.1 c.2.2.1 c.2.2.2.1 ∧ c.2.2.1 + 1 < a.size ∧ c.2.2.2.1 < b.size ∧ i + 1 ≤ c.2.2.1 + c.2.2.2.1) ?_ ?_ ⟨SameG.refl _, rfl, pm1, by show 0 + 1 < _; lia, by show 1 < _; lia, Nat.le_refl _⟩) ?_)
      · rintro i ⟨r0, out, ia, ib, mg⟩ st' _ _ ⟨hS, hr, pm, hia, hib, hcnt⟩
        replace hr : r0 = none := hr
        subst hr
        have hk' : kindOf st' = κ := hS.kind.trans hk1
        refine wpS_bind (wpS_mono (Q := fun c st2 => SameG st1 st2 ∧ ((∃ r, c.1 = some r ∧ Fine rk a b r) ∨ (c.1 = none ∧ PMS rk a b c.2.1 c.2.2.1 c.2.2.2.1 ∧ c.2.2.1 + 1 < a.size ∧ c.2.2.2.1 < b.size ∧ i + 2 ≤ c.2.2.1 + c.2.2.2.1))) (wpS_forRange (fun x c st2 => SameG st1 st2 ∧ c.1 = none ∧ PMS rk a b c.2.1 c.2.2.1 c.2.2.2.1 ∧ c.2.2.1 + 1 < a.size ∧ c.2.2.2.1 < b.size ∧ i + 1 + x ≤ c.2.2.1 + c.2.2.2.1) ?_ ?_ ⟨hS, rfl, pm, hia, hib, hcnt⟩) ?_)
        · rintro x ⟨r1, out, ia, ib, ac, bc⟩ st2 _ _ ⟨hS2, hr, pm, hia, hib, hcnt⟩
          replace hia : ia + 1 < a.size := hia
          replace hib : ib < b.size := hib
          replace hcnt : i + 1 + x ≤ ia + ib := hcnt
          replace pm : PMS rk a b out ia ib := pm
          have hk2 : kindOf st2 = κ := hS2.kind.trans hk1
          refine wpS_bind (elem_at (arr := b) (i := ib) hib (wpS_bind (elem_at (arr := a) (i := ia) (by lia) (wpS_bind (lt_rk h hk2 (ob _) (oa _) fun c hc => ?_)))))
          cases c with
          | true =>
            refine wpS_bind (elem_at (arr := b) (i := ib) hib ?_)
            have pm' := PMS.pushB pm hib (by lia) (by have := of_decide_eq_true hc.symm; lia)
            show wpS M A E s (if (ib + 1 == b.size) = true then _ else _) _ _
            by_cases e : ib + 1 = b.size
            · rw [if_pos (by simpa using e)]
              exact wpS_pure ⟨hS2, .inl ⟨_, rfl, PMS.done pm' (.inr e)⟩⟩
            · rw [if_neg (by simpa using e)]
              split
              · exact wpS_pure ⟨hS2, .inr ⟨rfl, pm', hia, by show ib + 1 < b.size; lia, by show i + 2 ≤ ia + (ib + 1); lia⟩⟩
              · exact wpS_pure ⟨hS2, rfl, pm', hia, by show ib + 1 < b.size; lia, by show i + 1 + (x + 1) ≤ ia + (ib + 1); lia⟩
          | false =>
            refine wpS_bind (elem_at (arr := a) (i := ia) (by lia) ?_)
            have pm' := PMS.pushA pm (show ia < a.size by lia) hib (by have := of_decide_eq_false hc.symm; lia)
            show wpS M A E s (if (ia + 1 + 1 == a.size) = true then _ else _) _ _
            by_cases e : ia + 1 + 1 = a.size
            · rw [if_pos (by simpa using e)]
              exact wpS_pure ⟨hS2, .inl ⟨_, rfl, PMS.last pm' e hlast⟩⟩
            · rw [if_neg (by simpa using e)]
              split
              · exact wpS_pure ⟨hS2, .inr ⟨rfl, pm', by show ia + 1 + 1 < a.size; lia, hib, by show i + 2 ≤ ia + 1 + ib; lia⟩⟩
              · exact wpS_pure ⟨hS2, rfl, pm', by show ia + 1 + 1 < a.size; lia, hib, by show i + 1 + (x + 1) ≤ ia + 1 + ib; lia⟩
        · rintro ⟨r1, out, ia, ib, ac, bc⟩ st2 ⟨hS2, hr, pm, hia, hib, hcnt⟩
          refine ⟨hS2, .inr ⟨hr, pm, hia, hib, ?_⟩⟩
          replace hcnt : i + 1 + max 0 (a.size + b.size) ≤ ia + ib := hcnt
          show i + 2 ≤ ia + ib
          lia
        rintro ⟨r1, out, ia, ib, ac, bc⟩ st2 ⟨hS2, hc⟩
        rcases hc with ⟨r, hr, hp⟩ | ⟨hr, pm, hia, hib, hcnt⟩
        · have hr : r1 = some r := hr
          subst hr
          exact wpS_pure ⟨hS2, r, rfl, hp⟩
        replace hr : r1 = none := hr
        subst hr
        refine wpS_bind (wpS_lift (wpAny_rule ⟨rfl, ?_⟩))
        refine wpS_bind (wpS_mono (Q := fun c st2 => SameG st1 st2 ∧ ((∃ r, c.1 = some r ∧ Fine rk a b r) ∨ (c.1 = none ∧ PMS rk a b c.2.1 c.2.2.1 c.2.2.2.1 ∧ c.2.2.1 + 1 < a.size ∧ c.2.2.2.1 < b.size ∧ i + 2 ≤ c.2.2.1 + c.2.2.2.1))) (wpS_forRange (fun x c st2 => SameG st1 st2 ∧ c.1 = none ∧ PMS rk a b c.2.1 c.2.2.1 c.2.2.2.1 ∧ c.2.2.1 + 1 < a.size ∧ c.2.2.2.1 < b.size ∧ i + 2 ≤ c.2.2.1 + c.2.2.2.1) ?_ ?_ ⟨hS2, rfl, pm, hia, hib, hcnt⟩) ?_)
        · rintro x ⟨r1, out, ia, ib, mg, ac, bc⟩ st3 _ _ ⟨hS3, hr, pm, hia, hib, hcnt⟩
          replace hia : ia + 1 < a.size := hia
          replace hib : ib < b.size := hib
          replace hcnt : i + 2 ≤ ia + ib := hcnt
          replace pm : PMS rk a b out ia ib := pm
          show wpS M A E s (if mg > 1 then _ else _) _ _
          refine ite_once (P := ?P) ?h1 ?h2 ?h3
          case h1 =>
            intro k
            dsimp only
            generalize mg - 1 = mg1
            revert mg1
            exact k
          case h2 =>
            intro k
            exact k mg
          case h3 =>
            intro mg1
            refine wpS_bind (mod_gal hS3 (fun st4 hS4 => ?_))
            have hk4 := hS4.kind.trans hk1
            refine wpS_bind (elem_at (arr := b) (i := ib) hib ?_)
            refine wpS_bind (G _ _ _ _ _ _ _ _ _ _ hk4 (ob _) oA (show ia + (a.size - ia) ≤ a.size by lia) (show 0 < a.size - ia by lia) (UpR.sub (s' := ia) (n' := a.size - ia) hUa (by lia) (by lia)) fun k hkn hy hn => ?_)
            replace hkn : k ≤ a.size - ia := hkn
            replace hn : ∀ i, k ≤ i → i < a.size - ia → _ ≤ rkA rk a (ia + i) := hn
            replace hy : ∀ i, i < k → rkA rk a (ia + i) ≤ _ := hy
            show wpS M A E s (if k > 0 then _ else _) _ _
            refine ite_once2 (P := ?PK) ?k1 ?k2 ?k3
            case k1 =>
              intro hk0
              have pmx := PMS.extA (k := k) pm (by lia) hib hy
              by_cases e1 : ia + k + 1 = a.size
              · intro _
                show wpS M A E s (if (ia + k + 1 == a.size) = true then _ else _) _ _
                rw [if_pos (by simpa using e1)]
                exact wpS_pure ⟨hS4, .inl ⟨_, rfl, PMS.last pmx e1 hlast⟩⟩
              by_cases e0 : ia + k = a.size
              · intro _
                show wpS M A E s (if (ia + k + 1 == a.size) = true then _ else _) _ _
                rw [if_neg (by simpa using e1)]
                show wpS M A E s (if (ia + k == a.size) = true then _ else _) _ _
                rw [if_pos (by simpa using e0)]
                exact wpS_pure ⟨hS4, .inl ⟨_, rfl, PMS.done pmx (.inl e0)⟩⟩
              have hlt : ia + k + 1 < a.size := by lia
              have hge : ia ≤ ia + k := Nat.le_add_right _ _
              have hle := hn k (Nat.le_refl _) (by lia)
              intro key
              show wpS M A E s (if (ia + k + 1 == a.size) = true then _ else _) _ _
              rw [if_neg (by simpa using e1)]
              show wpS M A E s (if (ia + k == a.size) = true then _ else _) _ _
              rw [if_neg (by simpa using e0)]
              generalize out ++ a.extract ia (ia + k) = out2 at pmx ⊢
              generalize ia + k = ia2 at pmx hlt hge hle ⊢
              revert pmx hlt hge hle
              revert ia2
              revert out2
              exact key
            case k2 =>
              intro hk0
              have hle := hn 0 (by lia) (by lia)
              intro key
              exact key out ia pm hia (Nat.le_refl _) hle
            case k3 =>
              clear pm hy hn
              intro out2 ia2 pmx hlt hge hle
              refine wpS_bind (elem_at (arr := b) (i := ib) hib ?_)
              have pmy := PMS.pushB pmx hib (by lia) hle
              show wpS M A E s (if (ib + 1 == b.size) = true then _ else _) _ _
              by_cases e2 : ib + 1 = b.size
              · rw [if_pos (by simpa using e2)]
                exact wpS_pure ⟨hS4, .inl ⟨_, rfl, PMS.done pmy (.inr e2)⟩⟩
              rw [if_neg (by simpa using e2)]
              refine wpS_bind (elem_at (arr := a) (i := ia2) (by lia) ?_)
              refine wpS_bind (G _ _ _ _ _ _ _ _ _ _ hk4 (oa _) oB (show ib + 1 + (b.size - (ib + 1)) ≤ b.size by lia) (show 0 < b.size - (ib + 1) by lia) (UpR.sub (s' := ib + 1) (n' := b.size - (ib + 1)) hUb (by lia) (by lia)) fun k2 hk2n hy2 hn2 => ?_)
              replace hk2n : k2 ≤ b.size - (ib + 1) := hk2n
              replace hn2 : ∀ i, k2 ≤ i → i < b.size - (ib + 1) → _ ≤ rkA rk b (ib + 1 + i) := hn2
              replace hy2 : ∀ i, i < k2 → rkA rk b (ib + 1 + i) ≤ _ := hy2
              show wpS M A E s (if k2 > 0 then _ else _) _ _
              by_cases hk20 : k2 > 0
              · rw [if_pos hk20]
                have pmw := PMS.extB (k := k2) pmy (by lia) (by lia) hy2
                show wpS M A E s (if (ib + 1 + k2 == b.size) = true then _ else _) _ _
                by_cases e4 : ib + 1 + k2 = b.size
                · rw [if_pos (by simpa using e4)]
                  exact wpS_pure ⟨hS4, .inl ⟨_, rfl, PMS.done pmw (.inr e4)⟩⟩
                rw [if_neg (by simpa using e4)]
                refine wpS_bind (elem_at (arr := a) (i := ia2) (by lia) ?_)
                have pmz := PMS.pushA pmw (show ia2 < a.size by lia) (by lia) (hn2 k2 (Nat.le_refl _) (by lia))
                show wpS M A E s (if (ia2 + 1 + 1 == a.size) = true then _ else _) _ _
                by_cases e3 : ia2 + 1 + 1 = a.size
                · rw [if_pos (by simpa using e3)]
                  exact wpS_pure ⟨hS4, .inl ⟨_, rfl, PMS.last pmz e3 hlast⟩⟩
                · rw [if_neg (by simpa using e3)]
                  split
                  · exact wpS_pure ⟨hS4, .inr ⟨rfl, pmz, by show ia2 + 1 + 1 < a.size; lia, by show ib + 1 + k2 < b.size; lia, by show i + 2 ≤ ia2 + 1 + (ib + 1 + k2); lia⟩⟩
                  · exact wpS_pure ⟨hS4, rfl, pmz, by show ia2 + 1 + 1 < a.size; lia, by show ib + 1 + k2 < b.size; lia, by show i + 2 ≤ ia2 + 1 + (ib + 1 + k2); lia⟩
              · rw [if_neg hk20]
                refine wpS_bind (elem_at (arr := a) (i := ia2) (by lia) ?_)
                have pmz := PMS.pushA pmy (show ia2 < a.size by lia) (by lia) (hn2 0 (by lia) (by lia))
                show wpS M A E s (if (ia2 + 1 + 1 == a.size) = true then _ else _) _ _
                by_cases e3 : ia2 + 1 + 1 = a.size
                · rw [if_pos (by simpa using e3)]
                  exact wpS_pure ⟨hS4, .inl ⟨_, rfl, PMS.last pmz e3 hlast⟩⟩
                · rw [if_neg (by simpa using e3)]
                  split
                  · exact wpS_pure ⟨hS4, .inr ⟨rfl, pmz, by show ia2 + 1 + 1 < a.size; lia, by show ib + 1 < b.size; lia, by show i + 2 ≤ ia2 + 1 + (ib + 1); lia⟩⟩
                  · exact wpS_pure ⟨hS4, rfl, pmz, by show ia2 + 1 + 1 < a.size; lia, by show ib + 1 < b.size; lia, by show i + 2 ≤ ia2 + 1 + (ib + 1); lia⟩
        · rintro ⟨r1, out, ia, ib, mg, ac, bc⟩ st2 ⟨hS2, hr, pm, hia, hib, hcnt⟩
          exact ⟨hS2, .inr ⟨hr, pm, hia, hib, hcnt⟩⟩
        rintro ⟨r1, out, ia, ib, mg, ac, bc⟩ st3 ⟨hS3, hc⟩
        rcases hc with ⟨r, hr, hp⟩ | ⟨hr, pm, hia, hib, hcnt⟩
        · have hr : r1 = some r := hr
          subst hr
          exact wpS_pure ⟨hS3, r, rfl, hp⟩
        replace hr : r1 = none := hr
        subst hr
        refine wpS_bind (mod_gal hS3 (fun st4 hS4 => wpS_pure ?_))
        exact ⟨hS4, rfl, pm, hia, hib, hcnt⟩
      · rintro ⟨r0, out, ia, ib, mg⟩ st' ⟨hS, hr, pm, hia, hib, hcnt⟩
        exfalso
        replace hia : ia + 1 < a.size := hia
        replace hib : ib < b.size := hib
        replace hcnt : max 0 (a.size + b.size) + 1 ≤ ia + ib := hcnt
        lia
      · rintro ⟨r0, out, ia, ib, mg⟩ st' ⟨hS, r, hr, hp⟩
        replace hr : r0 = some r := hr
        subst hr
        exact wpS_pure (q1 _ _ hS hp)
    · refine wpS_bind (wpS_modify (wpS_bind (wpS_get (wpS_pure ?_))))
      have hf2 : failedOf st2 = none := hs.fail.trans hf
      have e : (failedOf st2).isNone = true := by rw [hf2]; rfl
      exact q_of e (back r st2 (hs.kind.trans hk) hf2 hs.arr hs.pend hp _ rfl rfl rfl rfl)
  · rw [if_neg hle]
    refine wpS_bind ?_
    refine use_merR (κ := κ) (rk := rk) (ok := ok) ?_ hk oX oY (by rw [hx]; lia) (by rw [hyz]; lia) rX rY r0 rL (fun r st2 hs hp => ?_)
    · intro a b Q st1 hk1 oA oB ha hb hRa hRb h0 hlast q1
      have hUa := hRa.up
      have hUb := hRb.up
      clear q back hx hyz oX oY rX rY r0 rL hy hn hy2 hn2 hz2 hnb2 hz hkn hle
      clear ho h1' h2' h1 h2 hsa hna hnb hsz uA uB hO hf hk nb2 k
      have oa : ∀ {i : Nat} (hi : i < a.size), ok (a[i]).1 := fun hi => oA _ (Array.getElem_mem _)
      have ob : ∀ {i : Nat} (hi : i < b.size), ok (b[i]).1 := fun hi => oB _ (Array.getElem_mem _)
      refine wpS_bind (wpS_lift (wpAny_rule ⟨rfl, ?_⟩))
      refine wpS_bind (elem_at (arr := a) (i := a.size - 1) (by lia) ?_)
      have hfirst : ∀ y ∈ a, rkA rk b 0 ≤ rk y.1 := fun y hy => by
        obtain ⟨j, hj, ej⟩ := mem_seg (rk := rk) (a := a) (i := 0) (k := a.size) (by lia) (z := y) (by rw [List.drop_zero, ← Array.length_toList, List.take_length]; exact Array.mem_toList_iff.mpr hy)
        rw [ej]
        have := hUa 0 (0 + j) (by lia) (by lia) (by lia)
        lia
      have h1' : rkA rk b (b.size - 1) ≤ rkA rk a (a.size - 1) := by
        rw [rkA_eq (show b.size - 1 < b.size by lia)]
        exact hlast _ (Array.getElem_mem _)
      have pm1 := PHS.init ha hb hRa hRb h1'
      show wpS M A E s (if (a.size - 1 == 0) = true then _ else _) Q _
      by_cases ha1 : a.size - 1 = 0
      · rw [if_pos (by simpa using ha1)]
        exact wpS_pure (q1 _ _ (SameG.refl _) (PHS.done pm1 (.inl ha1)))
      rw [if_neg (by simpa using ha1)]
      show wpS M A E s (if (b.size == 1) = true then _ else _) Q _
      by_cases hb1 : b.size = 1
      · rw [if_pos (by simpa using hb1)]
        exact wpS_pure (q1 _ _ (SameG.refl _) (PHS.first pm1 hb1 hfirst))
      rw [if_neg (by simpa using hb1)]
      refine wpS_bind (wpS_get ?_)
      refine wpS_bind (wpS_mono (Q := fun c st' => SameG st1 st' ∧ ∃ r, c.1 = some r ∧ Fine rk a b r) (wpS_forRange (fun i c st' => SameG st1 st' ∧ c.1 = none ∧ PHS rk a b c.2.2.2.1 c.2.1 c.2.2.1 ∧ 1 ≤ c.2.1 ∧ 2 ≤ c.2.2.1 ∧ i + 1 + c.2.1 + c.2.2.1 ≤ a.size + b.size) ?_ ?_ ⟨SameG.refl _, rfl, pm1, by show 1 ≤ a.size - 1; lia, by show 2 ≤ b.size; lia, by show 0 + 1 + (a.size - 1) + b.size ≤ _; lia⟩) ?_)
      · rintro i ⟨r0, na, nb, out, mg⟩ st' _ _ ⟨hS, hr, pm, hia, hib, hcnt⟩
        replace hr : r0 = none := hr
        subst hr
        have hk' : kindOf st' = κ := hS.kind.trans hk1
        refine wpS_bind (wpS_mono (Q := fun c st2 => SameG st1 st2 ∧ ((∃ r, c.1 = some r ∧ Fine rk a b r) ∨ (c.1 = none ∧ PHS rk a b c.2.2.2.1 c.2.1 c.2.2.1 ∧ 1 ≤ c.2.1 ∧ 2 ≤ c.2.2.1 ∧ i + 2 + c.2.1 + c.2.2.1 ≤ a.size + b.size))) (wpS_forRange (fun x c st2 => SameG st1 st2 ∧ c.1 = none ∧ PHS rk a b c.2.2.2.1 c.2.1 c.2.2.1 ∧ 1 ≤ c.2.1 ∧ 2 ≤ c.2.2.1 ∧ i + 1 + x + c.2.1 + c.2.2.1 ≤ a.size + b.size) ?_ ?_ ⟨hS, rfl, pm, hia, hib, hcnt⟩) ?_)
        · rintro x ⟨r1, na, nb, out, ac, bc⟩ st2 _ _ ⟨hS2, hr, pm, hia, hib, hcnt⟩
          replace hia : 1 ≤ na := hia
          replace hib : 2 ≤ nb := hib
          replace hcnt : i + 1 + x + na + nb ≤ a.size + b.size := hcnt
          replace pm : PHS rk a b out na nb := pm
          have pa := pm.ph.2.1
          have pb := pm.ph.2.2
          have hk2 : kindOf st2 = κ := hS2.kind.trans hk1
          refine wpS_bind (elem_at (arr := b) (i := nb - 1) (by lia) (wpS_bind (elem_at (arr := a) (i := na - 1) (by lia) (wpS_bind (lt_rk h hk2 (ob _) (oa _) fun c hc => ?_)))))
          cases c with
          | true =>
            refine wpS_bind (elem_at (arr := a) (i := na - 1) (by lia) ?_)
            have pm' := PHS.pushA pm hia (by lia) (by have := of_decide_eq_true hc.symm; lia)
            show wpS M A E s (if (na - 1 == 0) = true then _ else _) _ _
            by_cases e : na - 1 = 0
            · rw [if_pos (by simpa using e)]
              exact wpS_pure ⟨hS2, .inl ⟨_, rfl, PHS.done pm' (.inl e)⟩⟩
            · rw [if_neg (by simpa using e)]
              split
              · exact wpS_pure ⟨hS2, .inr ⟨rfl, pm', by show 1 ≤ na - 1; lia, hib, by show i + 2 + (na - 1) + nb ≤ _; lia⟩⟩
              · exact wpS_pure ⟨hS2, rfl, pm', by show 1 ≤ na - 1; lia, hib, by show i + 1 + (x + 1) + (na - 1) + nb ≤ _; lia⟩
          | false =>
            refine wpS_bind (elem_at (arr := b) (i := nb - 1) (by lia) ?_)
            have pm' := PHS.pushB pm (show 1 ≤ nb by lia) hia (by have := of_decide_eq_false hc.symm; lia)
            show wpS M A E s (if (nb - 1 == 1) = true then _ else _) _ _
            by_cases e : nb - 1 = 1
            · rw [if_pos (by simpa using e)]
              exact wpS_pure ⟨hS2, .inl ⟨_, rfl, PHS.first pm' e hfirst⟩⟩
            · rw [if_neg (by simpa using e)]
              split
              · exact wpS_pure ⟨hS2, .inr ⟨rfl, pm', hia, by show 2 ≤ nb - 1; lia, by show i + 2 + na + (nb - 1) ≤ _; lia⟩⟩
              · exact wpS_pure ⟨hS2, rfl, pm', hia, by show 2 ≤ nb - 1; lia, by show i + 1 + (x + 1) + na + (nb - 1) ≤ _; lia⟩
        · rintro ⟨r1, na, nb, out, ac, bc⟩ st2 ⟨hS2, hr, pm, hia, hib, hcnt⟩
          refine ⟨hS2, .inr ⟨hr, pm, hia, hib, ?_⟩⟩
          replace hcnt : i + 1 + max 0 (a.size + b.size) + na + nb ≤ a.size + b.size := hcnt
          show i + 2 + na + nb ≤ a.size + b.size
          lia
        rintro ⟨r1, na, nb, out, ac, bc⟩ st2 ⟨hS2, hc⟩
        rcases hc with ⟨r, hr, hp⟩ | ⟨hr, pm, hia, hib, hcnt⟩
        · have hr : r1 = some r := hr
          subst hr
          exact wpS_pure ⟨hS2, r, rfl, hp⟩
        replace hr : r1 = none := hr
        subst hr
        refine wpS_bind (wpS_lift (wpAny_rule ⟨rfl, ?_⟩))
        refine wpS_bind (wpS_mono (Q := fun c st2 => SameG st1 st2 ∧ ((∃ r, c.1 = some r ∧ Fine rk a b r) ∨ (c.1 = none ∧ PHS rk a b c.2.2.2.1 c.2.1 c.2.2.1 ∧ 1 ≤ c.2.1 ∧ 2 ≤ c.2.2.1 ∧ i + 2 + c.2.1 + c.2.2.1 ≤ a.size + b.size))) (wpS_forRange (fun x c st2 => SameG st1 st2 ∧ c.1 = none ∧ PHS rk a b c.2.2.2.1 c.2.1 c.2.2.1 ∧ 1 ≤ c.2.1 ∧ 2 ≤ c.2.2.1 ∧ i + 2 + c.2.1 + c.2.2.1 ≤ a.size + b.size) ?_ ?_ ⟨hS2, rfl, pm, hia, hib, hcnt⟩) ?_)
        · rintro x ⟨r1, na, nb, out, mg, ac, bc⟩ st3 _ _ ⟨hS3, hr, pm, hia, hib, hcnt⟩
          replace hia : 1 ≤ na := hia
          replace hib : 2 ≤ nb := hib
          replace hcnt : i + 2 + na + nb ≤ a.size + b.size := hcnt
          replace pm : PHS rk a b out na nb := pm
          have pa := pm.ph.2.1
          have pb := pm.ph.2.2
          show wpS M A E s (if mg > 1 then _ else _) _ _
          refine ite_once (P := ?P2) ?g1 ?g2 ?g3
          case g1 =>
            intro k
            dsimp only
            generalize mg - 1 = mg1
            revert mg1
            exact k
          case g2 =>
            intro k
            exact k mg
          case g3 =>
            intro mg1
            refine wpS_bind (mod_gal hS3 (fun st4 hS4 => ?_))
            have hk4 := hS4.kind.trans hk1
            refine wpS_bind (elem_at (arr := b) (i := nb - 1) (by lia) ?_)
            refine wpS_bind (G _ _ _ _ _ _ _ _ _ _ hk4 (ob _) oA (show 0 + na ≤ a.size by lia) (show na - 1 < na by lia) (UpR.sub (s' := 0) (n' := na) hUa (by lia) (by lia)) fun k hkn hy hn => ?_)
            replace hkn : k ≤ na := hkn
            replace hn : ∀ i, k ≤ i → i < na → rkA rk b (nb - 1) ≤ rkA rk a (0 + i) := hn
            replace hy : ∀ i, i < k → rkA rk a (0 + i) ≤ rkA rk b (nb - 1) := hy
            show wpS M A E s (if na - k > 0 then _ else _) _ _
            refine ite_once2 (P := ?PK2) ?kk1 ?kk2 ?kk3
            case kk1 =>
              intro hk0
              have pmx := PHS.extA (k := k) pm hkn (by lia) (fun i h1 h2 => by have := hn i h1 h2; rwa [Nat.zero_add] at this)
              by_cases e0 : k = 0
              · intro _
                show wpS M A E s (if (k == 0) = true then _ else _) _ _
                rw [if_pos (by simpa using e0)]
                exact wpS_pure ⟨hS4, .inl ⟨_, rfl, PHS.done pmx (.inl e0)⟩⟩
              have hlt : 1 ≤ k := by lia
              have hge : k ≤ na := hkn
              have hle : rkA rk a (k - 1) ≤ rkA rk b (nb - 1) := by have := hy (k - 1) (by lia); rwa [Nat.zero_add] at this
              intro key
              show wpS M A E s (if (k == 0) = true then _ else _) _ _
              rw [if_neg (by simpa using e0)]
              generalize na - k = ac2
              generalize out ++ (a.extract k na).reverse = out2 at pmx ⊢
              generalize k = na2 at pmx hlt hge hle ⊢
              revert pmx hlt hge hle
              revert na2
              revert out2
              revert ac2
              exact key
            case kk2 =>
              intro hk0
              have hle : rkA rk a (na - 1) ≤ rkA rk b (nb - 1) := by have := hy (na - 1) (by lia); rwa [Nat.zero_add] at this
              intro key
              exact key (na - k) out na pm hia (Nat.le_refl _) hle
            case kk3 =>
              clear pm hy hn
              intro ac2 out2 na2 pmx hlt hge hle
              refine wpS_bind (elem_at (arr := b) (i := nb - 1) (by lia) ?_)
              have pmy := PHS.pushB pmx (show 1 ≤ nb by lia) hlt hle
              show wpS M A E s (if (nb - 1 == 1) = true then _ else _) _ _
              by_cases e2 : nb - 1 = 1
              · rw [if_pos (by simpa using e2)]
                exact wpS_pure ⟨hS4, .inl ⟨_, rfl, PHS.first pmy e2 hfirst⟩⟩
              rw [if_neg (by simpa using e2)]
              refine wpS_bind (elem_at (arr := a) (i := na2 - 1) (by lia) ?_)
              refine wpS_bind (G _ _ _ _ _ _ _ _ _ _ hk4 (oa _) oB (show 0 + (nb - 1) ≤ b.size by lia) (show nb - 1 - 1 < nb - 1 by lia) (UpR.sub (s' := 0) (n' := nb - 1) hUb (by lia) (by lia)) fun k2 hk2n hy2 hn2 => ?_)
              replace hk2n : k2 ≤ nb - 1 := hk2n
              replace hn2 : ∀ i, k2 ≤ i → i < nb - 1 → _ ≤ rkA rk b (0 + i) := hn2
              replace hy2 : ∀ i, i < k2 → rkA rk b (0 + i) ≤ _ := hy2
              show wpS M A E s (if nb - 1 - k2 > 0 then _ else _) _ _
              by_cases hk20 : nb - 1 - k2 > 0
              · rw [if_pos hk20]
                have pmw := PHS.extB (k := k2) pmy hk2n (by lia) (fun i h1 h2 => by have := hn2 i h1 h2; rwa [Nat.zero_add] at this)
                show wpS M A E s (if (k2 == 1) = true then _ else _) _ _
                by_cases e4 : k2 = 1
                · rw [if_pos (by simpa using e4)]
                  exact wpS_pure ⟨hS4, .inl ⟨_, rfl, PHS.first pmw e4 hfirst⟩⟩
                rw [if_neg (by simpa using e4)]
                show wpS M A E s (if (k2 == 0) = true then _ else _) _ _
                by_cases e5 : k2 = 0
                · rw [if_pos (by simpa using e5)]
                  exact wpS_pure ⟨hS4, .inl ⟨_, rfl, PHS.done pmw (.inr e5)⟩⟩
                rw [if_neg (by simpa using e5)]
                refine wpS_bind (elem_at (arr := a) (i := na2 - 1) (by lia) ?_)
                have pmz := PHS.pushA pmw (show 1 ≤ na2 by lia) (by lia) (by have := hy2 (k2 - 1) (by lia); rwa [Nat.zero_add] at this)
                show wpS M A E s (if (na2 - 1 == 0) = true then _ else _) _ _
                by_cases e3 : na2 - 1 = 0
                · rw [if_pos (by simpa using e3)]
                  exact wpS_pure ⟨hS4, .inl ⟨_, rfl, PHS.done pmz (.inl e3)⟩⟩
                · rw [if_neg (by simpa using e3)]
                  split
                  · exact wpS_pure ⟨hS4, .inr ⟨rfl, pmz, by show 1 ≤ na2 - 1; lia, by show 2 ≤ k2; lia, by show i + 2 + (na2 - 1) + (k2) ≤ _; lia⟩⟩
                  · exact wpS_pure ⟨hS4, rfl, pmz, by show 1 ≤ na2 - 1; lia, by show 2 ≤ k2; lia, by show i + 2 + (na2 - 1) + (k2) ≤ _; lia⟩
              · rw [if_neg hk20]
                refine wpS_bind (elem_at (arr := a) (i := na2 - 1) (by lia) ?_)
                have pmz := PHS.pushA pmy (show 1 ≤ na2 by lia) (by lia) (by have := hy2 (nb - 1 - 1) (by lia); rwa [Nat.zero_add] at this)
                show wpS M A E s (if (na2 - 1 == 0) = true then _ else _) _ _
                by_cases e3 : na2 - 1 = 0
                · rw [if_pos (by simpa using e3)]
                  exact wpS_pure ⟨hS4, .inl ⟨_, rfl, PHS.done pmz (.inl e3)⟩⟩
                · rw [if_neg (by simpa using e3)]
                  split
                  · exact wpS_pure ⟨hS4, .inr ⟨rfl, pmz, by show 1 ≤ na2 - 1; lia, by show 2 ≤ nb - 1; lia, by show i + 2 + (na2 - 1) + (nb - 1) ≤ _; lia⟩⟩
                  · exact wpS_pure ⟨hS4, rfl, pmz, by show 1 ≤ na2 - 1; lia, by show 2 ≤ nb - 1; lia, by show i + 2 + (na2 - 1) + (nb - 1) ≤ _; lia⟩
        · rintro ⟨r1, na, nb, out, mg, ac, bc⟩ st2 ⟨hS2, hr, pm, hia, hib, hcnt⟩
          exact ⟨hS2, .inr ⟨hr, pm, hia, hib, hcnt⟩⟩
        rintro ⟨r1, na, nb, out, mg, ac, bc⟩ st3 ⟨hS3, hc⟩
        rcases hc with ⟨r, hr, hp⟩ | ⟨hr, pm, hia, hib, hcnt⟩
        · have hr : r1 = some r := hr
          subst hr
          exact wpS_pure ⟨hS3, r, rfl, hp⟩
        replace hr : r1 = none := hr
        subst hr
        refine wpS_bind (mod_gal hS3 (fun st4 hS4 => wpS_pure ?_))
        exact ⟨hS4, rfl, pm, hia, hib, hcnt⟩
      · rintro ⟨r0, na, nb, out, mg⟩ st' ⟨hS, hr, pm, hia, hib, hcnt⟩
        exfalso
        replace hcnt : max 0 (a.size + b.size) + 1 + na + nb ≤ a.size + b.size := hcnt
        lia
      · rintro ⟨r0, na, nb, out, mg⟩ st' ⟨hS, r, hr, hp⟩
        replace hr : r0 = some r := hr
        subst hr
        exact wpS_pure (q1 _ _ hS hp)
    · refine wpS_bind (wpS_modify (wpS_bind (wpS_get (wpS_pure ?_))))
      have hf2 : failedOf st2 = none := hs.fail.trans hf
      have e : (failedOf st2).isNone = true := by rw [hf2]; rfl
      exact q_of e (back r st2 (hs.kind.trans hk) hf2 hs.arr hs.pend hp _ rfl rfl rfl rfl)
end
end RS


end
section
set_option Elab.async false
set_option linter.all false
set_option maxRecDepth 100000
set_option maxHeartbeats 4000000
namespace RS
open PySem PyProof.Rows
section
variable {M : Model} {A : Around} {E : Value → Shared → Prop} {s : Shared} {κ : SortKind} {ok : Value → Prop} {a₀ b₀ : Array Keyed} {rk : Value → Nat}
structure SU (κ : SortKind) (a₀ : Array Keyed) (p : Array (Nat × Nat × Nat)) (b₀ : Array Keyed) (lo : Nat) (st : SortSt) : Prop where
  sp : SP κ a₀ p st
  fr : ∀ i, i < lo → (arrOf st)[i]? = b₀[i]?
noncomputable def Apart (rk : Value → Nat) (a : Array Keyed) : Prop := (a.toList.map fun x => rk x.1).Nodup
theorem Apart.at {a : Array Keyed} (h : Apart rk a) {i j : Nat} (hi : i < a.size) (hj : j < a.size) (e : rkA rk a i = rkA rk a j) : i = j := by
  rw [rkA_eq hi, rkA_eq hj] at e
  unfold Apart at h
  have h' := h
  rw [List.nodup_iff_pairwise_ne] at h'
  apply Classical.byContradiction
  intro ne
  rw [List.pairwise_iff_getElem] at h'
  have li : i < (a.toList.map fun x => rk x.1).length := by rw [List.length_map, Array.length_toList]; exact hi
  have lj : j < (a.toList.map fun x => rk x.1).length := by rw [List.length_map, Array.length_toList]; exact hj
  rcases Nat.lt_or_gt_of_ne ne with c | c
  · exact h' i j li lj c (by simpa using e)
  · exact h' j i lj li c (by simpa using e.symm)
theorem Apart.perm {a b : Array Keyed} (h : Apart rk a) (p : b.toList.Perm a.toList) : Apart rk b := (p.map _).nodup_iff.mpr h
theorem ltAt_rk {p : Array (Nat × Nat × Nat)} {st : SortSt} {i j : Nat} {Q : Option Bool → SortSt → Prop} (h : AskR M A s κ rk ok) (o : Oks ok a₀) (hS : SP κ a₀ p st) (hi : i < a₀.size) (hj : j < a₀.size) (q : ∀ c, c = decide (rkA rk (arrOf st) i < rkA rk (arrOf st) j) → Q (some c) st) : wpS M A E s (ltAt' i j) Q st := by
  rw [ltAt'_eq]
  have hz := hS.size
  have oo := hS.oks o
  refine wpS_bind (wpS_get (wpS_bind (elem_at (by lia) (wpS_bind (elem_at (by lia) ?_)))))
  exact lt_rk h hS.kind (oo _ (Array.getElem_mem _)) (oo _ (Array.getElem_mem _)) q
theorem UpR.snoc {a : Array Keyed} {lo n : Nat} (h : UpR rk a lo n) (h1 : 1 ≤ n) (e : rkA rk a (lo + n - 1) ≤ rkA rk a (lo + n)) : UpR rk a lo (n + 1) := fun i j x y z => by
  by_cases c : j < lo + n
  · exact h i j x y c
  · have ej : j = lo + n := by lia
    subst ej
    by_cases c2 : i = lo + n
    · rw [c2]
      exact Nat.le_refl _
    · have := h i (lo + n - 1) x (by lia) (by lia)
      lia
theorem UpR.one {a : Array Keyed} {lo : Nat} : UpR rk a lo 1 := fun i j x y z => by
  have e : i = j := by lia
  rw [e]
  exact Nat.le_refl _
noncomputable def DnR (rk : Value → Nat) (a : Array Keyed) (s n : Nat) : Prop := ∀ i j, s ≤ i → i ≤ j → j < s + n → rkA rk a j ≤ rkA rk a i
theorem DnR.snoc {a : Array Keyed} {lo n : Nat} (h : DnR rk a lo n) (h1 : 1 ≤ n) (e : rkA rk a (lo + n) ≤ rkA rk a (lo + n - 1)) : DnR rk a lo (n + 1) := fun i j x y z => by
  by_cases c : j < lo + n
  · exact h i j x y c
  · have ej : j = lo + n := by lia
    subst ej
    by_cases c2 : i = lo + n
    · rw [c2]
      exact Nat.le_refl _
    · have := h i (lo + n - 1) x (by lia) (by lia)
      lia
theorem DnR.one {a : Array Keyed} {lo : Nat} : DnR rk a lo 1 := fun i j x y z => by
  have e : i = j := by lia
  rw [e]
  exact Nat.le_refl _
theorem rkA_mirror {xs : Array Keyed} {i j : Nat} (hj : j ≤ xs.size) (k : Nat) : rkA rk (mirror xs i j ((j - i) / 2)) k = if i ≤ k ∧ k < j then rkA rk xs (i + j - 1 - k) else rkA rk xs k := by
  have e := getElem?_mirror_all (i := i) hj k
  by_cases h1 : i ≤ k ∧ k < j
  · rw [if_pos h1] at e ⊢; exact rkA_congr e
  · rw [if_neg h1] at e ⊢; exact rkA_congr e
theorem DnR.mirror {a : Array Keyed} {lo n : Nat} (h : DnR rk a lo n) (hz : lo + n ≤ a.size) : UpR rk (mirror a lo (lo + n) ((lo + n - lo) / 2)) lo n := fun i j x y z => by
  rw [rkA_mirror hz, rkA_mirror hz, if_pos (by lia), if_pos (by lia)]
  exact h _ _ (by lia) (by lia) (by lia)
theorem rev_up {p : Array (Nat × Nat × Nat)} {st : SortSt} {lo n : Nat} {Q : Unit → SortSt → Prop} (hS : SU κ a₀ p b₀ lo st) (hz : lo + n ≤ a₀.size) (hD : DnR rk (arrOf st) lo n) (q : ∀ st', SU κ a₀ p b₀ lo st' → UpR rk (arrOf st') lo n → Q () st') : wpS M A E s (reverseSlice' lo (lo + n)) Q st := by
  rw [reverseSlice'_eq]
  have hsz := hS.sp.size
  refine wpS_modify (q _ ⟨⟨hS.sp.kind, (mirror_perm _ _ _ _).toList.trans hS.sp.perm, hS.sp.fail, hS.sp.pend⟩, fun i hi => ?_⟩ (hD.mirror (by lia)))
  have e := getElem?_mirror_all (xs := arrOf st) (i := lo) (j := lo + n) (by lia) i
  rw [if_neg (by lia)] at e
  exact e.trans (hS.fr i hi)
theorem rkA_bubble {xs : Array Keyed} {src d : Nat} (hs : src < xs.size) (hd : d ≤ src) (k : Nat) : rkA rk (bubble xs src d) k = if k = src - d then rkA rk xs src else if src - d < k ∧ k ≤ src then rkA rk xs (k - 1) else rkA rk xs k := by
  have e := getElem?_bubble hs d hd k
  by_cases h1 : k = src - d
  · rw [if_pos h1] at e ⊢; exact rkA_congr e
  · rw [if_neg h1] at e ⊢
    by_cases h2 : src - d < k ∧ k ≤ src
    · rw [if_pos h2] at e ⊢; exact rkA_congr e
    · rw [if_neg h2] at e ⊢; exact rkA_congr e
theorem binary_up {p : Array (Nat × Nat × Nat)} {st : SortSt} {lo n k0 : Nat} {Q : Bool → SortSt → Prop} (h : AskR M A s κ rk ok) (o : Oks ok a₀) (hS : SU κ a₀ p b₀ lo st) (hn : lo + n ≤ a₀.size) (h1 : 1 ≤ k0) (hk : k0 ≤ n) (hU : UpR rk (arrOf st) lo k0) (q : ∀ st', SU κ a₀ p b₀ lo st' → UpR rk (arrOf st') lo n → Q true st') : wpS M A E s (binarySort' lo n k0) Q st := by
  rw [binarySort'_eq]
  refine wpS_bind (wpS_mono (Q := fun c st' => SU κ a₀ p b₀ lo st' ∧ c.1 = none ∧ UpR rk (arrOf st') lo n) (wpS_forRange (fun (k : Nat) (c : Option Bool × Unit) st' => SU κ a₀ p b₀ lo st' ∧ c.1 = none ∧ UpR rk (arrOf st') lo k) ?_ ?_ ⟨hS, rfl, by rw [Nat.max_eq_left h1]; exact hU⟩) ?_)
  · rintro k ⟨r, u⟩ st' hk1 hk2 ⟨hS', hr, hU'⟩
    have hk1 : max k0 1 ≤ k := hk1
    have hsz := hS'.sp.size
    obtain ⟨T, eT⟩ : ∃ T : Nat → Bool, T = fun i => !decide (rkA rk (arrOf st') (lo + k) < rkA rk (arrOf st') (lo + i)) := ⟨_, rfl⟩
    have mono : MonoT T k := by
      rw [eT]
      intro i j h1 h2 h3
      have := hU' (lo + i) (lo + j) (by lia) (by lia) (by lia)
      simp at h3 ⊢
      lia
    have fin : ∀ l, Cut T k l → wpS M A E s (do
        moveDown' (lo + k) (lo + l)
        pure (ForInStep.yield ((none : Option Bool), ()))) (fun c st2 => match c with | .yield d => SU κ a₀ p b₀ lo st2 ∧ d.1 = none ∧ UpR rk (arrOf st2) lo (k + 1) | .done d => SU κ a₀ p b₀ lo st2 ∧ d.1 = none ∧ UpR rk (arrOf st2) lo n) st' := fun l hc => by
      have hl := hc.le
      rw [moveDown'_eq]
      refine wpS_bind (wpS_modify (wpS_pure ⟨⟨⟨hS'.sp.kind, (bubble_perm _ _ _).toList.trans hS'.sp.perm, hS'.sp.fail, hS'.sp.pend⟩, fun i hi => ?_⟩, rfl, ?_⟩))
      · have e := getElem?_bubble (xs := arrOf st') (src := lo + k) (by lia) (lo + k - (lo + l)) (by lia) i
        rw [if_neg (by lia), if_neg (by lia)] at e
        exact e.trans (hS'.fr i hi)
      · intro i j x y z
        have gy : ∀ t, t < l → rkA rk (arrOf st') (lo + t) ≤ rkA rk (arrOf st') (lo + k) := fun t ht => by
          have := hc.yes t ht
          rw [eT] at this
          simp at this
          lia
        have gn : ∀ t, l ≤ t → t < k → rkA rk (arrOf st') (lo + k) ≤ rkA rk (arrOf st') (lo + t) := fun t h1 h2 => by
          have := hc.no t h1 h2
          rw [eT] at this
          simp at this
          lia
        show rkA rk (bubble (arrOf st') (lo + k) (lo + k - (lo + l))) i ≤ rkA rk (bubble (arrOf st') (lo + k) (lo + k - (lo + l))) j
        have hs : lo + k < (arrOf st').size := by lia
        rw [rkA_bubble hs (by lia), rkA_bubble hs (by lia), show lo + k - (lo + k - (lo + l)) = lo + l by lia]
        by_cases a1 : i = lo + l
        · rw [if_pos a1]
          by_cases b1 : j = lo + l
          · rw [if_pos b1]; exact Nat.le_refl _
          · rw [if_neg b1, if_pos (by lia)]
            have := gn (j - 1 - lo) (by lia) (by lia)
            rwa [show lo + (j - 1 - lo) = j - 1 by lia] at this
        · rw [if_neg a1]
          by_cases a2 : lo + l < i ∧ i ≤ lo + k
          · rw [if_pos a2, if_neg (by lia), if_pos (by lia)]
            exact hU' _ _ (by lia) (by lia) (by lia)
          · rw [if_neg a2]
            by_cases b1 : j = lo + l
            · rw [if_pos b1]
              have := gy (i - lo) (by lia)
              rwa [show lo + (i - lo) = i by lia] at this
            · rw [if_neg b1]
              by_cases b2 : lo + l < j ∧ j ≤ lo + k
              · rw [if_pos b2]
                exact hU' _ _ (by lia) (by lia) (by lia)
              · rw [if_neg b2]
                exact hU' _ _ (by lia) (by lia) (by lia)
    refine wpS_bind (wpS_mono (Q := fun c st2 => st2 = st' ∧ c.1 = none ∧ Cut T k c.2.1) (wpS_forRange (fun (x : Nat) (c : Option Bool × Nat × Nat) st2 => st2 = st' ∧ c.1 = none ∧ BinI T k x c.2.1 c.2.2) ?_ ?_ ⟨rfl, rfl, ⟨Nat.zero_le _, Nat.le_refl _, by show k - 0 + 0 ≤ k; lia, fun i hi => absurd hi (Nat.not_lt_zero _), fun i h1 h2 => absurd h2 (by show ¬ i < k; have h1 : k ≤ i := h1; lia)⟩⟩) ?_)
    · rintro x ⟨r1, l, rr⟩ st2 _ _ ⟨h0, hr1, hB⟩
      have h0 : st' = st2 := h0.symm
      subst h0
      have hB : BinI T k x l rr := hB
      have hle := hB.le
      have hrr := hB.hn
      show wpS M A E s (if l ≥ rr then _ else _) _ _
      by_cases hc : l ≥ rr
      · rw [if_pos hc]
        refine wpS_pure ⟨rfl, rfl, ?_⟩
        have := hB.stop hc
        rwa [show rr = l by lia] at this
      · rw [if_neg hc]
        refine wpS_bind (ltAt_rk h o hS'.sp (show lo + k < a₀.size by lia) (show lo + (l + rr) / 2 < a₀.size by lia) fun c hcc => ?_)
        have em : (l + rr) / 2 = l + (rr - l) / 2 := by lia
        have hT : T (l + (rr - l) / 2) = !c := by
          rw [hcc, em, eT]
        cases c with
        | true =>
          refine wpS_pure ⟨rfl, rfl, ?_⟩
          show BinI T k (x + 1) l ((l + rr) / 2)
          rw [em]
          exact hB.left mono hc hT.symm
        | false =>
          refine wpS_pure ⟨rfl, rfl, ?_⟩
          show BinI T k (x + 1) ((l + rr) / 2 + 1) rr
          rw [em]
          exact hB.right mono hc hT.symm
    · rintro ⟨r1, l, rr⟩ st2 ⟨h0, hr1, hB⟩
      refine ⟨h0, hr1, ?_⟩
      have hB : BinI T k (max 0 k) l rr := hB
      have h5 := hB.cnt
      have h6 := hB.le
      have := hB.fin
      show Cut T k l
      rwa [show rr = l by lia] at this
    · rintro ⟨r1, l, rr⟩ st2 ⟨h0, hr1, hC⟩
      have h0 : st' = st2 := h0.symm
      subst h0
      have hr1 : r1 = none := hr1
      subst hr1
      exact fin l hC
  · rintro ⟨r, u⟩ st' ⟨hS', hr, hU'⟩
    refine ⟨hS', hr, ?_⟩
    have hU' : UpR rk (arrOf st') lo (max (max k0 1) n) := hU'
    rwa [show max (max k0 1) n = n by lia] at hU'
  · rintro ⟨r, u⟩ st' ⟨hS', hr, hU'⟩
    have hr : r = none := hr
    subst hr
    exact wpS_pure (q _ hS' hU')
end
end RS


end
section
set_option Elab.async false
set_option linter.all false
set_option maxRecDepth 100000
set_option maxHeartbeats 4000000
namespace RS
open PySem PyProof.Rows
section
variable {M : Model} {A : Around} {E : Value → Shared → Prop} {s : Shared} {κ : SortKind} {ok : Value → Prop} {a₀ b₀ : Array Keyed} {rk : Value → Nat}
theorem count_up {p : Array (Nat × Nat × Nat)} {st : SortSt} {lo nrem : Nat} {Q : Option Nat → SortSt → Prop} (h : AskR M A s κ rk ok) (o : Oks ok a₀) (hap : Apart rk a₀) (hS : SU κ a₀ p b₀ lo st) (hn : lo + nrem ≤ a₀.size) (h1 : 1 ≤ nrem) (q : ∀ m st', 1 ≤ m → m ≤ nrem → SU κ a₀ p b₀ lo st' → UpR rk (arrOf st') lo m → Q (some m) st') : wpS M A E s (countRun' lo nrem) Q st := by
  rw [countRun'_eq]
  refine wpS_bind (wpS_mono (Q := fun c st' => SU κ a₀ p b₀ lo st' ∧ c.1 = none ∧ 1 ≤ c.2 ∧ c.2 ≤ nrem ∧ UpR rk (arrOf st') lo c.2 ∧ (c.2 < nrem → rkA rk (arrOf st') (lo + c.2) < rkA rk (arrOf st') (lo + c.2 - 1))) (wpS_forRange (fun i c st' => SU κ a₀ p b₀ lo st' ∧ c.1 = none ∧ c.2 = i ∧ UpR rk (arrOf st') lo c.2) ?_ ?_ ⟨hS, rfl, rfl, UpR.one⟩) ?_)
  · rintro i ⟨r, n⟩ st' hi1 hi2 ⟨hS', hr, hni, hU'⟩
    have hni : n = i := hni
    have hU' : UpR rk (arrOf st') lo n := hU'
    subst hni
    refine wpS_bind (ltAt_rk h o hS'.sp (by lia) (by lia) fun c hc => ?_)
    have hc : c = decide (rkA rk (arrOf st') (lo + n) < rkA rk (arrOf st') (lo + n - 1)) := hc
    cases c with
    | true => exact wpS_pure ⟨hS', rfl, hi1, by show n ≤ nrem; lia, hU', fun _ => of_decide_eq_true hc.symm⟩
    | false => exact wpS_pure ⟨hS', rfl, rfl, hU'.snoc hi1 (by have := of_decide_eq_false hc.symm; lia)⟩
  · rintro ⟨r, n⟩ st' ⟨hS', hr, hni, hU'⟩
    have hni : n = max 1 nrem := hni
    refine ⟨hS', hr, ?_, ?_, hU', fun z => ?_⟩
    · show 1 ≤ n
      lia
    · show n ≤ nrem
      lia
    · have z : n < nrem := z
      lia
  rintro ⟨r, n⟩ st' ⟨hS', hr, hn1, hn2, hU', hsm⟩
  have hr : r = none := hr
  subst hr
  have hn1 : 1 ≤ n := hn1
  have hn2 : n ≤ nrem := hn2
  have hU' : UpR rk (arrOf st') lo n := hU'
  have hsz := hS'.sp.size
  have ap : Apart rk (arrOf st') := hap.perm hS'.sp.perm
  show wpS M A E s (if (n == nrem) = true then _ else _) Q st'
  by_cases e : n = nrem
  · rw [if_pos (by simpa using e)]
    exact wpS_pure (q n st' hn1 hn2 hS' hU')
  rw [if_neg (by simpa using e)]
  have hsm : rkA rk (arrOf st') (lo + n) < rkA rk (arrOf st') (lo + n - 1) := hsm (by show n < nrem; lia)
  show wpS M A E s (if n > 1 then _ else _) Q st'
  by_cases hg : n > 1
  · rw [if_pos hg]
    refine wpS_bind (ltAt_rk h o hS'.sp (show lo < a₀.size by lia) (show lo + n - 1 < a₀.size by lia) fun c hc => ?_)
    have hc : c = decide (rkA rk (arrOf st') (lo) < rkA rk (arrOf st') (lo + n - 1)) := hc
    cases c with
    | true => exact wpS_pure (q n st' hn1 hn2 hS' hU')
    | false =>
      exfalso
      have h5 := of_decide_eq_false hc.symm
      have h6 := hU' lo (lo + n - 1) (by lia) (by lia) (by lia)
      have := ap.at (i := lo) (j := lo + n - 1) (by lia) (by lia) (by lia)
      lia
  · rw [if_neg hg]
    have en : n = 1 := by lia
    subst en
    refine wpS_bind (wpS_lift (wpAny_rule ⟨rfl, ?_⟩))
    refine wpS_bind (wpS_mono (Q := fun c st' => SU κ a₀ p b₀ lo st' ∧ c.1 = none ∧ 1 ≤ c.2.1 ∧ c.2.1 ≤ nrem ∧ c.2.2 = 0 ∧ DnR rk (arrOf st') lo c.2.1) (wpS_forRange (fun (i : Nat) (c : Option (Option Nat) × Nat × Nat) st' => SU κ a₀ p b₀ lo st' ∧ c.1 = none ∧ c.2.1 = i ∧ c.2.2 = 0 ∧ DnR rk (arrOf st') lo c.2.1) ?_ ?_ ⟨hS', rfl, rfl, rfl, DnR.one.snoc (Nat.le_refl _) (Nat.le_of_lt hsm)⟩) ?_)
    · rintro i ⟨r, n2, neq⟩ st2 hi1 hi2 ⟨hS2, hr, hni, hne, hD⟩
      have hni : n2 = i := hni
      have hi1 : 1 + 1 ≤ i := hi1
      have hne : neq = 0 := hne
      have hD : DnR rk (arrOf st2) lo n2 := hD
      subst hni
      have hsz2 := hS2.sp.size
      have ap2 : Apart rk (arrOf st2) := hap.perm hS2.sp.perm
      refine wpS_bind (ltAt_rk h o hS2.sp (show lo + n2 < a₀.size by lia) (show lo + n2 - 1 < a₀.size by lia) fun c hc => ?_)
      have hc : c = decide (rkA rk (arrOf st2) (lo + n2) < rkA rk (arrOf st2) (lo + n2 - 1)) := hc
      cases c with
      | true =>
        show wpS M A E s (if neq > 0 then _ else _) _ _
        rw [if_neg (by lia)]
        exact wpS_pure ⟨hS2, rfl, rfl, rfl, hD.snoc (by lia) (by have := of_decide_eq_true hc.symm; lia)⟩
      | false =>
        refine wpS_bind (ltAt_rk h o hS2.sp (show lo + n2 - 1 < a₀.size by lia) (show lo + n2 < a₀.size by lia) fun c hc2 => ?_)
        have hc2 : c = decide (rkA rk (arrOf st2) (lo + n2 - 1) < rkA rk (arrOf st2) (lo + n2)) := hc2
        cases c with
        | true => exact wpS_pure ⟨hS2, rfl, by show 1 ≤ n2; lia, by show n2 ≤ nrem; lia, hne, hD⟩
        | false =>
          exfalso
          have h5 := of_decide_eq_false hc.symm
          have h6 := of_decide_eq_false hc2.symm
          have := ap2.at (i := lo + n2 - 1) (j := lo + n2) (by lia) (by lia) (by lia)
          lia
    · rintro ⟨r, n2, neq⟩ st2 ⟨hS2, hr, hni, hne, hD⟩
      have hni : n2 = max (1 + 1) nrem := hni
      refine ⟨hS2, hr, ?_, ?_, hne, hD⟩
      · show 1 ≤ n2
        lia
      · show n2 ≤ nrem
        lia
    rintro ⟨r, n2, neq⟩ st4 ⟨hS4, hr, hm1, hm2, hne, hD⟩
    have hr : r = none := hr
    have hne : neq = 0 := hne
    subst hr
    have hm1 : 1 ≤ n2 := hm1
    have hm2 : n2 ≤ nrem := hm2
    show wpS M A E s (if neq > 0 then _ else _) _ _
    rw [if_neg (by lia)]
    refine wpS_bind (rev_up hS4 (by lia) hD fun st5 hS5 hU5 => ?_)
    refine wpS_bind (wpS_mono (Q := fun c st' => SU κ a₀ p b₀ lo st' ∧ c.1 = none ∧ 1 ≤ c.2 ∧ c.2 ≤ nrem ∧ UpR rk (arrOf st') lo c.2) (wpS_forRange (fun (i : Nat) (c : Option (Option Nat) × Nat) st' => SU κ a₀ p b₀ lo st' ∧ c.1 = none ∧ c.2 = i ∧ UpR rk (arrOf st') lo c.2) ?_ ?_ ⟨hS5, rfl, rfl, hU5⟩) ?_)
    · rintro i ⟨r, n3⟩ st' hi1 hi2 ⟨hS', hr, hni, hU'⟩
      have hni : n3 = i := hni
      have hi1 : n2 ≤ i := hi1
      have hU' : UpR rk (arrOf st') lo n3 := hU'
      subst hni
      refine wpS_bind (ltAt_rk h o hS'.sp (show lo + n3 < a₀.size by lia) (show lo + n3 - 1 < a₀.size by lia) fun c hc => ?_)
      have hc : c = decide (rkA rk (arrOf st') (lo + n3) < rkA rk (arrOf st') (lo + n3 - 1)) := hc
      cases c with
      | true => exact wpS_pure ⟨hS', rfl, by show 1 ≤ n3; lia, by show n3 ≤ nrem; lia, hU'⟩
      | false => exact wpS_pure ⟨hS', rfl, rfl, hU'.snoc (by lia) (by have := of_decide_eq_false hc.symm; lia)⟩
    · rintro ⟨r, n3⟩ st' ⟨hS', hr, hni, hU'⟩
      have hni : n3 = max n2 nrem := hni
      refine ⟨hS', hr, ?_, ?_, hU'⟩
      · show 1 ≤ n3
        lia
      · show n3 ≤ nrem
        lia
    rintro ⟨r, n3⟩ st' ⟨hS', hr, hm1, hm2, hU'⟩
    have hr : r = none := hr
    subst hr
    exact wpS_pure (q n3 st' hm1 hm2 hS' hU')
noncomputable def RunsUp (rk : Value → Nat) (p : List (Nat × Nat × Nat)) (a : Array Keyed) : Prop := ∀ r ∈ p, UpR rk a r.1 r.2.1
theorem runs_in : ∀ {l : List (Nat × Nat × Nat)} {s e : Nat}, Runs l s e → ∀ r ∈ l, s ≤ r.1 ∧ r.1 + r.2.1 ≤ e
  | [], _, _, _, r, h => by cases h
  | (a, n, p) :: l, s, e, h, r, hr => by
    obtain ⟨h1, h2, h3⟩ := h
    have := h3.le
    rcases List.mem_cons.mp hr with rfl | hr
    · exact ⟨by show s ≤ a; lia, by show a + n ≤ e; lia⟩
    · have := runs_in h3 r hr
      lia
theorem RunsUp.frame {p : List (Nat × Nat × Nat)} {a b : Array Keyed} {lo : Nat} (h : RunsUp rk p a) (hR : Runs p 0 lo) (e : ∀ i, i < lo → b[i]? = a[i]?) : RunsUp rk p b := fun r hr => by
  have := runs_in hR r hr
  exact (h r hr).congr fun i h1 h2 => e i (by lia)
theorem runs_apart : ∀ {l : List (Nat × Nat × Nat)} {s e i : Nat} {sa na pa sb nb pb : Nat}, Runs l s e → l[i]? = some (sa, na, pa) → l[i + 1]? = some (sb, nb, pb) → ∀ r ∈ (l.set i (sa, na + nb, pa)).eraseIdx (i + 1), r = (sa, na + nb, pa) ∨ (r ∈ l ∧ (r.1 + r.2.1 ≤ sa ∨ sa + na + nb ≤ r.1))
  | (a, n, p) :: (b, m, q) :: l, s, e, 0, sa, na, pa, sb, nb, pb, h, e1, e2, r, hr => by
    simp at e1 e2
    obtain ⟨rfl, rfl, rfl⟩ := e1
    obtain ⟨rfl, rfl, rfl⟩ := e2
    obtain ⟨h1, h2, h3, h4, h5⟩ := h
    simp at hr
    rcases hr with rfl | hr
    · exact .inl rfl
    · have := runs_in h5 r hr
      exact .inr ⟨by simp [hr], .inr (by lia)⟩
  | (a, n, p) :: l, s, e, i + 1, sa, na, pa, sb, nb, pb, h, e1, e2, r, hr => by
    simp at e1 e2
    obtain ⟨h1, h2, h3⟩ := h
    simp at hr
    have hin := runs_in h3 (sa, na, pa) (List.mem_of_getElem? e1)
    rcases hr with rfl | hr
    · refine .inr ⟨by simp, .inl ?_⟩
      have : s + n ≤ sa := hin.1
      show a + n ≤ sa
      lia
    · rcases runs_apart h3 e1 e2 r hr with h | ⟨h, h'⟩
      · exact .inl h
      · exact .inr ⟨by simp [h], h'⟩
  | [_], _, _, 0, _, _, _, _, _, _, _, _, e2, _, _ => by simp at e2
  | [], _, _, _, _, _, _, _, _, _, _, e1, _, _, _ => by simp at e1
theorem RunsUp.same {l l' : List (Nat × Nat × Nat)} {a : Array Keyed} (e : l'.map (fun x => (x.1, x.2.1)) = l.map (fun x => (x.1, x.2.1))) (h : RunsUp rk l a) : RunsUp rk l' a := fun r hr => by
  have : (r.1, r.2.1) ∈ l.map (fun x => (x.1, x.2.1)) := e ▸ List.mem_map.mpr ⟨r, hr, rfl⟩
  obtain ⟨x, hx, ex⟩ := List.mem_map.mp this
  have e1 : x.1 = r.1 := (Prod.mk.inj ex).1
  have e2 : x.2.1 = r.2.1 := (Prod.mk.inj ex).2
  rw [← e1, ← e2]
  exact h x hx
theorem RunsUp.snoc {l : List (Nat × Nat × Nat)} {a : Array Keyed} {lo n pw : Nat} (h : RunsUp rk l a) (u : UpR rk a lo n) : RunsUp rk (l ++ [(lo, n, pw)]) a := fun r hr => by
  rcases List.mem_append.mp hr with hr | hr
  · exact h r hr
  · rw [List.mem_singleton.mp hr]
    exact u
theorem merge_su {p : Array (Nat × Nat × Nat)} {st : SortSt} {i lo : Nat} {Q : Bool → SortSt → Prop} (h : AskR M A s κ rk ok) (o : Oks ok a₀) (hS : SP κ a₀ p st) (hR : Runs p.toList 0 lo) (hU : RunsUp rk p.toList (arrOf st)) (hlo : lo ≤ a₀.size) (hi : i + 1 < p.size)
    (q : ∀ p' st', SP κ a₀ p' st' → Runs p'.toList 0 lo → RunsUp rk p'.toList (arrOf st') → (∀ j, lo ≤ j → (arrOf st')[j]? = (arrOf st)[j]?) → p'.size + 1 = p.size → Q true st') : wpS M A E s (mergeAt' i) Q st := by
  obtain ⟨sa, na, pa, sb, nb, pb, e1, e2, e3, e4, e5, e6, e7⟩ := Runs.merge hR (by rw [Array.length_toList]; exact hi)
  have hz := hS.size
  have uA := hU _ (List.mem_of_getElem? e1)
  have uB := hU _ (List.mem_of_getElem? e2)
  have hap := runs_apart hR e1 e2
  refine merge_atR h hS.kind hS.fail (hS.oks o) (i := i) (sa := sa) (na := na) (pa := pa) (sb := sb) (nb := nb) (pb := pb) ?_ ?_ e3 e4 e5 (by lia) uA uB fun st' f1 f2 f3 f4 f5 f6 => ?_
  · rw [hS.pend]
    simpa using e1
  · rw [hS.pend]
    simpa using e2
  rw [hS.pend] at f4
  have eL : ((p.setIfInBounds i (sa, na + nb, pa)).eraseIdxIfInBounds (i + 1)).toList = (p.toList.set i (sa, na + nb, pa)).eraseIdx (i + 1) := by simp
  refine q _ st' ⟨f1, f3.trans hS.perm, f2, f4⟩ ?_ ?_ (fun j hj => f6 j (by lia)) ?_
  · rw [eL]
    exact e7
  · rw [eL]
    intro r hr
    rcases hap r hr with rfl | ⟨h1, h2⟩
    · exact f5
    · exact (hU r h1).congr fun j x y => f6 j (by lia)
  · have : ((p.setIfInBounds i (sa, na + nb, pa)).eraseIdxIfInBounds (i + 1)).size = p.size - 1 := by
      have := congrArg List.length eL
      rw [Array.length_toList, List.length_eraseIdx, List.length_set, Array.length_toList, if_pos hi] at this
      exact this
    lia
end
end RS


end
section
set_option Elab.async false
set_option linter.all false
set_option maxRecDepth 100000
set_option maxHeartbeats 4000000
namespace RS
open PySem PyProof.Rows
section
variable {M : Model} {A : Around} {E : Value → Shared → Prop} {s : Shared} {κ : SortKind} {ok : Value → Prop} {a₀ : Array Keyed} {rk : Value → Nat}
theorem runs_len : ∀ {l : List (Nat × Nat × Nat)} {s e : Nat}, Runs l s e → s + l.length ≤ e
  | [], s, e, h => Nat.le_of_eq h
  | (st, n, _) :: r, s, e, h => by
    have h3 := runs_len h.2.2
    have := h.2.1
    simp only [List.length_cons]
    lia
theorem runs_one {l : List (Nat × Nat × Nat)} {e : Nat} {a : Array Keyed} (h : Runs l 0 e) (h1 : l.length ≤ 1) (he : 1 ≤ e) (u : RunsUp rk l a) : UpR rk a 0 e := by
  match l, h, h1, u with
  | [], h, _, _ =>
    have h : 0 = e := h
    lia
  | [(st, n, pw)], h, _, u =>
    obtain ⟨h1, h2, h3⟩ := h
    have h3 : 0 + n = e := h3
    have := u (st, n, pw) (List.mem_singleton.mpr rfl)
    have e1 : st = 0 := h1
    have e2 : n = e := by lia
    subst e1 e2
    exact this
theorem runs_up {st : SortSt} {Q : Unit → SortSt → Prop} (h : AskR M A s κ rk ok) (o : Oks ok a₀) (hap : Apart rk a₀) (hS : SP κ a₀ #[] st) (h1 : 1 ≤ a₀.size) (q : ∀ st', failedOf st' = none → (arrOf st').toList.Perm a₀.toList → RSl rk (arrOf st').toList → Q () st') : wpS M A E s sortRuns' Q st := by
  rw [sortRuns'_eq]
  have hz := hS.size
  refine wpS_bind (wpS_get ?_)
  refine wpS_bind (wpS_mono (Q := fun c st' => c.1 = none ∧ c.2 = a₀.size ∧ ∃ p, SP κ a₀ p st' ∧ Runs p.toList 0 c.2 ∧ RunsUp rk p.toList (arrOf st')) (wpS_forRange (fun (x : Nat) (c : Option Unit × Nat) st' => c.1 = none ∧ c.2 ≤ a₀.size ∧ (c.2 = a₀.size ∨ x ≤ c.2) ∧ ∃ p, SP κ a₀ p st' ∧ Runs p.toList 0 c.2 ∧ RunsUp rk p.toList (arrOf st')) ?_ ?_ ⟨rfl, Nat.zero_le _, .inr (Nat.le_refl _), #[], hS, rfl, fun r hr => by cases hr⟩) ?_)
  · rintro x ⟨r, lo⟩ st' _ _ ⟨hr, hlo, hx, p, hS', hR, hU⟩
    have hr : r = none := hr
    subst hr
    have hlo : lo ≤ a₀.size := hlo
    have hx : lo = a₀.size ∨ x ≤ lo := hx
    have hR : Runs p.toList 0 lo := hR
    show wpS M A E s (if lo ≥ (arrOf st).size then _ else _) _ _
    by_cases hc : lo ≥ (arrOf st).size
    · rw [if_pos hc]
      exact wpS_pure ⟨rfl, by show lo = a₀.size; lia, p, hS', hR, hU⟩
    rw [if_neg hc]
    refine wpS_bind (count_up (b₀ := arrOf st') h o hap ⟨hS', fun _ _ => rfl⟩ (show lo + ((arrOf st).size - lo) ≤ a₀.size by lia) (show 1 ≤ (arrOf st).size - lo by lia) fun n st2 hn1 hn2 hS2 u2 => ?_)
    show wpS M A E s (if n < minRun' (arrOf st).size (arrOf st).size 0 then _ else _) _ _
    have hn2 : n ≤ (arrOf st).size - lo := hn2
    have hU2 : RunsUp rk p.toList (arrOf st2) := hU.frame hR hS2.fr
    by_cases hmr : n < minRun' (arrOf st).size (arrOf st).size 0
    · rw [if_pos hmr]
      refine wpS_bind (wpS_lift (wpAny_rule ⟨rfl, ?_⟩))
      refine wpS_bind (binary_up h o hS2 (show lo + min ((arrOf st).size - lo) (minRun' (arrOf st).size (arrOf st).size 0) ≤ a₀.size by lia) hn1 (by lia) u2 fun st3 hS3 u3 => ?_)
      have hU3 : RunsUp rk p.toList (arrOf st3) := hU.frame hR hS3.fr
      generalize minRun' (arrOf st).size (arrOf st).size 0 = mr at hmr u3
      refine wpS_bind (wpS_get ?_)
      split
      · refine wpS_bind (wpS_mono (Q := fun c st' => c.1 = none ∧ ∃ p, SP κ a₀ p st' ∧ Runs p.toList 0 lo ∧ RunsUp rk p.toList (arrOf st') ∧ UpR rk (arrOf st') lo (min ((arrOf st).size - lo) mr)) (wpS_forRange (fun (_ : Nat) (c : Option Unit × Unit) st' => c.1 = none ∧ ∃ p, SP κ a₀ p st' ∧ Runs p.toList 0 lo ∧ RunsUp rk p.toList (arrOf st') ∧ UpR rk (arrOf st') lo (min ((arrOf st).size - lo) mr)) ?_ ?_ ⟨rfl, p, hS3.sp, hR, hU3, u3⟩) ?_)
        · rintro y ⟨r, u⟩ st4 _ _ ⟨hr, p4, hS4, hR4, hU4, u4⟩
          refine wpS_bind (wpS_get ?_)
          dsimp only
          split
          · next heq =>
            have hgt : (pendingOf st4).size > 1 := by
              apply Classical.byContradiction
              intro z
              rw [if_neg z] at heq
              cases heq
            split
            · exact wpS_pure ⟨rfl, p4, hS4, hR4, hU4, u4⟩
            · rw [hS4.pend] at hgt ⊢
              refine wpS_bind (merge_su h o hS4 hR4 hU4 hlo (show p4.size - 2 + 1 < p4.size by lia) fun p5 st5 hS5 hR5 hU5 f5 _ => ?_)
              exact wpS_pure ⟨rfl, p5, hS5, hR5, hU5, u4.congr fun j x y => f5 j x⟩
          · exact wpS_pure ⟨rfl, p4, hS4, hR4, hU4, u4⟩
        · exact fun _ _ h => h
        rintro ⟨r, u⟩ st4 ⟨hr, p4, hS4, hR4, hU4, u4⟩
        have hr : r = none := hr
        subst hr
        refine wpS_bind (wpS_modify ?_)
        refine wpS_bind (wpS_modify (wpS_pure ?_))
        refine ⟨rfl, by show lo + (min ((arrOf st).size - lo) mr) ≤ a₀.size; lia, .inr (by show x + 1 ≤ lo + (min ((arrOf st).size - lo) mr); lia), _, ⟨hS4.kind, hS4.perm, hS4.fail, rfl⟩, ?_, ?_⟩
        · show Runs (Array.push (Array.modify (pendingOf st4) _ _) _).toList 0 (lo + (min ((arrOf st).size - lo) mr))
          rw [Array.toList_push, Array.toList_modify]
          refine Runs.snoc (by lia) (Runs.same map_modify ?_)
          rw [hS4.pend]
          exact hR4
        · show RunsUp rk (Array.push (Array.modify (pendingOf st4) _ _) _).toList (arrOf st4)
          rw [Array.toList_push, Array.toList_modify]
          refine RunsUp.snoc (RunsUp.same map_modify ?_) u4
          rw [hS4.pend]
          exact hU4
      · refine wpS_bind (wpS_modify (wpS_pure ?_))
        refine ⟨rfl, by show lo + (min ((arrOf st).size - lo) mr) ≤ a₀.size; lia, .inr (by show x + 1 ≤ lo + (min ((arrOf st).size - lo) mr); lia), _, ⟨hS3.sp.kind, hS3.sp.perm, hS3.sp.fail, rfl⟩, ?_, ?_⟩
        · show Runs (Array.push (pendingOf _) _).toList 0 (lo + (min ((arrOf st).size - lo) mr))
          rw [Array.toList_push, hS3.sp.pend]
          exact Runs.snoc (by lia) hR
        · show RunsUp rk (Array.push (pendingOf st3) _).toList (arrOf st3)
          rw [Array.toList_push, hS3.sp.pend]
          exact RunsUp.snoc hU3 u3
    · rw [if_neg hmr]
      refine wpS_bind (wpS_get ?_)
      split
      · refine wpS_bind (wpS_mono (Q := fun c st' => c.1 = none ∧ ∃ p, SP κ a₀ p st' ∧ Runs p.toList 0 lo ∧ RunsUp rk p.toList (arrOf st') ∧ UpR rk (arrOf st') lo (n)) (wpS_forRange (fun (_ : Nat) (c : Option Unit × Unit) st' => c.1 = none ∧ ∃ p, SP κ a₀ p st' ∧ Runs p.toList 0 lo ∧ RunsUp rk p.toList (arrOf st') ∧ UpR rk (arrOf st') lo (n)) ?_ ?_ ⟨rfl, p, hS2.sp, hR, hU2, u2⟩) ?_)
        · rintro y ⟨r, u⟩ st4 _ _ ⟨hr, p4, hS4, hR4, hU4, u4⟩
          refine wpS_bind (wpS_get ?_)
          dsimp only
          split
          · next heq =>
            have hgt : (pendingOf st4).size > 1 := by
              apply Classical.byContradiction
              intro z
              rw [if_neg z] at heq
              cases heq
            split
            · exact wpS_pure ⟨rfl, p4, hS4, hR4, hU4, u4⟩
            · rw [hS4.pend] at hgt ⊢
              refine wpS_bind (merge_su h o hS4 hR4 hU4 hlo (show p4.size - 2 + 1 < p4.size by lia) fun p5 st5 hS5 hR5 hU5 f5 _ => ?_)
              exact wpS_pure ⟨rfl, p5, hS5, hR5, hU5, u4.congr fun j x y => f5 j x⟩
          · exact wpS_pure ⟨rfl, p4, hS4, hR4, hU4, u4⟩
        · exact fun _ _ h => h
        rintro ⟨r, u⟩ st4 ⟨hr, p4, hS4, hR4, hU4, u4⟩
        have hr : r = none := hr
        subst hr
        refine wpS_bind (wpS_modify ?_)
        refine wpS_bind (wpS_modify (wpS_pure ?_))
        refine ⟨rfl, by show lo + (n) ≤ a₀.size; lia, .inr (by show x + 1 ≤ lo + (n); lia), _, ⟨hS4.kind, hS4.perm, hS4.fail, rfl⟩, ?_, ?_⟩
        · show Runs (Array.push (Array.modify (pendingOf st4) _ _) _).toList 0 (lo + (n))
          rw [Array.toList_push, Array.toList_modify]
          refine Runs.snoc (by lia) (Runs.same map_modify ?_)
          rw [hS4.pend]
          exact hR4
        · show RunsUp rk (Array.push (Array.modify (pendingOf st4) _ _) _).toList (arrOf st4)
          rw [Array.toList_push, Array.toList_modify]
          refine RunsUp.snoc (RunsUp.same map_modify ?_) u4
          rw [hS4.pend]
          exact hU4
      · refine wpS_bind (wpS_modify (wpS_pure ?_))
        refine ⟨rfl, by show lo + (n) ≤ a₀.size; lia, .inr (by show x + 1 ≤ lo + (n); lia), _, ⟨hS2.sp.kind, hS2.sp.perm, hS2.sp.fail, rfl⟩, ?_, ?_⟩
        · show Runs (Array.push (pendingOf _) _).toList 0 (lo + (n))
          rw [Array.toList_push, hS2.sp.pend]
          exact Runs.snoc (by lia) hR
        · show RunsUp rk (Array.push (pendingOf st2) _).toList (arrOf st2)
          rw [Array.toList_push, hS2.sp.pend]
          exact RunsUp.snoc hU2 u2
  · rintro ⟨r, lo⟩ st' ⟨hr, hlo, hx, p, hS', hR, hU⟩
    refine ⟨hr, ?_, p, hS', hR, hU⟩
    have hlo : lo ≤ a₀.size := hlo
    have hx : lo = a₀.size ∨ max 0 (arrOf st).size ≤ lo := hx
    show lo = a₀.size
    lia
  rintro ⟨r, lo⟩ st' ⟨hr, hlo, p, hS', hR, hU⟩
  have hr : r = none := hr
  subst hr
  have hlo : lo = a₀.size := hlo
  subst hlo
  have hR : Runs p.toList 0 a₀.size := hR
  have hpl : p.size ≤ a₀.size := by
    have := runs_len hR
    rw [Array.length_toList] at this
    lia
  refine wpS_bind (wpS_mono (Q := fun c st' => c.1 = none ∧ ∃ p, SP κ a₀ p st' ∧ Runs p.toList 0 a₀.size ∧ RunsUp rk p.toList (arrOf st') ∧ p.size ≤ 1) (wpS_forRange (fun (x : Nat) (c : Option Unit × Unit) st' => c.1 = none ∧ ∃ p, SP κ a₀ p st' ∧ Runs p.toList 0 a₀.size ∧ RunsUp rk p.toList (arrOf st') ∧ (p.size ≤ 1 ∨ p.size + x ≤ a₀.size)) ?_ ?_ ⟨rfl, p, hS', hR, hU, .inr (by lia)⟩) ?_)
  · rintro y ⟨r, u⟩ st4 _ _ ⟨hr, p4, hS4, hR4, hU4, hc4⟩
    refine wpS_bind (wpS_get ?_)
    show wpS M A E s (if (pendingOf st4).size ≤ 1 then _ else _) _ _
    by_cases hc : (pendingOf st4).size ≤ 1
    · rw [if_pos hc]
      rw [hS4.pend] at hc
      exact wpS_pure ⟨rfl, p4, hS4, hR4, hU4, hc⟩
    rw [if_neg hc]
    rw [hS4.pend] at hc ⊢
    refine wpS_bind (merge_su h o hS4 hR4 hU4 (Nat.le_refl _) ?_ fun p5 st5 hS5 hR5 hU5 _ hp5 => ?_)
    · (repeat' split) <;> lia
    · exact wpS_pure ⟨rfl, p5, hS5, hR5, hU5, by lia⟩
  · rintro ⟨r, u⟩ st4 ⟨hr, p4, hS4, hR4, hU4, hc4⟩
    have hc4 : p4.size ≤ 1 ∨ p4.size + max 0 (arrOf st).size ≤ a₀.size := hc4
    exact ⟨hr, p4, hS4, hR4, hU4, by lia⟩
  rintro ⟨r, u⟩ st4 ⟨hr, p4, hS4, hR4, hU4, hc4⟩
  have hr : r = none := hr
  subst hr
  have hu := runs_one hR4 (by rw [Array.length_toList]; exact hc4) h1 hU4
  refine wpS_pure (q _ hS4.fail hS4.perm ?_)
  have := hu.rsl
  rwa [List.drop_zero, ← hS4.size, ← Array.length_toList, List.take_length] at this
end
end RS


end
section
set_option Elab.async false
set_option linter.all false
set_option maxRecDepth 100000
set_option maxHeartbeats 4000000
namespace RS
open PySem PyProof.Rows
section
variable {prog : Program} {w : World} {A : Around} {E : Value → Shared → Prop} {s : Shared}
noncomputable def Row (h : Heap) (v : Value) : Prop := ∃ (a : Addr) (o : Obj) (bs : List Bool) (n : Nat), v = .ref a ∧ h.get? a = some o ∧ o.cls = .type "tuple" ∧ o.data = .seq (bs.map Value.bool).toArray n ∧ bs ≠ []
end
end RS


end
section
set_option Elab.async false
set_option linter.all false
set_option maxRecDepth 100000
set_option maxHeartbeats 4000000
namespace RS
open PySem PyProof.Rows
section
variable {prog : Program} {w : World} {A : Around} {E : Value → Shared → Prop} {s : Shared}
theorem rows_kind : ∀ {vs : List Value} {h : Heap}, (∀ v ∈ vs, Row h v) → ∃ fs, W.KatTups h vs fs ∧ fs.length = vs.length ∧ ∀ v ∈ fs, ∃ b, v = .bool b
  | [], h, _ => ⟨[], trivial, rfl, fun v hv => by (cases hv)⟩
  | v :: vs, h, hr => by
    obtain ⟨fs, h1, h2, h3⟩ := rows_kind (vs := vs) fun x hx => hr x (List.mem_cons_of_mem _ hx)
    obtain ⟨a, o, bs, n, rfl, g, c, d, ne⟩ := hr v (by simp)
    cases bs with
    | nil => exact absurd rfl ne
    | cons b bs =>
      refine ⟨.bool b :: fs, W.KatTups.cons g c d rfl h1, by simp [h2], fun x hx => ?_⟩
      rcases List.mem_cons.mp hx with e | e
      · exact ⟨b, e⟩
      · exact h3 x e
end
end RS


end
section
set_option Elab.async false
set_option linter.all false
set_option maxRecDepth 100000
set_option maxHeartbeats 4000000
namespace RS
open PySem PyProof.Rows
section
variable {prog : Program} {w : World} {A : Around} {E : Value → Shared → Prop} {s : Shared}
end
end RS


end
section
set_option Elab.async false
set_option linter.all false
set_option maxRecDepth 100000
set_option maxHeartbeats 4000000
namespace RS
open PySem PyProof.Rows
theorem sorted_kept {h : Heap} {vs : List Value} {out : Array Value} : (∀ b o, h.get? b = some o → (sortedAll h vs out).get? b = some o) ∧ ∃ n, (sortedAll h vs out).get? (h.objs.size + 1) = some (seqObj "list" out n) := by
  have hsize : ((h.push (seqObj "list" #[] 0)).update h.objs.size (Obj.mapSeq fun x => x ++ vs.toArray)).objs.size = h.objs.size + 1 := by
    rw [Heap.size_update, size_push']
  have hg := Heap.get?_push_size ((h.push (seqObj "list" #[] 0)).update h.objs.size (Obj.mapSeq fun x => x ++ vs.toArray)) (o := seqObj "list" vs.toArray 0) rfl
  rw [hsize] at hg
  have keep : ∀ b o, h.get? b = some o → ((h.push (seqObj "list" #[] 0)).update h.objs.size (Obj.mapSeq fun x => x ++ vs.toArray)).get? b = some o := fun b o g => by
    rw [Heap.get?_update_ne _ _ _ _ (Nat.ne_of_lt (Heap.lt_size g))]
    exact Heap.get?_push_of_some _ g
  unfold sortedAll sortedHeap
  refine ⟨fun b o g => ?_, ?_⟩
  · have hb : b ≠ h.objs.size + 1 := fun z => absurd (Nat.lt_succ_of_lt (Heap.lt_size g)) (by rw [z]; exact Nat.lt_irrefl _)
    rw [Heap.get?_update_ne _ _ _ _ hb]
    refine Heap.get?_push_of_some _ (Heap.get?_push_of_some _ ?_)
    rw [Heap.get?_update_ne _ _ _ _ hb]
    exact Heap.get?_push_of_some _ (keep b o g)
  · exact ⟨_, get?_update_seq (Heap.get?_push_of_some _ (Heap.get?_push_of_some _ (get?_update_seq hg fun _ => #[]))) fun _ => out⟩
theorem refs_perm {l : List Addr} {out : List Value} (h : out.Perm (l.map Value.ref)) : ∃ l' : List Addr, l'.Perm l ∧ out = l'.map Value.ref := by
  have h1 := h.map fun v => match v with | Value.ref a => a | _ => 0
  rw [List.map_map] at h1
  have e1 : (l.map ((fun v => match v with | Value.ref a => a | _ => 0) ∘ Value.ref)) = l := by
    conv => rhs; rw [← List.map_id l]
    rfl
  rw [e1] at h1
  refine ⟨_, h1, ?_⟩
  rw [List.map_map]
  conv => lhs; rw [← List.map_id out]
  refine List.map_congr_left fun v hv => ?_
  obtain ⟨a, _, rfl⟩ := List.mem_map.mp (h.mem_iff.mp hv)
  rfl
end RS
namespace L2
open PySem PySem.Spec PyProof.Rows
theorem vals_refs : ∀ {as : List Addr} {us : List Value}, Vals (as.map V.ref) us → us = as.map Value.ref
  | [], _, .nil => rfl
  | a :: as, _, .cons r rt => by
    have e : _ = Value.ref a := r
    rw [e, vals_refs rt]
    rfl
theorem refs_vals : ∀ (as : List Addr), Vals (as.map V.ref) (as.map Value.ref)
  | [] => .nil
  | a :: as => .cons rfl (refs_vals as)
section
variable {X : Cx}
end
end L2


end
section
set_option Elab.async false
set_option linter.all false
set_option maxRecDepth 100000
set_option maxHeartbeats 4000000
namespace RS
open PySem PyProof.Rows
noncomputable def rkB : List Bool → Nat
  | [] => 0
  | b :: bs => (if b = true then 2 ^ bs.length else 0) + rkB bs
theorem rkB_lt : ∀ bs : List Bool, rkB bs < 2 ^ bs.length
  | [] => by decide
  | b :: bs => by
    have := rkB_lt bs
    simp only [rkB, List.length_cons, Nat.pow_succ]
    split <;> lia
theorem rkB_inj : ∀ {ps qs : List Bool}, ps.length = qs.length → rkB ps = rkB qs → ps = qs
  | [], [], _, _ => rfl
  | [], _ :: _, h, _ => by simp at h
  | _ :: _, [], h, _ => by simp at h
  | p :: ps, q :: qs, h, e => by
    have hl : ps.length = qs.length := by simpa using h
    have h1 := rkB_lt ps
    have h2 := rkB_lt qs
    simp only [rkB, hl] at e
    rw [hl] at h1
    cases p <;> cases q <;> simp at e
    · rw [rkB_inj hl e]
    · lia
    · lia
    · rw [rkB_inj hl e]
noncomputable def rkV (h : Heap) (v : Value) : Nat := match v with
  | .ref a => match h.get? a with
    | some o => match o.data with
      | .seq xs _ => rkB (xs.toList.map fun v => match v with | .bool b => b | _ => false)
      | _ => 0
    | none => 0
  | _ => 0
theorem bools_back (bs : List Bool) : ((bs.map Value.bool).toArray.toList.map fun v => match v with | .bool b => b | _ => false) = bs := by
  rw [List.map_map]
  conv => rhs; rw [← List.map_id bs]
  rfl
noncomputable def RowN (h : Heap) (n : Nat) (v : Value) (bs : List Bool) : Prop := bs.length = n ∧ ∃ (a : Addr) (o : Obj) (k : Nat), v = .ref a ∧ h.get? a = some o ∧ o.cls = .type "tuple" ∧ o.data = .seq (bs.map Value.bool).toArray k
theorem RowN.rk {h : Heap} {n : Nat} {v : Value} {bs : List Bool} (r : RowN h n v bs) : rkV h v = rkB bs := by
  obtain ⟨_, a, o, k, rfl, g, _, d⟩ := r
  unfold rkV
  simp only [g, d]
  rw [bools_back]
theorem RowN.mono {h h' : Heap} {n : Nat} {v : Value} {bs : List Bool} (k : ∀ b o, h.get? b = some o → o.cls = .type "tuple" → h'.get? b = some o) (r : RowN h n v bs) : RowN h' n v bs := by
  obtain ⟨l, a, o, m, e, g, c, d⟩ := r
  exact ⟨l, a, o, m, e, k a o g c, c, d⟩
theorem RowN.row {h : Heap} {n : Nat} {v : Value} {bs : List Bool} (hn : 1 ≤ n) (r : RowN h n v bs) : Row h v := by
  obtain ⟨l, a, o, m, e, g, c, d⟩ := r
  exact ⟨a, o, bs, m, e, g, c, d, fun z => by rw [z] at l; simp at l; lia⟩
section
variable {prog : Program} {w : World} {A : Around} {E : Value → Shared → Prop} {s : Shared}
theorem oneLt_rk {t p q : Bool} {R : Bool → Shared → Prop} (h : R (!p && q) s) : wpAny (model prog w) A (oneLt' t (.bool p) (.bool q)) R E s := by
  rw [oneLt'_eq]
  cases t with
  | true =>
    refine wpAny_bind (wpAny_cRoomFor_byValue rfl ?_)
    refine wpAny_bind (wpAny_callSpecialIfBound?_slot (T := "bool") (by exact rfl) PySem.F.slot_bool_lt ?_)
    refine call_gives PySem.F.slot_bool_lt (by exact rfl) PySem.F.entry_int_lt (PySem.F.args_int_lt_2 _ _) (gives_int_lt_bools p q) ?_
    exact wpAny_truthy_bool (by cases p <;> cases q <;> exact h)
  | false =>
    exact wpAny_bind (lt_bool (p := p) (q := q) (wpAny_truthy_bool (by cases p <;> cases q <;> exact h)))
theorem lex_rk {Q : Bool → Shared → Prop} : ∀ (ps qs : List Bool) (i : Nat), ps.length = qs.length → Q (decide (rkB ps < rkB qs)) s → W.KatLex prog w A true false Q ((ps.map Value.bool).zip (qs.map Value.bool)) i s
  | [], [], i, _, q => q
  | [], _ :: _, i, h, q => by simp at h
  | _ :: _, [], i, h, q => by simp at h
  | p :: ps, r :: qs, i, h, q => by
    have hl : ps.length = qs.length := by simpa using h
    have h1 := rkB_lt ps
    have h2 := rkB_lt qs
    rw [hl] at h1
    refine W.kat_cons (SeqAt.EqAt.bool_bool p r prog w _ _ ?_)
    cases e : (p == r) with
    | true =>
      refine lex_rk ps qs (i + 1) hl ?_
      have e : p = r := by simpa using e
      subst e
      have : decide (rkB (p :: ps) < rkB (p :: qs)) = decide (rkB ps < rkB qs) := by
        simp only [rkB, hl]
        apply decide_eq_decide.mpr
        lia
      rwa [this] at q
    | false =>
      refine W.kat_no (oneLt_rk ?_)
      have : decide (rkB (p :: ps) < rkB (r :: qs)) = (!p && r) := by
        simp only [rkB, hl]
        cases p <;> cases r <;> simp at e ⊢ <;> lia
      rwa [this] at q
theorem ask_rk {n : Nat} : AskR (model prog w) A s (tuples' true) (rkV s.heap) (fun v => ∃ bs, RowN s.heap n v bs) := by
  rintro x y ⟨ba, ra⟩ ⟨bb, rb⟩ R E q
  rw [ra.rk, rb.rk] at q
  obtain ⟨la, a, oa, na, rfl, ha, ca, da⟩ := ra
  obtain ⟨lb, b, ob, nb, rfl, hb, cb, db⟩ := rb
  refine W.kat_lt ha da hb db ?_
  have e : decide ((ba.map Value.bool).toArray.size < (bb.map Value.bool).toArray.size) = false := by
    simp [la, lb]
  rw [e]
  exact lex_rk ba bb 0 (by lia) q
end
end RS


end
section
set_option Elab.async false
set_option linter.all false
set_option maxRecDepth 100000
set_option maxHeartbeats 4000000
namespace RS
open PySem PyProof.Rows
theorem pw_short {α : Type} {R : α → α → Prop} : ∀ {l : List α}, l.length < 2 → l.Pairwise R
  | [], _ => .nil
  | [x], _ => List.pairwise_singleton _ _
  | _ :: _ :: _, h => by simp at h; lia
section
variable {prog : Program} {w : World} {A : Around} {E : Value → Shared → Prop} {s : Shared}
theorem sort_rowsR {N : Nat} {a : Addr} {vs : List Value} {n : Nat} {P : PySem.Fin → Shared → Prop} (ha : s.heap.get? a = some (seqObj "list" vs.toArray n)) (hR : ∀ v ∈ vs, ∃ bs, RowN s.heap N v bs) (hN : 1 ≤ N) (hap : (vs.map (rkV s.heap)).Nodup) (hz : vs.length ≤ 1000) (hne : vs ≠ [])
    (q : ∀ out : Array Value, out.toList.Perm vs → out.toList.Pairwise (fun x y => rkV s.heap x ≤ rkV s.heap y) → P (.done (.ret .none)) { s with heap := sortedHeap s.heap a vs out }) : wpAny (model prog w) A (Builtin.«list.sort» { pos := [.ref a] }) P E s := by
  rw [list_sort_plain]
  have hsz : vs.toArray.size ≤ sizeLine := by
    have : sizeLine = 16777216 := sizeLine_eq
    rw [List.size_toArray]
    lia
  refine wpAny_bind (listItems_at ha rfl ?_)
  refine wpAny_bind (listUpdate_at ha rfl ?_ hsz (by simp))
  have ha1 := get?_update_seq ha (fun _ => #[])
  refine wpAny_bind (seqEpoch_at ha1 rfl ?_)
  obtain ⟨v0, vs0, rfl⟩ : ∃ v0 vs0, vs = v0 :: vs0 := by
    cases vs with
    | nil => exact absurd rfl hne
    | cons v0 vs0 => exact ⟨v0, vs0, rfl⟩
  refine wpAny_bind (wpAny_newObj_type ?_)
  refine wpAny_bind (wpAny_newObj_type ?_)
  refine wpAny_holding ?_
  have hget2 : (((s.heap.update a (Obj.mapSeq fun x => #[])).push { cls := .type "tuple", dict := none, data := .seq (v0 :: vs0).toArray.toList.toArray }).push { cls := .type "list", dict := none, data := .seq ([] : List Value).toArray }).get? a = some (seqObj "list" #[] (if ((#[] : Array Value).size == (v0 :: vs0).toArray.size) = true then n else n + 1)) := Heap.get?_push_of_some _ (Heap.get?_push_of_some _ ha1)
  have kp : ∀ b o, s.heap.get? b = some o → o.cls = .type "tuple" → (((s.heap.update a (Obj.mapSeq fun x => #[])).push { cls := .type "tuple", dict := none, data := .seq (v0 :: vs0).toArray.toList.toArray }).push { cls := .type "list", dict := none, data := .seq ([] : List Value).toArray }).get? b = some o := fun b o g c => by
    have hb : b ≠ a := fun z => by
      rw [z, ha] at g
      cases g
      exact absurd (Value.type.inj c) (by decide)
    refine Heap.get?_push_of_some _ (Heap.get?_push_of_some _ ?_)
    rw [Heap.get?_update_ne _ _ _ _ hb]
    exact g
  generalize hh : ((s.heap.update a (Obj.mapSeq fun x => #[])).push { cls := .type "tuple", dict := none, data := .seq (v0 :: vs0).toArray.toList.toArray }).push { cls := .type "list", dict := none, data := .seq ([] : List Value).toArray } = h2 at hget2 kp
  have hR2 : ∀ v ∈ v0 :: vs0, ∃ bs, RowN h2 N v bs := fun v hv => by
    obtain ⟨bs, r⟩ := hR v hv
    exact ⟨bs, r.mono kp⟩
  have hrk : ∀ v ∈ v0 :: vs0, rkV h2 v = rkV s.heap v := fun v hv => by
    obtain ⟨bs, r⟩ := hR v hv
    rw [r.rk, (r.mono kp).rk]
  show wpAny (model prog w) A (if (v0 :: vs0).toArray.size < 2 then _ else _) P E _
  by_cases hlt : (v0 :: vs0).toArray.size < 2
  · rw [if_pos hlt]
    refine wpAny_bind (wpAny_pure ?_)
    rw [if_pos hlt]
    refine wpAny_bind (wpAny_pure ?_)
    have hp : (arrOf (SortSt.mk' general' ((v0 :: vs0).toArray.zip (v0 :: vs0).toArray) #[] 7 none)).toList.Perm ((v0 :: vs0).toArray.zip (v0 :: vs0).toArray).toList := List.Perm.refl _
    have hf : failedOf (SortSt.mk' general' ((v0 :: vs0).toArray.zip (v0 :: vs0).toArray) #[] 7 none) = none := rfl
    generalize SortSt.mk' general' ((v0 :: vs0).toArray.zip (v0 :: vs0).toArray) #[] 7 none = st at hp hf
    refine wpAny_bind (seqEpoch_at hget2 rfl ?_)
    refine wpAny_bind (listUpdate_at hget2 rfl ?_ (by simp) (by
      have e := hp.length_eq
      rw [Array.length_toList, Array.length_toList, Array.size_zip, Nat.min_self] at e
      rw [Array.size_map, e]
      lia))
    rw [hf, if_neg (by simp)]
    refine wpAny_pure ?_
    rw [← hh]
    have hlen := hp.length_eq
    refine q _ ?_ ?_
    · have h1 := hp.map Prod.snd
      rw [Array.toList_map]
      refine h1.trans ?_
      rw [Array.toList_zip, List.map_snd_zip (Nat.le_refl _)]
    · apply pw_short
      rw [Array.toList_map, List.length_map, hlen, Array.length_toList, Array.size_zip, Nat.min_self]
      lia
  · rw [if_neg hlt]
    obtain ⟨fs, k1, k2, k3⟩ := rows_kind (fun v hv => by obtain ⟨bs, r⟩ := hR2 v hv; exact r.row hN)
    refine wpAny_bind (W.kat_kind (T := .type "bool") k1 (by rw [k2]; simp) (fun v hv => ?_) (by decide) ?_)
    · obtain ⟨b, rfl⟩ := k3 v hv
      exact fun A Q E s _ q => wpAny_pure q
    rw [if_neg hlt]
    have oks : Oks (fun v => ∃ bs, RowN h2 N v bs) ((v0 :: vs0).toArray.zip (v0 :: vs0).toArray) := fun x hx => by
      have h1 : x ∈ ((v0 :: vs0).zip (v0 :: vs0)) := by
        have := Array.mem_toList_iff.mpr hx
        rwa [Array.toList_zip] at this
      exact hR2 x.1 (List.of_mem_zip h1).1
    have apart : Apart (rkV h2) ((v0 :: vs0).toArray.zip (v0 :: vs0).toArray) := by
      unfold Apart
      rw [Array.toList_zip]
      have e1 : (((v0 :: vs0).zip (v0 :: vs0)).map fun x => rkV h2 x.1) = (v0 :: vs0).map (rkV s.heap) := by
        have : (((v0 :: vs0).zip (v0 :: vs0)).map fun x => rkV h2 x.1) = (((v0 :: vs0).zip (v0 :: vs0)).map Prod.fst).map (rkV h2) := by rw [List.map_map]; rfl
        rw [this, List.map_fst_zip (Nat.le_refl _)]
        exact List.map_congr_left hrk
      show ((((v0 :: vs0).zip (v0 :: vs0)).map fun x => rkV h2 x.1)).Nodup
      rw [e1]
      exact hap
    have key := runs_up (M := model prog w) (A := A) (E := E) (s := { s with heap := h2 }) (κ := tuples' true) (rk := rkV h2) (ok := fun v => ∃ bs, RowN h2 N v bs) (a₀ := (v0 :: vs0).toArray.zip (v0 :: vs0).toArray) (st := SortSt.mk' (tuples' true) ((v0 :: vs0).toArray.zip (v0 :: vs0).toArray) #[] 7 none)
      (Q := fun _ st' => failedOf st' = none ∧ (arrOf st').toList.Perm ((v0 :: vs0).toArray.zip (v0 :: vs0).toArray).toList ∧ RSl (rkV h2) (arrOf st').toList) ask_rk oks apart ⟨rfl, List.Perm.refl _, rfl, rfl⟩ (by rw [Array.size_zip, Nat.min_self, List.size_toArray]; simp) (fun st' a b c => ⟨a, b, c⟩)
    refine wpAny_bind (wpAny_mono key ?_ fun _ _ z => z)
    rintro ⟨u, st⟩ s' ⟨hs', hf, hp, hup⟩
    have hf : failedOf st = none := hf
    subst hs'
    refine wpAny_bind (seqEpoch_at hget2 rfl ?_)
    refine wpAny_bind (listUpdate_at hget2 rfl ?_ (by simp) (by
      have e := hp.length_eq
      rw [Array.length_toList, Array.length_toList, Array.size_zip, Nat.min_self] at e
      rw [Array.size_map, e]
      lia))
    rw [hf, if_neg (by simp)]
    refine wpAny_pure ?_
    rw [← hh]
    have hp : (arrOf st).toList.Perm ((v0 :: vs0).zip (v0 :: vs0)) := by
      rw [Array.toList_zip] at hp
      exact hp
    have hup : RSl (rkV h2) (arrOf st).toList := hup
    refine q _ ?_ ?_
    · have h1 := hp.map Prod.snd
      rw [Array.toList_map]
      refine h1.trans ?_
      rw [List.map_snd_zip (Nat.le_refl _)]
    · rw [Array.toList_map, List.pairwise_map]
      refine List.Pairwise.imp_of_mem (fun {x y} hx hy hxy => ?_) hup
      have ex := mem_zip_self (hp.mem_iff.mp hx)
      have ey := mem_zip_self (hp.mem_iff.mp hy)
      have e1 := hrk x.1 ex.2
      have e2 := hrk y.1 ey.2
      rw [← ex.1, ← ey.1, ← e1, ← e2]
      exact hxy
theorem sorted_rowsR {N : Nat} {l : Addr} {vs : List Value} {Q : Value → Shared → Prop} (hl : s.heap.IsList l vs.toArray) (hR : ∀ v ∈ vs, ∃ bs, RowN s.heap N v bs) (hN : 1 ≤ N) (hap : (vs.map (rkV s.heap)).Nodup) (hz : vs.length ≤ 1000)
    (q : ∀ out : Array Value, out.toList.Perm vs → out.toList.Pairwise (fun x y => rkV s.heap x ≤ rkV s.heap y) → Q (.ref (s.heap.objs.size + 1)) { s with heap := sortedAll s.heap vs out }) : wpAny (model prog w) A (call (.builtin "sorted") [.ref l]) Q E s := by
  by_cases hne : vs = []
  · subst hne
    refine sorted_ints hl (ns := []) .nil (by decide) fun out ns' h1 h2 h3 => ?_
    have e1 : ns' = [] := List.perm_nil.mp h2
    subst e1
    have e2 : out.toList = [] := by
      cases e : out.toList with
      | nil => rfl
      | cons x l => rw [e] at h1; cases h1
    exact q out (by rw [e2]) (by rw [e2]; exact .nil)
  have hsz : vs.length ≤ sizeLine := by
    have : sizeLine = 16777216 := sizeLine_eq
    lia
  refine Calls.call_function_entry kind_sorted plain_sorted entry_sorted (args_sorted1 _) ?_
  refine wpAny_bind ?_
  refine wpAny_pure ?_
  refine wpAny_bind (collect_list hl ?_ hsz)
  refine wpAny_bind (wpAny_newObj_type ?_)
  have hsize : ((s.heap.push (seqObj "list" #[] 0)).update s.heap.objs.size (Obj.mapSeq fun x => x ++ vs.toArray)).objs.size = s.heap.objs.size + 1 := by
    rw [Heap.size_update, size_push']
  have keep : ∀ b o, s.heap.get? b = some o → ((s.heap.push (seqObj "list" #[] 0)).update s.heap.objs.size (Obj.mapSeq fun x => x ++ vs.toArray)).get? b = some o := fun b o g => by
    rw [Heap.get?_update_ne _ _ _ _ (Nat.ne_of_lt (Heap.lt_size g))]
    exact Heap.get?_push_of_some _ g
  have hg := Heap.get?_push_size ((s.heap.push (seqObj "list" #[] 0)).update s.heap.objs.size (Obj.mapSeq fun x => x ++ vs.toArray)) (o := seqObj "list" vs.toArray 0) rfl
  refine wpAny_bind (wpAny_holding (wpAny_call_entry slot_list_sort ?_ entry_list_sort ?_ (args_list_sort _)))
  · refine Heap.IsList.typeIs (items := vs.toArray) ⟨_, hg, ?_⟩
    exact ⟨rfl, _, rfl⟩
  · have mk : ∀ v ∈ vs, ∃ bs, RowN (((s.heap.push (seqObj "list" #[] 0)).update s.heap.objs.size (Obj.mapSeq fun x => x ++ vs.toArray)).push (seqObj "list" vs.toArray 0)) N v bs ∧ RowN s.heap N v bs := fun v hv => by
      obtain ⟨bs, r⟩ := hR v hv
      exact ⟨bs, r.mono fun b o g _ => Heap.get?_push_of_some _ (keep b o g), r⟩
    have erk : ∀ v ∈ vs, rkV (((s.heap.push (seqObj "list" #[] 0)).update s.heap.objs.size (Obj.mapSeq fun x => x ++ vs.toArray)).push (seqObj "list" vs.toArray 0)) v = rkV s.heap v := fun v hv => by
      obtain ⟨bs, r1, r2⟩ := mk v hv
      rw [r1.rk, r2.rk]
    refine sort_rowsR hg (fun v hv => by obtain ⟨bs, r1, _⟩ := mk v hv; exact ⟨bs, r1⟩) hN (by rw [List.map_congr_left erk]; exact hap) hz hne fun out hp hpw => ?_
    refine ⟨_, rfl, wpAny_pure ⟨_, rfl, ?_⟩⟩
    have := q out hp (List.Pairwise.imp_of_mem (fun {x y} hx hy hxy => by
      rw [erk x (hp.mem_iff.mp hx), erk y (hp.mem_iff.mp hy)] at hxy
      exact hxy) hpw)
    unfold sortedAll at this
    rw [← hsize] at this
    exact this
end
end RS


end
section
set_option Elab.async false
set_option linter.all false
set_option maxRecDepth 100000
set_option maxHeartbeats 4000000
namespace L2
open PySem PySem.Spec PyProof.Rows RR
noncomputable def rowOf (H : Hp) (a : Addr) : List Bool := match H a with
  | some (.tup vs) => vs.map fun v => match v with | .bl b => b | _ => false
  | _ => []
theorem rowOf_at {H : Hp} {a : Addr} {s : List Bool} (h : BAt H a s) : rowOf H a = s := by
  unfold BAt at h
  unfold rowOf
  rw [h]
  simp only [List.map_map]
  conv => rhs; rw [← List.map_id s]
  rfl
theorem rows_refs {H : Hp} : ∀ {ss : List (List Bool)} {us : List V}, RowsAt' H ss us → ∃ as : List Addr, us = as.map V.ref ∧ ss = as.map (rowOf H) ∧ ∀ a ∈ as, BAt H a (rowOf H a)
  | _, _, .nil => ⟨[], rfl, rfl, fun a h => absurd h (List.not_mem_nil)⟩
  | _, _, .cons (a := s) ⟨a, e, h⟩ t => by
    obtain ⟨as, rfl, rfl, hs⟩ := rows_refs t
    refine ⟨a :: as, by rw [e]; rfl, by rw [List.map_cons, rowOf_at h], fun b hb => ?_⟩
    rcases List.mem_cons.mp hb with rfl | hb
    · rw [rowOf_at h]
      exact h
    · exact hs b hb
theorem rows_of_refs {H : Hp} : ∀ {as : List Addr}, (∀ a ∈ as, BAt H a (rowOf H a)) → RowsAt' H (as.map (rowOf H)) (as.map V.ref)
  | [], _ => .nil
  | a :: as, h => .cons ⟨a, rfl, h a (by simp)⟩ (rows_of_refs fun b hb => h b (by simp [hb]))
theorem nodup_of_map' {α β : Type} {f : α → β} : ∀ {l : List α}, (l.map f).Nodup → l.Nodup
  | [], _ => List.nodup_nil
  | x :: l, h => by
    rw [List.map_cons, List.nodup_cons] at h
    rw [List.nodup_cons]
    exact ⟨fun z => h.1 (List.mem_map.mpr ⟨x, z, rfl⟩), nodup_of_map' h.2⟩
theorem nodup_map_on {α β : Type} {f : α → β} : ∀ {l : List α}, l.Nodup → (∀ x ∈ l, ∀ y ∈ l, f x = f y → x = y) → (l.map f).Nodup
  | [], _, _ => List.nodup_nil
  | x :: l, h, hi => by
    rw [List.nodup_cons] at h
    rw [List.map_cons, List.nodup_cons]
    refine ⟨fun z => ?_, nodup_map_on h.2 fun a ha b hb => hi a (by simp [ha]) b (by simp [hb])⟩
    obtain ⟨y, hy, e⟩ := List.mem_map.mp z
    have := hi y (by simp [hy]) x (by simp) e
    exact h.1 (this ▸ hy)
section
variable {X : Cx}
theorem call_sortedR {K : PySem.W.Frag} (hK : X.K = K) : CallR X (.builtin "sorted") (fun xs H Q => ∃ (p : Addr) (us : List V) (ss : List (List Bool)) (n : Nat), xs = [.ref p] ∧ SqL K H p us ∧ RowsAt' H ss us ∧ ss.Nodup ∧ (∀ s ∈ ss, s.length = n) ∧ 1 ≤ n ∧ ss.length ≤ 1000 ∧
    ∀ (D : Addr) (us' : List V) (ss' : List (List Bool)), H D = none → ss'.Perm ss → ss'.Pairwise (fun x y => RS.rkB x ≤ RS.rkB y) → RowsAt' H ss' us' → Q (.ref D) (upd H D (.lst us'))) := by
  subst hK
  intro pins s σ H xs us Q I r q
  obtain ⟨p, vs, ss, n, rfl, hS, hR, hnd, hln, hn1, hz, q⟩ := q
  obtain ⟨u, rfl, r1⟩ := r.one
  cases r1
  obtain ⟨as, rfl, rfl, hA⟩ := rows_refs hR
  rw [List.length_map] at hz
  obtain ⟨its, rv, pl, hz'⟩ := I.list hS
  obtain rfl := vals_refs rv
  have row : ∀ a ∈ as, RS.RowN s.heap n (.ref a) (rowOf H a) := fun a ha => by
    obtain ⟨_, its, rv2, ht⟩ := I.hok a _ (hA a ha)
    obtain rfl := vals_bools rv2
    obtain ⟨o, ho, hc, k, hd⟩ := ht
    exact ⟨hln _ (List.mem_map.mpr ⟨a, ha, rfl⟩), a, o, k, rfl, ho, hc, hd⟩
  have erk : ∀ a ∈ as, RS.rkV s.heap (.ref a) = RS.rkB (rowOf H a) := fun a ha => (row a ha).rk
  have hap : ((as.map Value.ref).map (RS.rkV s.heap)).Nodup := by
    rw [List.map_map]
    refine nodup_map_on (nodup_of_map' hnd) fun x hx y hy e => ?_
    have e : RS.rkV s.heap (.ref x) = RS.rkV s.heap (.ref y) := e
    rw [erk x hx, erk y hy] at e
    have e2 := RS.rkB_inj (by rw [hln _ (List.mem_map.mpr ⟨x, hx, rfl⟩), hln _ (List.mem_map.mpr ⟨y, hy, rfl⟩)]) e
    apply Classical.byContradiction
    intro ne
    have h2 : ∀ (l : List Addr), (l.map (rowOf H)).Nodup → x ∈ l → y ∈ l → x = y := by
      intro l
      induction l with
      | nil => intro _ h; cases h
      | cons z l ih =>
        intro hd hx hy
        rw [List.map_cons, List.nodup_cons] at hd
        rcases List.mem_cons.mp hx with e | hx'
        · rcases List.mem_cons.mp hy with e' | hy'
          · exact e.trans e'.symm
          · exact absurd (List.mem_map.mpr ⟨y, hy', by rw [← e2, e]⟩) hd.1
        · rcases List.mem_cons.mp hy with e' | hy'
          · exact absurd (List.mem_map.mpr ⟨x, hx', by rw [e2, e']⟩) hd.1
          · exact ih hd.2 hx' hy'
    exact ne (h2 as hnd hx hy)
  refine RS.sorted_rowsR pl.isList (N := n) (fun v hv => ?_) hn1 hap (by rw [List.length_map]; exact hz) fun out hp hpw => ?_
  · obtain ⟨a, ha, rfl⟩ := List.mem_map.mp hv
    exact ⟨_, row a ha⟩
  obtain ⟨as', hp', eo⟩ := RS.refs_perm hp
  obtain ⟨k1, m, k2⟩ := RS.sorted_kept (h := s.heap) (vs := as.map Value.ref) (out := out)
  have hn : H (s.heap.objs.size + 1) = none := I.hok.fresh (Nat.le_succ _)
  have hpw' : (as'.map (rowOf H)).Pairwise (fun x y => RS.rkB x ≤ RS.rkB y) := by
    rw [eo, List.pairwise_map] at hpw
    rw [List.pairwise_map]
    refine List.Pairwise.imp_of_mem (fun {x y} hx hy hxy => ?_) hpw
    rw [erk x (hp'.mem_iff.mp hx), erk y (hp'.mem_iff.mp hy)] at hxy
    exact hxy
  refine ⟨.ref (s.heap.objs.size + 1), _, I.laid (t' := s.toks) (o := .lst (as'.map V.ref)) k1 (Nat.le_succ _) ?_, rfl, q _ (as'.map V.ref) (as'.map (rowOf H)) hn (hp'.map _) hpw' (rows_of_refs fun a ha => hA a (hp'.mem_iff.mp ha))⟩
  refine ⟨?_, as'.map Value.ref, m, refs_vals as', ?_⟩
  · rw [List.length_map, hp'.length_eq]
    exact Nat.le_of_lt (small1000 hz)
  · rw [k2, ← eo]
end
theorem sorted_same {n : Nat} : ∀ {a b : List (List Bool)}, a.Perm b → (∀ s ∈ a, s.length = n) → a.Pairwise (fun x y => RS.rkB x ≤ RS.rkB y) → b.Pairwise (fun x y => RS.rkB x ≤ RS.rkB y) → a = b
  | [], b, hp, _, _, _ => (List.nil_perm.mp hp).symm
  | x :: a, [], hp, _, _, _ => absurd hp.symm.length_eq (by simp)
  | x :: a, y :: b, hp, hl, ha, hb => by
    rw [List.pairwise_cons] at ha hb
    have hx : x ∈ y :: b := hp.mem_iff.mp (by simp)
    have hy : y ∈ x :: a := hp.mem_iff.mpr (by simp)
    have h1 : RS.rkB x ≤ RS.rkB y := by
      rcases List.mem_cons.mp hy with e | hy
      · rw [e]; exact Nat.le_refl _
      · exact ha.1 y hy
    have h2 : RS.rkB y ≤ RS.rkB x := by
      rcases List.mem_cons.mp hx with e | hx
      · rw [e]; exact Nat.le_refl _
      · exact hb.1 x hx
    have e : x = y := RS.rkB_inj (by rw [hl x (by simp), hl y hy]) (by lia)
    subst e
    rw [sorted_same (List.Perm.cons_inv hp) (fun s hs => hl s (by simp [hs])) ha.2 hb.2]
end L2


end
section
set_option Elab.async false
set_option linter.all false
set_option maxRecDepth 100000
set_option maxHeartbeats 4000000
namespace RR
open PySem PySem.W L2
theorem pi_listK {X : Cx} {K : PySem.W.Frag} {tg : Expr} {l : Expr} {tl : TE} (h : X.K = K) (hl : PE X l tl) : PI X tg l (iList K tl) := h ▸ pi_list hl
theorem pi_tupK {X : Cx} {K : PySem.W.Frag} {tg : Expr} {l : Expr} {tl : TE} (h : X.K = K) (hl : PE X l tl) : PI X tg l (iTup K tl) := h ▸ pi_tup hl
noncomputable def Wd.shift (R B : Int) : Wd → Wd
  | .relay k => .relay (k + R)
  | .button k => .button (k + B)
  | .nt a => .nt (a.shift R B)
  | .an a b => .an (a.shift R B) (b.shift R B)
  | .or a b => .or (a.shift R B) (b.shift R B)
  | w => w
theorem shift_depth {R B : Int} : ∀ w : Wd, (w.shift R B).depth = w.depth
  | .on => rfl
  | .off => rfl
  | .relay _ => rfl
  | .button _ => rfl
  | .nt a => by show (a.shift R B).depth + 1 = a.depth + 1; rw [shift_depth a]
  | .an a b => by show max (a.shift R B).depth (b.shift R B).depth + 1 = max a.depth b.depth + 1; rw [shift_depth a, shift_depth b]
  | .or a b => by show max (a.shift R B).depth (b.shift R B).depth + 1 = max a.depth b.depth + 1; rw [shift_depth a, shift_depth b]
theorem shift_ok {R B R1 B1 : Int} (hR : 0 ≤ R1) (hB : 0 ≤ B1) : ∀ {w : Wd}, w.ok R B → (w.shift R1 B1).ok (R1 + R) (B1 + B)
  | .on, h => trivial
  | .off, h => trivial
  | .relay k, h => ⟨by have := h.1; lia, by have := h.2; lia⟩
  | .button k, h => ⟨by have := h.1; lia, by have := h.2; lia⟩
  | .nt a, h => shift_ok hR hB (w := a) h
  | .an a b, h => ⟨shift_ok hR hB h.1, shift_ok hR hB h.2⟩
  | .or a b, h => ⟨shift_ok hR hB h.1, shift_ok hR hB h.2⟩
theorem ok_more {R B R1 B1 : Int} (hR : 0 ≤ R1) (hB : 0 ≤ B1) : ∀ {w : Wd}, w.ok R B → w.ok (R + R1) (B + B1)
  | .on, h => trivial
  | .off, h => trivial
  | .relay k, h => ⟨h.1, by have := h.2; lia⟩
  | .button k, h => ⟨h.1, by have := h.2; lia⟩
  | .nt a, h => ok_more hR hB (w := a) h
  | .an a b, h => ⟨ok_more hR hB h.1, ok_more hR hB h.2⟩
  | .or a b, h => ⟨ok_more hR hB h.1, ok_more hR hB h.2⟩
theorem getD_left {a b : List Bool} {k : Nat} (h : k < a.length) : (a ++ b).getD k false = a.getD k false := by
  simp [List.getElem?_append_left h]
theorem getD_right {a b : List Bool} {k : Nat} : (a ++ b).getD (a.length + k) false = b.getD k false := by
  simp [List.getElem?_append_right]
theorem worth_left {s1 s2 p1 p2 : List Bool} : ∀ {w : Wd}, w.ok s1.length p1.length → w.worth (s1 ++ s2) (p1 ++ p2) = w.worth s1 p1
  | .on, h => rfl
  | .off, h => rfl
  | .relay k, h => getD_left (by have h1 := h.1; have h2 := h.2; lia)
  | .button k, h => getD_left (by have h1 := h.1; have h2 := h.2; lia)
  | .nt a, h => by show (!_) = (!_); rw [worth_left (w := a) h]
  | .an a b, h => by show (_ && _) = (_ && _); rw [worth_left (w := a) h.1, worth_left (w := b) h.2]
  | .or a b, h => by show (_ || _) = (_ || _); rw [worth_left (w := a) h.1, worth_left (w := b) h.2]
theorem worth_right {s1 s2 p1 p2 : List Bool} : ∀ {w : Wd}, w.ok s2.length p2.length → (w.shift s1.length p1.length).worth (s1 ++ s2) (p1 ++ p2) = w.worth s2 p2
  | .on, h => rfl
  | .off, h => rfl
  | .relay k, h => by
    have h1 : 0 ≤ k := h.1
    show (s1 ++ s2).getD (k + s1.length).toNat false = s2.getD k.toNat false
    rw [show (k + (s1.length : Int)).toNat = s1.length + k.toNat by lia]
    exact getD_right
  | .button k, h => by
    have h1 : 0 ≤ k := h.1
    show (p1 ++ p2).getD (k + p1.length).toNat false = p2.getD k.toNat false
    rw [show (k + (p1.length : Int)).toNat = p1.length + k.toNat by lia]
    exact getD_right
  | .nt a, h => by
    show (!(a.shift s1.length p1.length).worth (s1 ++ s2) (p1 ++ p2)) = (!_)
    rw [worth_right (w := a) h]
  | .an a b, h => by
    show ((a.shift s1.length p1.length).worth (s1 ++ s2) (p1 ++ p2) && (b.shift s1.length p1.length).worth (s1 ++ s2) (p1 ++ p2)) = (_ && _)
    rw [worth_right (w := a) h.1, worth_right (w := b) h.2]
  | .or a b, h => by
    show ((a.shift s1.length p1.length).worth (s1 ++ s2) (p1 ++ p2) || (b.shift s1.length p1.length).worth (s1 ++ s2) (p1 ++ p2)) = (_ || _)
    rw [worth_right (w := a) h.1, worth_right (w := b) h.2]
noncomputable def side (ws1 ws2 : List Wd) (b : Nat) : List Wd := ws1 ++ ws2.map (Wd.shift ws1.length b)
theorem side_len (ws1 ws2 : List Wd) (b : Nat) : (side ws1 ws2 b).length = ws1.length + ws2.length := by simp [side]
structure Two (ws1 ws2 : List Wd) (p1 p2 : List Bool) : Prop where
  o1 : ∀ w ∈ ws1, w.ok ws1.length p1.length
  o2 : ∀ w ∈ ws2, w.ok ws2.length p2.length
theorem Two.ok {ws1 ws2 : List Wd} {p1 p2 : List Bool} (h : Two ws1 ws2 p1 p2) : ∀ w ∈ side ws1 ws2 p1.length, w.ok (side ws1 ws2 p1.length).length (p1 ++ p2).length := fun w hw => by
  rw [side_len, List.length_append]
  rcases List.mem_append.mp hw with hw | hw
  · have := ok_more (R1 := ws2.length) (B1 := p2.length) (by lia) (by lia) (h.o1 w hw)
    simpa using this
  · obtain ⟨x, hx, rfl⟩ := List.mem_map.mp hw
    have := shift_ok (R1 := ws1.length) (B1 := p1.length) (by lia) (by lia) (h.o2 x hx)
    simpa using this
section
variable {ws1 ws2 : List Wd} {p1 p2 s1 s2 : List Bool}
theorem can_left (h : Two ws1 ws2 p1 p2) (h1 : s1.length = ws1.length) {k : Nat} (hk : k < ws1.length) : canM (side ws1 ws2 p1.length) (p1 ++ p2) (s1 ++ s2) k = canM ws1 p1 s1 k := by
  unfold canM
  rw [getD_left (by lia)]
  have e : (side ws1 ws2 p1.length).getD k .off = ws1.getD k .off := by
    simp [side, List.getElem?_append_left hk]
  rw [e]
  have hm : ws1.getD k .off ∈ ws1 := by
    simp [List.getElem?_eq_getElem hk]
  rw [worth_left (by have := h.o1 _ hm; rwa [← h1] at this)]
theorem can_right (h : Two ws1 ws2 p1 p2) (h1 : s1.length = ws1.length) (h2 : s2.length = ws2.length) {k : Nat} (hk : k < ws2.length) : canM (side ws1 ws2 p1.length) (p1 ++ p2) (s1 ++ s2) (ws1.length + k) = canM ws2 p2 s2 k := by
  unfold canM
  have e0 : (s1 ++ s2).getD (ws1.length + k) false = s2.getD k false := by
    rw [← h1]
    exact getD_right
  rw [e0]
  have e : (side ws1 ws2 p1.length).getD (ws1.length + k) .off = (ws2.getD k .off).shift s1.length p1.length := by
    simp [side, List.getElem?_append_right, List.getElem?_eq_getElem hk, h1]
  rw [e]
  have hm : ws2.getD k .off ∈ ws2 := by
    simp [List.getElem?_eq_getElem hk]
  rw [worth_right (by have := h.o2 _ hm; rwa [← h2] at this)]
theorem mem_movs' {ws : List Wd} {pr st : List Bool} {k : Nat} : k ∈ movs ws pr st ↔ k < ws.length ∧ canM ws pr st k = true := by
  unfold movs
  rw [List.mem_filter, List.mem_range]
theorem mem_side (h : Two ws1 ws2 p1 p2) (h1 : s1.length = ws1.length) (h2 : s2.length = ws2.length) {k : Nat} : k ∈ movs (side ws1 ws2 p1.length) (p1 ++ p2) (s1 ++ s2) ↔ k ∈ movs ws1 p1 s1 ∨ ∃ j, k = ws1.length + j ∧ j ∈ movs ws2 p2 s2 := by
  rw [mem_movs', mem_movs', side_len]
  constructor
  · rintro ⟨hk, hc⟩
    by_cases c : k < ws1.length
    · rw [can_left h h1 c] at hc
      exact .inl ⟨c, hc⟩
    · refine .inr ⟨k - ws1.length, by lia, ?_⟩
      rw [mem_movs']
      have e : k = ws1.length + (k - ws1.length) := by lia
      rw [e, can_right h h1 h2 (by lia)] at hc
      exact ⟨by lia, hc⟩
  · rintro (⟨hk, hc⟩ | ⟨j, rfl, hj⟩)
    · exact ⟨by lia, by rw [can_left h h1 hk]; exact hc⟩
    · rw [mem_movs'] at hj
      exact ⟨by lia, by rw [can_right h h1 h2 hj.1]; exact hj.2⟩
theorem rest_side (h : Two ws1 ws2 p1 p2) (h1 : s1.length = ws1.length) (h2 : s2.length = ws2.length) : movs (side ws1 ws2 p1.length) (p1 ++ p2) (s1 ++ s2) = [] ↔ movs ws1 p1 s1 = [] ∧ movs ws2 p2 s2 = [] := by
  rw [List.eq_nil_iff_forall_not_mem, List.eq_nil_iff_forall_not_mem, List.eq_nil_iff_forall_not_mem]
  constructor
  · intro z
    exact ⟨fun k hk => z k ((mem_side h h1 h2).mpr (.inl hk)), fun k hk => z (ws1.length + k) ((mem_side h h1 h2).mpr (.inr ⟨k, rfl, hk⟩))⟩
  · rintro ⟨z1, z2⟩ k hk
    rcases (mem_side h h1 h2).mp hk with hk | ⟨j, _, hj⟩
    · exact z1 k hk
    · exact z2 j hj
theorem flip_left {k : Nat} (hk : k < s1.length) : flip (s1 ++ s2) k = flip s1 k ++ s2 := by
  unfold flip
  rw [getD_left hk, List.set_append_left _ _ hk]
theorem flip_right {k : Nat} : flip (s1 ++ s2) (s1.length + k) = s1 ++ flip s2 k := by
  unfold flip
  rw [getD_right, List.set_append_right _ _ (by lia), Nat.add_sub_cancel_left]
theorem reach_left (h : Two ws1 ws2 p1 p2) (h1 : s1.length = ws1.length) (h2 : s2.length = ws2.length) {t : List Bool} (r : Reach ws1 p1 s1 t) : Reach (side ws1 ws2 p1.length) (p1 ++ p2) (s1 ++ s2) (t ++ s2) := by
  induction r with
  | refl => exact .refl
  | step r hk ih =>
    have hl := r.len
    have hk' := mem_movs'.mp hk
    have := Reach.step ih ((mem_side h (by lia) h2).mpr (.inl hk))
    rwa [flip_left (by lia)] at this
theorem Reach.tail {ws : List Wd} {pr a b c : List Bool} (x : Reach ws pr a b) (y : Reach ws pr b c) : Reach ws pr a c := by
  induction y with
  | refl => exact x
  | step _ hk ih => exact .step ih hk
theorem reach_right (h : Two ws1 ws2 p1 p2) (h1 : s1.length = ws1.length) (h2 : s2.length = ws2.length) {t : List Bool} (r : Reach ws2 p2 s2 t) : Reach (side ws1 ws2 p1.length) (p1 ++ p2) (s1 ++ s2) (s1 ++ t) := by
  induction r with
  | refl => exact .refl
  | @step s k r hk ih =>
    have hl := r.len
    have := Reach.step ih ((mem_side h h1 (by lia)).mpr (.inr ⟨k, rfl, hk⟩))
    rw [← h1] at this
    rwa [flip_right] at this
theorem reach_both (h : Two ws1 ws2 p1 p2) (h1 : s1.length = ws1.length) (h2 : s2.length = ws2.length) {t1 t2 : List Bool} (r1 : Reach ws1 p1 s1 t1) (r2 : Reach ws2 p2 s2 t2) : Reach (side ws1 ws2 p1.length) (p1 ++ p2) (s1 ++ s2) (t1 ++ t2) :=
  (reach_left h h1 h2 r1).tail (reach_right h (by have := r1.len; lia) h2 r2)
theorem reach_split (h : Two ws1 ws2 p1 p2) (h1 : s1.length = ws1.length) (h2 : s2.length = ws2.length) {t : List Bool} (r : Reach (side ws1 ws2 p1.length) (p1 ++ p2) (s1 ++ s2) t) : ∃ t1 t2, t = t1 ++ t2 ∧ Reach ws1 p1 s1 t1 ∧ Reach ws2 p2 s2 t2 := by
  induction r with
  | refl => exact ⟨s1, s2, rfl, .refl, .refl⟩
  | @step s k r hk ih =>
    obtain ⟨t1, t2, rfl, r1, r2⟩ := ih
    have l1 := r1.len
    have l2 := r2.len
    rcases (mem_side h (by lia) (by lia)).mp hk with hk | ⟨j, rfl, hj⟩
    · have hk' := mem_movs'.mp hk
      exact ⟨flip t1 k, t2, flip_left (by lia), .step r1 hk, r2⟩
    · refine ⟨t1, flip t2 j, ?_, r1, .step r2 hj⟩
      rw [show ws1.length = t1.length by lia]
      exact flip_right
theorem walk_split (h : Two ws1 ws2 p1 p2) : ∀ {ks : List Nat} {s1 s2 t : List Bool}, s1.length = ws1.length → s2.length = ws2.length → walkN (side ws1 ws2 p1.length) (p1 ++ p2) (s1 ++ s2) ks = some t → ∃ k1 k2 t1 t2, t = t1 ++ t2 ∧ t1.length = ws1.length ∧ walkN ws1 p1 s1 k1 = some t1 ∧ walkN ws2 p2 s2 k2 = some t2 ∧ k1.length + k2.length = ks.length
  | [], s1, s2, t, h1, h2, e => by
    cases e
    exact ⟨[], [], s1, s2, rfl, h1, rfl, rfl, rfl⟩
  | k :: ks, s1, s2, t, h1, h2, e => by
    simp only [walkN] at e
    split at e
    · rename_i hk
      rcases (mem_side h h1 h2).mp hk with hk | ⟨j, rfl, hj⟩
      · have hk' := mem_movs'.mp hk
        rw [flip_left (by lia)] at e
        obtain ⟨k1, k2, t1, t2, a, b, c, d, f⟩ := walk_split h (by rw [flip_len]; exact h1) h2 e
        refine ⟨k :: k1, k2, t1, t2, a, b, ?_, d, by simp only [List.length_cons]; lia⟩
        simp only [walkN]
        rw [if_pos hk]
        exact c
      · rw [← h1, flip_right] at e
        obtain ⟨k1, k2, t1, t2, a, b, c, d, f⟩ := walk_split h h1 (by rw [flip_len]; exact h2) e
        refine ⟨k1, j :: k2, t1, t2, a, b, c, ?_, by simp only [List.length_cons]; lia⟩
        simp only [walkN]
        rw [if_pos hj]
        exact d
    · cases e
theorem walk_left (h : Two ws1 ws2 p1 p2) : ∀ {ks : List Nat} {s1 s2 t : List Bool}, s1.length = ws1.length → s2.length = ws2.length → walkN ws1 p1 s1 ks = some t → walkN (side ws1 ws2 p1.length) (p1 ++ p2) (s1 ++ s2) ks = some (t ++ s2)
  | [], s1, s2, t, h1, h2, e => by
    cases e
    rfl
  | k :: ks, s1, s2, t, h1, h2, e => by
    simp only [walkN] at e ⊢
    split at e
    · rename_i hk
      have hk' := mem_movs'.mp hk
      rw [if_pos ((mem_side h h1 h2).mpr (.inl hk)), flip_left (by lia)]
      exact walk_left h (by rw [flip_len]; exact h1) h2 e
    · cases e
theorem walk_right (h : Two ws1 ws2 p1 p2) : ∀ {ks : List Nat} {s1 s2 t : List Bool}, s1.length = ws1.length → s2.length = ws2.length → walkN ws2 p2 s2 ks = some t → walkN (side ws1 ws2 p1.length) (p1 ++ p2) (s1 ++ s2) (ks.map (ws1.length + ·)) = some (s1 ++ t)
  | [], s1, s2, t, h1, h2, e => by
    cases e
    rfl
  | k :: ks, s1, s2, t, h1, h2, e => by
    simp only [walkN, List.map_cons] at e ⊢
    split at e
    · rename_i hk
      rw [if_pos ((mem_side h h1 h2).mpr (.inr ⟨k, rfl, hk⟩))]
      have : flip (s1 ++ s2) (ws1.length + k) = s1 ++ flip s2 k := by rw [← h1]; exact flip_right
      rw [this]
      exact walk_right h h1 (by rw [flip_len]; exact h2) e
    · cases e
theorem app_inj {a b c d : List Bool} (h : a ++ b = c ++ d) (e : a.length = c.length) : a = c ∧ b = d := List.append_inj h e
theorem both_settle {H0 H : Hp} {N1 N2 : List (List Bool × V)} {r1 r2 : List Bool} {kd : Str} {x y : V} (h : Two ws1 ws2 p1 p2) (h1 : s1.length = ws1.length) (h2 : s2.length = ws2.length) (P1 : Paper ws1 p1 s1 N1 r1) (P2 : Paper ws2 p2 s2 N2 r2)
    (t : Told H0 H (side ws1 ws2 p1.length) (p1 ++ p2) (s1 ++ s2) kd x y) : ∃ c, kd = "settles" ∧ x = .ref c ∧ BAt H c (r1 ++ r2) := by
  have only : ∀ {z : List Bool}, Reach (side ws1 ws2 p1.length) (p1 ++ p2) (s1 ++ s2) z → movs (side ws1 ws2 p1.length) (p1 ++ p2) z = [] → z = r1 ++ r2 := fun {z} hz hm => by
    obtain ⟨t1, t2, rfl, a1, a2⟩ := reach_split h h1 h2 hz
    have l1 := a1.len
    have l2 := a2.len
    have := (rest_side h (by lia) (by lia)).mp hm
    rw [(P1.only t1 a1).mp this.1, (P2.only t2 a2).mp this.2]
  cases t with
  | settles c d rest N hc hd0 hd hP =>
    refine ⟨c, rfl, rfl, ?_⟩
    rw [← only hP.has ((hP.only rest hP.has).mpr rfl)]
    exact hc
  | parts l1 l2 k1 k2 q1 q2 _ _ _ _ hw1 hw2 hm1 hm2 hne _ =>
    exact absurd ((only (walkN_reach hw1) hm1).trans (only (walkN_reach hw2) hm2).symm) hne
  | rounds l1 l2 k1 k2 q1 _ _ _ _ hw1 hw2 hne _ =>
    exfalso
    obtain ⟨t1, t2, rfl, a1, a2⟩ := reach_split h h1 h2 (walkN_reach hw1)
    have l1 := a1.len
    have l2 := a2.len
    obtain ⟨x1, x2, u1, u2, e, el, w1, w2, f⟩ := walk_split h (by lia) (by lia) hw2
    obtain ⟨rfl, rfl⟩ := app_inj e (by lia)
    have z1 := P1.no_ring a1 w1
    have z2 := P2.no_ring a2 w2
    subst z1 z2
    exact hne (List.length_eq_zero_iff.mp f.symm)
theorem each_settles {N : List (List Bool × V)} {rest : List Bool} (h : Two ws1 ws2 p1 p2) (h1 : s1.length = ws1.length) (h2 : s2.length = ws2.length) (P : Paper (side ws1 ws2 p1.length) (p1 ++ p2) (s1 ++ s2) N rest)
    {A0 A B0 B : Hp} {kd kd' : Str} {x y x' y' : V} (t : Told A0 A ws1 p1 s1 kd x y) (t' : Told B0 B ws2 p2 s2 kd' x' y') : kd = "settles" ∧ kd' = "settles" := by
  obtain ⟨e1, e2, rfl, a1, a2⟩ := reach_split h h1 h2 P.has
  have l1 := a1.len
  have l2 := a2.len
  have hm := (rest_side h (by lia) (by lia)).mp ((P.only _ P.has).mpr rfl)
  constructor
  · cases t with
    | settles => rfl
    | parts _ _ k1 k2 q1 q2 _ _ _ _ hw1 hw2 hm1 hm2 hne _ =>
      exfalso
      have b1 := walkN_reach hw1
      have b2 := walkN_reach hw2
      have c1 := b1.len
      have c2 := b2.len
      have d1 := (P.only _ (reach_both h h1 h2 b1 a2)).mp ((rest_side h (by lia) (by lia)).mpr ⟨hm1, hm.2⟩)
      have d2 := (P.only _ (reach_both h h1 h2 b2 a2)).mp ((rest_side h (by lia) (by lia)).mpr ⟨hm2, hm.2⟩)
      exact hne ((app_inj d1 (by lia)).1.trans (app_inj d2 (by lia)).1.symm)
    | rounds _ _ k1 k2 q1 _ _ _ _ hw1 hw2 hne _ =>
      exfalso
      have b1 := walkN_reach hw1
      have c1 := b1.len
      exact hne (P.no_ring (reach_left h h1 h2 b1) (walk_left h (by lia) h2 hw2))
  · cases t' with
    | settles => rfl
    | parts _ _ k1 k2 q1 q2 _ _ _ _ hw1 hw2 hm1 hm2 hne _ =>
      exfalso
      have b1 := walkN_reach hw1
      have b2 := walkN_reach hw2
      have c1 := b1.len
      have c2 := b2.len
      have d1 := (P.only _ (reach_both h h1 h2 a1 b1)).mp ((rest_side h (by lia) (by lia)).mpr ⟨hm.1, hm1⟩)
      have d2 := (P.only _ (reach_both h h1 h2 a1 b2)).mp ((rest_side h (by lia) (by lia)).mpr ⟨hm.1, hm2⟩)
      exact hne ((app_inj d1 (by lia)).2.trans (app_inj d2 (by lia)).2.symm)
    | rounds _ _ k1 k2 q1 _ _ _ _ hw1 hw2 hne _ =>
      exfalso
      have b1 := walkN_reach hw1
      have c1 := b1.len
      have := P.no_ring (reach_right h h1 h2 b1) (walk_right h h1 (by lia) hw2)
      exact hne (List.map_eq_nil_iff.mp this)
end
end RR
namespace RR
open PySem PySem.W L2
theorem allRows_mem {n : Nat} {s : List Bool} : s ∈ allRows n ↔ s.length = n := by
  constructor
  · intro h
    induction n generalizing s with
    | zero =>
      rw [allRows, List.mem_singleton] at h
      rw [h]
      rfl
    | succ n ih =>
      rw [allRows, List.mem_append] at h
      rcases h with h | h
      · obtain ⟨t, ht, rfl⟩ := List.mem_map.mp h
        simp [ih ht]
      · obtain ⟨t, ht, rfl⟩ := List.mem_map.mp h
        simp [ih ht]
  · exact mem_allRows
theorem allRows_nodup : ∀ n, (allRows n).Nodup
  | 0 => List.nodup_cons.mpr ⟨List.not_mem_nil, List.nodup_nil⟩
  | n + 1 => by
    rw [allRows, List.nodup_append]
    refine ⟨nodup_map_on (allRows_nodup n) fun x _ y _ e => (List.append_inj' e rfl).1, nodup_map_on (allRows_nodup n) fun x _ y _ e => (List.append_inj' e rfl).1, fun x hx y hy e => ?_⟩
    obtain ⟨a, _, rfl⟩ := List.mem_map.mp hx
    obtain ⟨b, _, rfl⟩ := List.mem_map.mp hy
    have := (List.append_inj' e rfl).2
    cases this
theorem mem_restsOf {ws : List Wd} {pr s : List Bool} : s ∈ restsOf ws pr ↔ s.length = ws.length ∧ movs ws pr s = [] := by
  unfold restsOf isRest
  rw [List.mem_filter, allRows_mem, List.isEmpty_iff]
theorem rests_nodup (ws : List Wd) (pr : List Bool) : (restsOf ws pr).Nodup := (allRows_nodup _).filter _
noncomputable def crossR (l r : List (List Bool)) : List (List Bool) := l.flatMap fun a => r.map (a ++ ·)
theorem mem_cross {l r : List (List Bool)} {s : List Bool} : s ∈ crossR l r ↔ ∃ a ∈ l, ∃ b ∈ r, s = a ++ b := by
  unfold crossR
  rw [List.mem_flatMap]
  constructor
  · rintro ⟨a, ha, h⟩
    obtain ⟨b, hb, rfl⟩ := List.mem_map.mp h
    exact ⟨a, ha, b, hb, rfl⟩
  · rintro ⟨a, ha, b, hb, rfl⟩
    exact ⟨a, ha, List.mem_map.mpr ⟨b, hb, rfl⟩⟩
theorem cross_nodup {n : Nat} {r : List (List Bool)} (hr : r.Nodup) : ∀ {l : List (List Bool)}, l.Nodup → (∀ a ∈ l, a.length = n) → (crossR l r).Nodup
  | [], _, _ => List.nodup_nil
  | a :: l, hl, hn => by
    rw [List.nodup_cons] at hl
    show (r.map (a ++ ·) ++ crossR l r).Nodup
    rw [List.nodup_append]
    refine ⟨nodup_map_on hr fun x _ y _ e => List.append_cancel_left e, cross_nodup hr hl.2 fun b hb => hn b (by simp [hb]), fun x hx y hy e => ?_⟩
    obtain ⟨b, _, rfl⟩ := List.mem_map.mp hx
    obtain ⟨a', ha', b', _, rfl⟩ := mem_cross.mp hy
    have := (List.append_inj e (by rw [hn a (by simp), hn a' (by simp [ha'])])).1
    exact hl.1 (this ▸ ha')
theorem perm_of_mem {α : Type} [DecidableEq α] {a b : List α} (ha : a.Nodup) (hb : b.Nodup) (h : ∀ x, x ∈ a ↔ x ∈ b) : a.Perm b := by
  rw [List.perm_iff_count]
  intro x
  rw [ha.count, hb.count]
  by_cases c : x ∈ a
  · rw [if_pos c, if_pos ((h x).mp c)]
  · rw [if_neg c, if_neg fun z => c ((h x).mpr z)]
theorem rests_perm {ws1 ws2 : List Wd} {p1 p2 : List Bool} (h : Two ws1 ws2 p1 p2) : (restsOf (side ws1 ws2 p1.length) (p1 ++ p2)).Perm (crossR (restsOf ws1 p1) (restsOf ws2 p2)) := by
  refine perm_of_mem (rests_nodup _ _) (cross_nodup (rests_nodup _ _) (rests_nodup _ _) fun a ha => (mem_restsOf.mp ha).1) fun s => ?_
  rw [mem_restsOf, mem_cross, side_len]
  constructor
  · rintro ⟨hl, hm⟩
    have e : s = s.take ws1.length ++ s.drop ws1.length := (List.take_append_drop _ _).symm
    have l1 : (s.take ws1.length).length = ws1.length := by rw [List.length_take]; lia
    have l2 : (s.drop ws1.length).length = ws2.length := by rw [List.length_drop]; lia
    rw [e] at hm
    have := (rest_side h l1 l2).mp hm
    exact ⟨_, mem_restsOf.mpr ⟨l1, this.1⟩, _, mem_restsOf.mpr ⟨l2, this.2⟩, e⟩
  · rintro ⟨a, ha, b, hb, rfl⟩
    have ha := mem_restsOf.mp ha
    have hb := mem_restsOf.mp hb
    exact ⟨by rw [List.length_append]; lia, (rest_side h ha.1 hb.1).mpr ⟨ha.2, hb.2⟩⟩
inductive I_spOn (n : Nat) (vs : List V) (H : Hp) (Q : VK) : Prop
  | mk : ∀ (v : V) (wd : Wd) (R B : Int), (vs = [v, .int R, .int B]) → (WAt H wd v) → (wd.depth ≤ n) → (∀ v' H', Same H H' → WAt H' (wd.shift R B) v' → Q v' H') → I_spOn n vs H Q
noncomputable def spOn (n : Nat) : Sp := fun vs H Q _ => I_spOn n vs H Q
noncomputable def sideI (ws1 ws2 : List Wd) (B : Int) : List Wd := ws1 ++ ws2.map (Wd.shift ws1.length B)
inductive I_spBeside (c0 : Addr) (vs : List V) (H : Hp) (Q : VK) (E : XK) : Prop
  | mk : ∀ (D1 D2 : Addr) (us1 us2 : List V) (ws1 ws2 : List Wd) (B : Int), (vs = [.ref D1, .int B, .ref D2]) → (H D1 = some (.lst us1)) → (WsAt H ws1 us1) → (H D2 = some (.lst us2)) → (WsAt H ws2 us2) → (ws1.length ≤ 100) → (ws2.length ≤ 100) → ((∀ x ∈ ws2, x.depth ≤ 8)) → (if 6 < ws1.length + ws2.length then ∀ H', Same H H' → E (.ref c0) none H'
  else ∀ D us H', H D = none → Same H H' → H' D = some (.lst us) → WsAt H' (sideI ws1 ws2 B) us → Q (.ref D) H') → I_spBeside c0 vs H Q E
noncomputable def spBeside (c0 : Addr) : Sp := fun vs H Q E => I_spBeside c0 vs H Q E
inductive I_spBesideC (vs : List V) (H : Hp) (Q : VK) : Prop
  | mk : ∀ (D1 D2 : Addr) (us1 us2 : List V) (ws1 ws2 : List Wd) (B : Int), (vs = [.ref D1, .int B, .ref D2]) → (H D1 = some (.lst us1)) → (WsAt H ws1 us1) → (H D2 = some (.lst us2)) → (WsAt H ws2 us2) → (ws1.length + ws2.length ≤ 6) → ((∀ x ∈ ws2, x.depth ≤ 8)) → (∀ D us H', H D = none → Same H H' → H' D = some (.lst us) → WsAt H' (sideI ws1 ws2 B) us → Q (.ref D) H') → I_spBesideC vs H Q
noncomputable def spBesideC : Sp := fun vs H Q _ => I_spBesideC vs H Q
inductive I_spTold11 (vs : List V) (H : Hp) (Q : VK) : Prop
  | mk : ∀ (D1 D2 : Addr) (us1 us2 : List V) (ws1 ws2 : List Wd) (B : Int), (vs = [.ref D1, .int B, .ref D2]) → (H D1 = some (.lst us1)) → (WsAt H ws1 us1) → (H D2 = some (.lst us2)) → (WsAt H ws2 us2) → (ws1.length ≤ 100) → (ws2.length ≤ 100) → ((∀ x ∈ ws2, x.depth ≤ 8)) → (if 6 < ws1.length + ws2.length then ∀ p m vf H', Same H H' → H' p = some (.tup [vf, .ref m]) → H' m = some (.lst ((marksOf 0).map V.bl)) → Q (.ref p) H'
  else ∀ p m D us H', H D = none → Same H H' → H' p = some (.tup [.ref D, .ref m]) → H' m = some (.lst []) → H' D = some (.lst us) → WsAt H' (sideI ws1 ws2 B) us → Q (.ref p) H') → I_spTold11 vs H Q
noncomputable def spTold11 : Sp := fun vs H Q _ => I_spTold11 vs H Q
end RR


end
section
set_option Elab.async false
set_option linter.all false
set_option maxRecDepth 100000
set_option maxHeartbeats 4000000
namespace RR
open PySem PySem.W L2
theorem ends_o {Q : VK} {t : TS} {σ : St} {H : Hp} (h : ∀ D : Ends, (∀ v H', Q v H' → D.rt v H') → t D σ H) : t { nx := fun _ H' => Q .non H', rt := Q } σ H := h _ (fun _ _ h => h)
theorem turn_o {m : Nat} {W : Nat → St → Hp → Prop} {tb : TS} {rt : VK} {bk : St → Hp → Prop} {σ : St} {H1 : Hp} (h : ∀ D' : Ends, (∀ m' σ' H', m' < m → W m' σ' H' → D'.nx σ' H') → tb D' σ H1) :
    ∃ N : St → Hp → Prop, (∀ σ' H', N σ' H' → ∃ m', m' < m ∧ W m' σ' H') ∧ tb { nx := N, rt := rt, bk := bk, ct := N } σ H1 :=
  ⟨fun σ' H' => ∃ m', m' < m ∧ W m' σ' H', fun _ _ h => h, h _ fun m' _ _ a b => ⟨m', a, b⟩⟩
theorem for_listO {K : PySem.W.Frag} {a : Addr} {xs : List V} {g : TG} {tb : TS} {D : Ends} {σ : St} {H : Hp} (Pv : Nat → St → Hp → Prop) (h0 : Pv 0 σ H) (hl : ∀ i σ H, i ≤ xs.length → Pv i σ H → SqL K H a xs)
    (hs : ∀ i x σ H (D' : Ends), xs[i]? = some x → Pv i σ H → (∀ σ H, Pv (i + 1) σ H → D'.nx σ H) → g x σ H fun σ2 H2 => tb D' σ2 H2) (hd : ∀ σ H, Pv xs.length σ H → D.nx σ H) :
    ∃ W : Nat → Nat → St → Hp → Prop, (∃ m, W 0 m σ H) ∧ ∀ i m σ H, W i m σ H →
      ((Itl K a).stop i H ∧ D.nx σ H) ∨ ((Itl K a).go i H ∧ ∃ N : St → Hp → Prop, (∀ σ' H', N σ' H' → ∃ m', m' < m ∧ W (i + 1) m' σ' H') ∧ ∀ x H', (Itl K a).yld i H x H' → g x σ H' fun σ2 H2 => tb { D with nx := N, ct := N, bk := D.nx } σ2 H2) :=
  for_list Pv h0 hl (fun i x σ H h1 h2 => hs i x σ H _ h1 h2 fun _ _ h => h) hd
theorem for_dictO {a : Addr} {o : Obj} {kvs : List (List Key × V)} {g : TG} {tb : TS} {D : Ends} {σ : St} {H : Hp} (Pv : Nat → St → Hp → Prop) (h0 : Pv 0 σ H) (hl : ∀ i σ H, i ≤ kvs.length → Pv i σ H → H a = some (.frz o (.dT kvs)))
    (hs : ∀ i kv b σ H (D' : Ends), kvs[i]? = some kv → H b = some (.tup (kv.1.map kV)) → Pv i σ H → (∀ σ H, Pv (i + 1) σ H → D'.nx σ H) → g (.ref b) σ H fun σ2 H2 => tb D' σ2 H2) (hd : ∀ σ H, Pv kvs.length σ H → D.nx σ H) :
    ∃ W : Nat → Nat → St → Hp → Prop, (∃ m, W 0 m σ H) ∧ ∀ i m σ H, W i m σ H →
      ((Itd a o).stop i H ∧ D.nx σ H) ∨ ((Itd a o).go i H ∧ ∃ N : St → Hp → Prop, (∀ σ' H', N σ' H' → ∃ m', m' < m ∧ W (i + 1) m' σ' H') ∧ ∀ x H', (Itd a o).yld i H x H' → g x σ H' fun σ2 H2 => tb { D with nx := N, ct := N, bk := D.nx } σ2 H2) :=
  for_dict Pv h0 hl (fun i kv b σ H h1 h2 h3 => hs i kv b σ H _ h1 h2 h3 fun _ _ h => h) hd
theorem seq_g {t u : TS} {D : Ends} {σ : St} {H : Hp} (h : ∀ B : St → Hp → Prop, (∀ σ' H', u D σ' H' → B σ' H') → t { D with nx := B } σ H) : tSeq t u D σ H := h (u D) fun _ _ h => h
end RR

end
section
set_option Elab.async false
set_option maxHeartbeats 4000000
set_option linter.all false
set_option maxRecDepth 100000
namespace RR
open PySem L2
noncomputable def top (i : Nat) : Stmt := PySem.Challenge.pw_relayroom_k11_whole_side_by_side.main.body.getD i (.Pass ⟨0, 0, 0, 0⟩)
noncomputable abbrev sParts : Stmt := top 10
noncomputable abbrev sWorth : Stmt := top 11
noncomputable abbrev sAllRows : Stmt := top 12
noncomputable abbrev sMovable : Stmt := top 14
noncomputable abbrev sCanMove : Stmt := top 15
noncomputable abbrev sMoved : Stmt := top 16
noncomputable abbrev sRests : Stmt := top 17
noncomputable abbrev sBeside : Stmt := top 18
noncomputable abbrev sNumberedOn : Stmt := top 19
noncomputable abbrev sJudged : Stmt := top 21
noncomputable abbrev sStepsFrom : Stmt := top 22
noncomputable abbrev sRoadsAlong : Stmt := top 23
noncomputable abbrev sNumbered : Stmt := top 24
noncomputable abbrev sOnARing : Stmt := top 25
noncomputable abbrev sRingFrom : Stmt := top 26
noncomputable abbrev sEndlessStep : Stmt := top 27
noncomputable abbrev sCell : Stmt := top 29
noncomputable abbrev sPick : Stmt := top 30
noncomputable abbrev sMix : Stmt := top 31
noncomputable abbrev sLeaf : Stmt := top 32
noncomputable abbrev sWord : Stmt := top 33
noncomputable abbrev sBoard : Stmt := top 34
noncomputable abbrev sBits : Stmt := top 35
noncomputable abbrev sLRefused : Stmt := top 36
noncomputable abbrev sLTold : Stmt := top 37
noncomputable abbrev sLOn : Stmt := top 38
noncomputable abbrev sLaw : Stmt := top 39
section
variable {P : Program} {w : World} {K : PySem.W.Frag} {mg : Str → Option Value} {base : Heap} {f : Addr} {fd : FuncData}
theorem scCell : FnScope ["script", "k"] ["script", "k"] (defScope sCell) := ⟨rfl, rfl, rfl, by decide +kernel, rfl, by decide +kernel, by decide +kernel⟩
theorem ok_cell (F : Fun K "_law_cell_at" "_law_cell_at" sCell f fd) (ml : mg "len" = none) : FnOk P w K mg base CX0 1 f fd ["script", "k"] (spCell K) := by
  refine F.ok scCell (fun vs H Q E h => ?_) (fun cdv A outer s H vs Q E hr h => ?_)
  · obtain ⟨a, ns, k, rfl, _⟩ := h
    rfl
  obtain ⟨a, ns, k, rfl, hS, h0, q⟩ := h
  refine ⟨_, pss_cons (ps_if (pt_cmpR op_lt (pv 1) (pe_callB call_len_seq rfl ml PySem.boot_len (pa_cons (pv 0) pa_nil)) (nomark _)) (pss_one (ps_ret (pe_ix ix_list (pv 0) (pv 1) (fun _ _ => rfl)))) pss_nil)
    (pss_one (ps_ret pe_int)), ?_⟩
  refine ⟨_, rfl, _, rfl, a, _, rfl, .inl hS, _, _, rfl, rfl, _, rfl, ?_⟩
  have hl : (ns.map V.int).length = ns.length := List.length_map _
  refine ite2 (fun c => ?_) (fun c => ?_)
  · have c' : k < (((ns.map V.int).length : Nat) : Int) := of_decide_eq_true c
    rw [hl] at c'
    refine ⟨_, rfl, _, rfl, a, _, _, _, rfl, rfl, hS, cell_get h0 c', ?_⟩
    unfold cellAt at q
    rw [if_pos c'] at q
    exact q
  · have c' : ¬ k < (((ns.map V.int).length : Nat) : Int) := of_decide_eq_false (Bool.eq_false_iff.mpr c)
    rw [hl] at c'
    unfold cellAt at q
    rw [if_neg c'] at q
    exact q
theorem ok_pick (F : Fun K "_law_pick" "_law_pick" sPick f fd) (D1 : Callee P w K mg base "_law_cell_at" 1 ["script", "k"] (spCell K)) (ml : mg "len" = none) : FnOk P w K mg base CX0 2 f fd ["script", "k"] (spPick K) := by
  refine F.ok (N := ["script", "k"]) ⟨rfl, rfl, rfl, by decide +kernel, rfl, by decide +kernel, by decide +kernel⟩ (fun vs H Q E h => ?_) (fun cdv A outer s H vs Q E hr h => ?_)
  · obtain ⟨a, ns, k, rfl, _⟩ := h
    rfl
  obtain ⟨a, ns, k, rfl, hS, h0, q⟩ := h
  refine ⟨_, pss_cons (ps_if (pt_cmpR op_lt (pv 1) (pe_callB call_len_seq rfl ml PySem.boot_len (pa_cons (pv 0) pa_nil)) (nomark _)) (pss_one (ps_ret (pe_ix ix_list (pv 0) (pv 1) (fun _ _ => rfl)))) pss_nil)
    (pss_one (ps_ret (pe_op op_fdiv (pe_op op_mod (pe_op op_mul (pe_op op_add (pe_op op_add (pe_callD D1 hr (Nat.le_refl _) rfl (pa_cons (pv 0) (pa_cons pe_int pa_nil))) (pe_op op_mul pe_int (pv 1))) pe_int) pe_int) pe_int) pe_int))), ?_⟩
  refine ⟨_, rfl, _, rfl, a, _, rfl, .inl hS, _, _, rfl, rfl, _, rfl, ?_⟩
  have hl : (ns.map V.int).length = ns.length := List.length_map _
  refine ite2 (fun c => ?_) (fun c => ?_)
  · have c' : k < (((ns.map V.int).length : Nat) : Int) := of_decide_eq_true c
    rw [hl] at c'
    refine ⟨_, rfl, _, rfl, a, _, _, _, rfl, rfl, hS, cell_get h0 c', ?_⟩
    unfold pick at q
    rw [if_pos c'] at q
    exact q
  · have c' : ¬ k < (((ns.map V.int).length : Nat) : Int) := of_decide_eq_false (Bool.eq_false_iff.mpr c)
    rw [hl] at c'
    refine ⟨_, rfl, a, ns, 0, rfl, hS, Int.le_refl 0, _, rfl, _, _, rfl, rfl, .inl ⟨by decide, by decide⟩, _, _, rfl, rfl, _, _, rfl, rfl, _, _, rfl, rfl, .inr ⟨by decide, by decide⟩, _, _, rfl, rfl, (by (try dsimp only); decide), _, _, rfl, rfl, ⟨by decide, by decide⟩, ?_⟩
    unfold pick at q
    rw [if_neg c'] at q
    exact q
theorem ok_mix (F : Fun K "_law_mix" "_law_mix" sMix f fd) : FnOk P w K mg base CX0 1 f fd ["cell", "k"] spMix := by
  have S : FnScope ["cell", "k", "mixed"] ["cell", "k"] (defScope sMix) := ⟨rfl, rfl, rfl, by decide +kernel, rfl, by decide +kernel, by decide +kernel⟩
  refine F.ok S (fun vs H Q E h => ?_) (fun cdv A outer s H vs Q E hr h => ?_)
  · obtain ⟨c, k, rfl, _⟩ := h
    rfl
  obtain ⟨c, k, rfl, q⟩ := h
  refine ⟨_, pss_cons (ps_set (i := 2) S.nd rfl (Or.inl rfl) (pe_op op_mod (pe_op op_add (pe_op op_add (pe_op op_mul (pv 0) pe_int) (pe_op op_mul pe_int (pv 1))) pe_int) pe_int))
    (pss_cons (ps_set (i := 2) S.nd rfl (Or.inl rfl) (pe_op op_mod (pe_op op_add (pe_op op_add (pe_op op_mul (pv 2) (pv 2)) (pe_op op_mul pe_int (pv 2))) (pv 1)) pe_int))
    (pss_one (ps_ret (pe_op op_mod (pe_op op_add (pe_op op_add (pe_op op_mul (pv 2) (pv 2)) (pe_op op_mul pe_int (pv 2))) (pe_op op_mul pe_int (pv 1))) pe_int)))), ?_⟩
  have b1 : ∀ x : Int, -(2 ^ 64) < x % 2147483629 ∧ x % 2147483629 < 2 ^ 64 := fun x => by
    have h1 := Int.emod_nonneg x (show (2147483629 : Int) ≠ 0 by decide)
    have h2 := Int.emod_lt_of_pos x (show (0 : Int) < 2147483629 by decide)
    lia
  have b2 : ∀ x : Int, -(2 ^ 64) < x % 2147483647 ∧ x % 2147483647 < 2 ^ 64 := fun x => by
    have h1 := Int.emod_nonneg x (show (2147483647 : Int) ≠ 0 by decide)
    have h2 := Int.emod_lt_of_pos x (show (0 : Int) < 2147483647 by decide)
    lia
  refine ⟨_, rfl, _, _, rfl, rfl, .inr ⟨by decide, by decide⟩, _, rfl, _, _, rfl, rfl, .inl ⟨by decide, by decide⟩, _, _, rfl, rfl, _, _, rfl, rfl, _, _, rfl, rfl, (by (try dsimp only); decide), ?_⟩
  refine ⟨_, rfl, _, rfl, _, _, rfl, rfl, .inl (b1 _), _, rfl, _, _, rfl, rfl, .inl ⟨by decide, by decide⟩, _, _, rfl, rfl, _, rfl, _, _, rfl, rfl, _, _, rfl, rfl, (by (try dsimp only); decide), ?_⟩
  refine ⟨_, rfl, _, rfl, _, _, rfl, rfl, .inl (b2 _), _, rfl, _, _, rfl, rfl, .inl ⟨by decide, by decide⟩, _, _, rfl, rfl, _, rfl, _, _, rfl, rfl, .inl ⟨by decide, by decide⟩, _, _, rfl, rfl, _, _, rfl, rfl, (by (try dsimp only); decide), ?_⟩
  exact q
theorem ok_leaf (F : Fun K "_law_leaf" "_law_leaf" sLeaf f fd) : FnOk P w K mg base CX0 1 f fd ["mixed", "relays", "buttons"] spLeaf := by
  have S : FnScope ["mixed", "relays", "buttons", "spot"] ["mixed", "relays", "buttons"] (defScope sLeaf) := ⟨rfl, rfl, rfl, by decide +kernel, rfl, by decide +kernel, by decide +kernel⟩
  refine F.ok S (fun vs H Q E h => ?_) (fun cdv A outer s H vs Q E hr h => ?_)
  · obtain ⟨m, R, B, rfl, _⟩ := h
    rfl
  obtain ⟨m, R, B, rfl, hR, hB, q⟩ := h
  refine ⟨_, pss_cons (ps_set (i := 3) S.nd rfl (Or.inl rfl) (pe_op op_mod (pv 0) (pe_op op_add (pe_op op_add (pv 1) (pv 2)) pe_int)))
    (pss_cons (ps_if (pt_cmpR op_lt (pv 3) (pv 1) (nomark _)) (pss_one (ps_ret (pe_tup (pa_cons pe_str (pa_cons (pv 3) pa_nil))))) pss_nil)
    (pss_cons (ps_if (pt_cmpR op_lt (pv 3) (pe_op op_add (pv 1) (pv 2)) (nomark _)) (pss_one (ps_ret (pe_tup (pa_cons pe_str (pa_cons (pe_op op_sub (pv 3) (pv 1)) pa_nil))))) pss_nil)
    (pss_one (ps_ret (pe_ix ix_list (pe_lst (pa_cons (pe_tup (pa_cons pe_str pa_nil)) (pa_cons (pe_tup (pa_cons pe_str pa_nil)) pa_nil))) (pe_op op_mod (pe_op op_fdiv (pv 0) pe_int) pe_int) (fun _ _ => rfl)))))), ?_⟩
  refine ⟨_, rfl, _, rfl, _, rfl, _, _, rfl, rfl, _, _, rfl, rfl, _, _, rfl, rfl, (show (0 : Int) < R + B + 1 by lia), ?_⟩
  unfold leaf at q
  refine ⟨_, rfl, _, rfl, _, _, rfl, rfl, _, rfl, ite2 (fun c => ?_) (fun c => ?_)⟩
  · have c' : m % (R + B + 1) < R := of_decide_eq_true c
    rw [if_pos c'] at q
    exact ⟨_, rfl, (by show 2 ≤ sizeLine; decide), fun p hp => q _ _ (Same.new hp _) ⟨p, rfl, upd_same⟩⟩
  have c1 : ¬ m % (R + B + 1) < R := of_decide_eq_false (Bool.eq_false_iff.mpr c)
  rw [if_neg c1] at q
  refine ⟨_, rfl, _, rfl, _, rfl, _, _, rfl, rfl, _, _, rfl, rfl, _, rfl, ite2 (fun c => ?_) (fun c => ?_)⟩
  · have c' : m % (R + B + 1) < R + B := of_decide_eq_true c
    rw [if_pos c'] at q
    exact ⟨_, rfl, _, rfl, _, _, rfl, rfl, (by show 2 ≤ sizeLine; decide), fun p hp => q _ _ (Same.new hp _) ⟨p, rfl, upd_same⟩⟩
  have c2 : ¬ m % (R + B + 1) < R + B := of_decide_eq_false (Bool.eq_false_iff.mpr c)
  rw [if_neg c2] at q
  refine ⟨(by show 1 ≤ sizeLine; decide), fun p hp => ⟨(by show 1 ≤ sizeLine; decide), fun p2 hp2 => ⟨(by show 2 ≤ sizeLine; decide), fun l hl => ?_⟩⟩⟩
  have e1 := Same.new hp (.tup [.str "on"])
  have e2 := Same.new hp2 (.tup [.str "off"])
  have e3 := Same.new hl (.lst [.ref p, .ref p2])
  refine ⟨_, rfl, _, _, rfl, rfl, ⟨by decide, by decide⟩, _, _, rfl, rfl, (by (try dsimp only); decide), ?_⟩
  rcases two_at (x := .ref p) (y := .ref p2) (m := m / 64) with ⟨z, e⟩ | ⟨z, e⟩
  · rw [if_pos z] at q
    exact ⟨l, _, _, _, rfl, rfl, SqL.of upd_same, e, q _ _ (e1.trans (e2.trans e3)) ⟨p, rfl, e3 _ _ (e2 _ _ upd_same)⟩⟩
  · rw [if_neg z] at q
    exact ⟨l, _, _, _, rfl, rfl, SqL.of upd_same, e, q _ _ (e1.trans (e2.trans e3)) ⟨p2, rfl, e3 _ _ upd_same⟩⟩
theorem step_word {n : Nat} (F : Fun K "_law_word" "_law_word" sWord f fd) (D1 : Callee P w K mg base "_law_mix" 1 ["cell", "k"] spMix) (D2 : Callee P w K mg base "_law_leaf" 1 ["mixed", "relays", "buttons"] spLeaf)
    (D3 : Callee P w K mg base "_law_word" (n + 2) ["cell", "k", "deep", "relays", "buttons"] (spWord n)) : FnOk P w K mg base CX0 (n + 3) f fd ["cell", "k", "deep", "relays", "buttons"] (spWord (n + 1)) := by
  have S : FnScope ["cell", "k", "deep", "relays", "buttons", "mixed", "kind", "first"] ["cell", "k", "deep", "relays", "buttons"] (defScope sWord) := ⟨rfl, rfl, rfl, by decide +kernel, rfl, by decide +kernel, by decide +kernel⟩
  refine F.ok S (fun vs H Q E h => ?_) (fun cdv A outer s H vs Q E hr h => ?_)
  · obtain ⟨cell, k, R, B, d, rfl, _⟩ := h
    rfl
  obtain ⟨cell, k, R, B, d, rfl, hd, hR, hB, q⟩ := h
  refine ⟨_, pss_cons (ps_set (i := 5) S.nd rfl (Or.inl rfl) (pe_op op_fdiv (pe_callD D1 hr (by lia) rfl (pa_cons (pv 0) (pa_cons (pv 1) pa_nil))) pe_int))
    (pss_cons (ps_set (i := 6) S.nd rfl (Or.inl rfl) (pe_op op_mod (pv 5) pe_int))
    (pss_cons (ps_if (pw_or (pt_cmpR op_lt (pv 2) pe_int (nomark _)) (pw_or1 (pt_cmpR op_lt (pv 6) pe_int (nomark _)))).pt
      (pss_one (ps_ret (pe_callD D2 hr (by lia) rfl (pa_cons (pe_op op_fdiv (pv 5) pe_int) (pa_cons (pv 3) (pa_cons (pv 4) pa_nil)))))) pss_nil)
    (pss_cons (ps_set (i := 7) S.nd rfl (Or.inl rfl) (pe_callD D3 hr (Nat.le_refl _) rfl (pa_cons (pv 0) (pa_cons (pe_op op_add (pe_op op_mul pe_int (pv 1)) pe_int) (pa_cons (pe_op op_sub (pv 2) pe_int) (pa_cons (pv 3) (pa_cons (pv 4) pa_nil)))))))
    (pss_cons (ps_if (pt_cmpR op_lt (pv 6) pe_int (nomark _)) (pss_one (ps_ret (pe_tup (pa_cons pe_str (pa_cons (pv 7) pa_nil))))) pss_nil)
    (pss_one (ps_ret (pe_tup (pa_cons (pe_ix ix_list (pe_lst (pa_cons pe_str (pa_cons pe_str pa_nil))) (pe_op op_mod (pv 6) pe_int) (fun _ _ => rfl)) (pa_cons (pv 7)
      (pa_cons (pe_callD D3 hr (Nat.le_refl _) rfl (pa_cons (pv 0) (pa_cons (pe_op op_add (pe_op op_mul pe_int (pv 1)) pe_int) (pa_cons (pe_op op_sub (pv 2) pe_int) (pa_cons (pv 3) (pa_cons (pv 4) pa_nil)))))) pa_nil)))))))))), ?_⟩
  refine ⟨_, rfl, _, rfl, _, _, rfl, _, _, rfl, rfl, ⟨by decide, by decide⟩, ?_⟩
  refine ⟨_, rfl, _, _, rfl, rfl, (by (try dsimp only); decide), ?_⟩
  have leafway : (lword cell R B d k = leaf (mix cell k / 7 / 10) R B) → ∃ v, (some (some (V.int (mix cell k / 7))) : Option (Option V)) = some (some v) ∧ ∃ i j, v = V.int i ∧ V.int 10 = V.int j ∧ CDiv i j ∧
      ∃ m R' B', ([V.int (i / j), V.int R, V.int B] : List V) = [.int m, .int R', .int B'] ∧ 1 ≤ R' ∧ 0 ≤ B' ∧ ∀ v H', Same H H' → WAt H' (leaf m R' B') v → Q v H' := fun e =>
    ⟨_, rfl, _, _, rfl, rfl, ⟨by decide, by decide⟩, _, _, _, rfl, hR, hB, fun v H' s a => q v H' s (by rw [e]; exact a)⟩
  refine ⟨_, rfl, _, _, rfl, rfl, _, rfl, ite2 (fun c => ?_) (fun c => ?_)⟩
  · have c' : (d : Int) < 2 := of_decide_eq_true c
    have e : lword cell R B d k = leaf (mix cell k / 7 / 10) R B := by
      cases d with
      | zero => rfl
      | succ d => unfold lword; rw [if_pos (.inl (by lia))]
    refine iteT ⟨_, rfl, _, _, rfl, rfl, ⟨by decide, by decide⟩, _, rfl, _, rfl, _, _, _, rfl, hR, hB, fun v H' s a => q v H' s (by rw [e]; exact a)⟩
  have c1 : ¬ (d : Int) < 2 := of_decide_eq_false (Bool.eq_false_iff.mpr c)
  obtain ⟨d, rfl⟩ : ∃ j : Nat, d = j + 1 := ⟨d - 1, by lia⟩
  refine ⟨_, rfl, _, _, rfl, rfl, _, rfl, ite2 (fun c => ?_) (fun c => ?_)⟩
  · have c' : mix cell k / 7 % 10 < 3 := of_decide_eq_true c
    have e : lword cell R B (d + 1) k = leaf (mix cell k / 7 / 10) R B := by unfold lword; rw [if_pos (.inr c')]
    exact ⟨_, rfl, _, _, rfl, rfl, ⟨by decide, by decide⟩, _, rfl, _, rfl, _, _, _, rfl, hR, hB, fun v H' s a => q v H' s (by rw [e]; exact a)⟩
  have c2 : ¬ mix cell k / 7 % 10 < 3 := of_decide_eq_false (Bool.eq_false_iff.mpr c)
  have ed : ((d + 1 : Nat) : Int) - 1 = (d : Int) := by lia
  unfold lword at q
  rw [if_neg (by lia)] at q
  refine ⟨_, rfl, _, rfl, _, _, rfl, rfl, .inl ⟨by decide, by decide⟩, _, _, rfl, rfl, _, rfl, _, _, rfl, rfl, _, rfl, _, rfl, cell, 2 * k + 1, R, B, d, by rw [← ed]; rfl, by lia, hR, hB, fun v1 H1 s1 a1 => ?_⟩
  refine ⟨_, rfl, _, _, rfl, rfl, _, rfl, ite2 (fun c => ?_) (fun c => ?_)⟩
  · have c' : mix cell k / 7 % 10 < 5 := of_decide_eq_true c
    rw [if_pos c'] at q
    exact ⟨_, rfl, (by show 2 ≤ sizeLine; decide), fun p hp => q _ _ (s1.trans (Same.new hp _)) ⟨p, v1, rfl, upd_same, a1.mono (Same.new hp _).tup⟩⟩
  have c3 : ¬ mix cell k / 7 % 10 < 5 := of_decide_eq_false (Bool.eq_false_iff.mpr c)
  rw [if_neg c3] at q
  refine ⟨(by show 2 ≤ sizeLine; decide), fun l hl => ?_⟩
  have s2 := Same.new hl (.lst [.str "and", .str "or"])
  refine ⟨_, rfl, _, _, rfl, rfl, (by (try dsimp only); decide), ?_⟩
  rcases two_at (x := .str "and") (y := .str "or") (m := mix cell k / 7 % 10) with ⟨z, e⟩ | ⟨z, e⟩
  · rw [if_pos z] at q
    refine ⟨l, _, _, _, rfl, rfl, SqL.of upd_same, e, _, rfl, _, rfl, _, rfl, _, _, rfl, rfl, .inl ⟨by decide, by decide⟩, _, _, rfl, rfl, _, rfl, _, _, rfl, rfl, _, rfl, _, rfl, cell, 2 * k + 2, R, B, d, by rw [← ed]; rfl, by lia, hR, hB, fun v3 H3 s3 a3 => ?_⟩
    refine ⟨(by show 3 ≤ sizeLine; decide), fun p hp => q _ _ (s1.trans (s2.trans (s3.trans (Same.new hp _)))) ⟨p, v1, v3, rfl, upd_same, a1.mono (s2.trans (s3.trans (Same.new hp _))).tup, a3.mono (Same.new hp _).tup⟩⟩
  · rw [if_neg z] at q
    refine ⟨l, _, _, _, rfl, rfl, SqL.of upd_same, e, _, rfl, _, rfl, _, rfl, _, _, rfl, rfl, .inl ⟨by decide, by decide⟩, _, _, rfl, rfl, _, rfl, _, _, rfl, rfl, _, rfl, _, rfl, cell, 2 * k + 2, R, B, d, by rw [← ed]; rfl, by lia, hR, hB, fun v3 H3 s3 a3 => ?_⟩
    refine ⟨(by show 3 ≤ sizeLine; decide), fun p hp => q _ _ (s1.trans (s2.trans (s3.trans (Same.new hp _)))) ⟨p, v1, v3, rfl, upd_same, a1.mono (s2.trans (s3.trans (Same.new hp _))).tup, a3.mono (Same.new hp _).tup⟩⟩
theorem ok_word (F : Fun K "_law_word" "_law_word" sWord f fd) (b : Binds K fd ["cell", "k", "deep", "relays", "buttons"] []) (m : mg "_law_word" = some (.ref f)) (D1 : Callee P w K mg base "_law_mix" 1 ["cell", "k"] spMix) (D2 : Callee P w K mg base "_law_leaf" 1 ["mixed", "relays", "buttons"] spLeaf) :
    ∀ n : Nat, FnOk P w K mg base CX0 (n + 2) f fd ["cell", "k", "deep", "relays", "buttons"] (spWord n)
  | 0 => no_calls fun vs H Q E h => by
    obtain ⟨_, _, _, _, d, _, hd, _⟩ := h
    exact absurd hd (Nat.not_lt_zero _)
  | n + 1 => step_word F D1 D2 ⟨f, fd, ok_word F b m D1 D2 n, b, F.kp, m⟩
theorem ok_bits (F : Fun K "_law_bits" "_law_bits" sBits f fd) (mr : mg "range" = none) (mt : mg "tuple" = none) : FnOk P w K mg base CX0 1 f fd ["number", "size"] spBits := by
  have S : FnScope ["number", "size"] ["number", "size"] (defScope sBits) := ⟨rfl, rfl, rfl, by decide +kernel, rfl, by decide +kernel, by decide +kernel⟩
  refine F.ok S (fun vs H Q E h => ?_) (fun cdv A outer s H vs Q E hr h => ?_)
  · obtain ⟨m, n, rfl, _⟩ := h
    rfl
  obtain ⟨m, n, rfl, hn, q⟩ := h
  refine ⟨_, pss_one (ps_ret (pe_callTy call_tuple_of rfl mt PyProof.Rows.boot_tuple (pa_cons (pe_comp (ys := ["number"]) (ix := [0]) (.of S {}) rfl
    (pi_range1 rfl mr (pa_cons (pv 1) pa_nil)) (fun _ _ _ _ => pts_nil)
    (fun cl s3 H3 fp => pe_cmpR op_eq (pe_op op_mod (pe_op op_shr (pv 1) (pv 0)) pe_int) pe_int (nomark _))) pa_nil))), ?_⟩
  refine ⟨_, rfl, n, rfl, by lia, by lia, ?_⟩
  refine body_rng (by simp; exact sz (by lia)) (fun i y H => y = .bl (decide (m / 2 ^ i % 2 = 1))) (fun _ _ _ _ _ h => h) (fun i H' R hi hS hR => ?_) (fun D us H' hD hS hl hlen hG => ?_)
  · refine ⟨_, rfl, _, rfl, _, _, rfl, rfl, (by (try dsimp only); lia), _, _, rfl, rfl, (by (try dsimp only); decide), rfl, ?_⟩
    refine hR _ _ (Same.refl _) ?_
    have e : ((0 : Int) + (i : Int)).toNat = i := by lia
    rw [e]
    exact congrArg V.bl (decide_eq_decide.mpr ⟨fun z => by injection z, fun z => by (try dsimp only); rw [z]⟩)
  · refine ⟨D, us, rfl, .inl ⟨SqL.of hl, fun p hp => q p _ (hS.trans (Same.new hp _)) ?_⟩⟩
    rw [upd_same]
    have e : us = (bitsOf m n).map V.bl := list_ext (by rw [List.length_map, bits_length]; simpa using hlen) fun i y hy => by
      have hi : i < n := by have := (List.getElem?_eq_some_iff.mp hy).1; simp at hlen; lia
      rw [hG i y hy]
      simp [bitsOf, hi]
    rw [e]
theorem ok_board (F : Fun K "_law_board" "_law_board" sBoard f fd) (mr : mg "range" = none) (D1 : Callee P w K mg base "_law_pick" 2 ["script", "k"] (spPick K)) (D2 : Callee P w K mg base "_law_word" 12 ["cell", "k", "deep", "relays", "buttons"] (spWord 10)) :
    FnOk P w K mg base CX0 13 f fd ["script", "start", "relays", "buttons", "deep"] (spBoard K) := by
  have S : FnScope ["script", "start", "relays", "buttons", "deep"] ["script", "start", "relays", "buttons", "deep"] (defScope sBoard) := ⟨rfl, rfl, rfl, by decide +kernel, rfl, by decide +kernel, by decide +kernel⟩
  refine F.ok S (fun vs H Q E h => ?_) (fun cdv A outer s H vs Q E hr h => ?_)
  · obtain ⟨a, ns, start, R, B, d, rfl, _⟩ := h
    rfl
  obtain ⟨a, ns, start, R, B, d, rfl, hS, h0, hd, hR, hR2, hB, q⟩ := h
  refine ⟨_, pss_one (ps_ret (pe_comp (ys := ["script", "start", "relays", "buttons", "deep"]) (ix := [0, 1, 2, 3, 4]) (.of S {}) rfl
    (pi_range1 rfl mr (pa_cons (pv 2) pa_nil)) (fun _ _ _ _ => pts_nil)
    (fun cl s3 H3 fp => pe_callD D2 hr (Nat.le_refl _) rfl (pa_cons (pe_callD D1 hr (by lia) rfl (pa_cons (pv 1) (pa_cons (pe_op op_add (pv 2) (pv 0)) pa_nil))) (pa_cons (pv 0) (pa_cons (pv 5) (pa_cons (pv 3) (pa_cons (pv 4) pa_nil)))))))), ?_⟩
  refine ⟨_, rfl, R, rfl, by lia, by lia, ?_⟩
  refine body_rng (by exact sz (by lia)) (fun i y H => WAt H (lword (pick ns (start + i)) R B d i) y) (fun _ _ _ _ t h => h.mono t) (fun i H' R' hi hS' hR' => ?_) (fun D us H' hD hS' hl hlen hG => ?_)
  · have e0 : (0 : Int) + (i : Int) = (i : Int) := by lia
    rw [e0]
    refine ⟨_, rfl, _, rfl, _, rfl, _, _, rfl, rfl, a, ns, start + i, rfl, hS'.seq hS, by lia, ?_⟩
    exact ⟨_, rfl, _, rfl, _, rfl, _, rfl, _, _, _, _, d, rfl, hd, hR, hB, fun v H2 s2 a2 => hR' v H2 s2 a2⟩
  · refine q D us H' hS' hl ⟨by rw [hlen]; simp [lboard], fun i v e => ?_⟩
    have hi : i < R.toNat := by have := (List.getElem?_eq_some_iff.mp e).1; lia
    exact ⟨_, by simp [lboard, hi], hG i v e⟩
theorem step_worth {n : Nat} (F : Fun K "worth" "worth" sWorth f fd) (D : Callee P w K mg base "worth" (n + 1) ["word", "stand", "pressed"] (spWorth n)) : FnOk P w K mg base CX0 (n + 2) f fd ["word", "stand", "pressed"] (spWorth (n + 1)) := by
  have S : FnScope ["word", "stand", "pressed", "kind"] ["word", "stand", "pressed"] (defScope sWorth) := ⟨rfl, rfl, rfl, by decide +kernel, rfl, by decide +kernel, by decide +kernel⟩
  refine F.ok S (fun vs H Q E h => ?_) (fun cdv A outer s H vs Q E hr h => ?_)
  · obtain ⟨v, wd, a, b, st, pr, rfl, _⟩ := h
    rfl
  obtain ⟨v, wd, a, b, st, pr, rfl, hW, hA, hB, hok, hdep, q⟩ := h
  refine ⟨_, pss_cons (ps_set (i := 3) S.nd rfl (Or.inl rfl) (pe_ix ix_tup (pv 0) pe_int (fun _ _ => rfl)))
    (pss_cons (ps_if (pt_cmpR op_eq (pv 3) pe_str (nomark _)) (pss_one (ps_ret pe_bl)) pss_nil)
    (pss_cons (ps_if (pt_cmpR op_eq (pv 3) pe_str (nomark _)) (pss_one (ps_ret pe_bl)) pss_nil)
    (pss_cons (ps_if (pt_cmpR op_eq (pv 3) pe_str (nomark _)) (pss_one (ps_ret (pe_ix ix_tup (pv 1) (pe_ix ix_tup (pv 0) pe_int (fun _ _ => rfl)) (fun _ _ => rfl)))) pss_nil)
    (pss_cons (ps_if (pt_cmpR op_eq (pv 3) pe_str (nomark _)) (pss_one (ps_ret (pe_ix ix_tup (pv 2) (pe_ix ix_tup (pv 0) pe_int (fun _ _ => rfl)) (fun _ _ => rfl)))) pss_nil)
    (pss_cons (ps_if (pt_cmpR op_eq (pv 3) pe_str (nomark _)) (pss_one (ps_ret (pe_not (pe_callD D hr (Nat.le_refl _) rfl (pa_cons (pe_ix ix_tup (pv 0) pe_int (fun _ _ => rfl)) (pa_cons (pv 1) (pa_cons (pv 2) pa_nil))))))) pss_nil)
    (pss_cons (ps_if (pt_cmpR op_eq (pv 3) pe_str (nomark _)) (pss_one (ps_ret (pe_and (pe_callD D hr (Nat.le_refl _) rfl (pa_cons (pe_ix ix_tup (pv 0) pe_int (fun _ _ => rfl)) (pa_cons (pv 1) (pa_cons (pv 2) pa_nil))))
      (pe_one (pe_callD D hr (Nat.le_refl _) rfl (pa_cons (pe_ix ix_tup (pv 0) pe_int (fun _ _ => rfl)) (pa_cons (pv 1) (pa_cons (pv 2) pa_nil)))))))) pss_nil)
    (pss_one (ps_ret (pe_or (pe_callD D hr (Nat.le_refl _) rfl (pa_cons (pe_ix ix_tup (pv 0) pe_int (fun _ _ => rfl)) (pa_cons (pv 1) (pa_cons (pv 2) pa_nil))))
      (pe_one (pe_callD D hr (Nat.le_refl _) rfl (pa_cons (pe_ix ix_tup (pv 0) pe_int (fun _ _ => rfl)) (pa_cons (pv 1) (pa_cons (pv 2) pa_nil)))))))))))))), ?_⟩
  cases wd with
  | on =>
    obtain ⟨p, rfl, hp⟩ := hW
    refine ⟨_, rfl, p, _, _, _, rfl, rfl, SqT.of hp, at0 _ _, _, rfl, rfl, _, rfl, iteTh (by decide +kernel) ?_⟩
    exact q
  | off =>
    obtain ⟨p, rfl, hp⟩ := hW
    refine ⟨_, rfl, p, _, _, _, rfl, rfl, SqT.of hp, at0 _ _, _, rfl, rfl, _, rfl, iteFh (by decide +kernel) ?_⟩
    refine ⟨_, rfl, rfl, _, rfl, iteTh (by decide +kernel) ?_⟩
    exact q
  | relay k =>
    obtain ⟨p, rfl, hp⟩ := hW
    refine ⟨_, rfl, p, _, _, _, rfl, rfl, SqT.of hp, at0 _ _, _, rfl, rfl, _, rfl, iteFh (by decide +kernel) ?_⟩
    refine ⟨_, rfl, rfl, _, rfl, iteFh (by decide +kernel) ⟨_, rfl, rfl, _, rfl, iteTh (by decide +kernel) ?_⟩⟩
    exact ⟨_, rfl, _, rfl, p, _, _, _, rfl, rfl, SqT.of hp, at1 _ _ _, a, _, _, _, rfl, rfl, SqT.of hA, bools_at hok.1 hok.2, q⟩
  | button k =>
    obtain ⟨p, rfl, hp⟩ := hW
    refine ⟨_, rfl, p, _, _, _, rfl, rfl, SqT.of hp, at0 _ _, _, rfl, rfl, _, rfl, iteFh (by decide +kernel) ?_⟩
    refine ⟨_, rfl, rfl, _, rfl, iteFh (by decide +kernel) ⟨_, rfl, rfl, _, rfl, iteFh (by decide +kernel) ⟨_, rfl, rfl, _, rfl, iteTh (by decide +kernel) ?_⟩⟩⟩
    exact ⟨_, rfl, _, rfl, p, _, _, _, rfl, rfl, SqT.of hp, at1 _ _ _, b, _, _, _, rfl, rfl, SqT.of hB, bools_at hok.1 hok.2, q⟩
  | nt x =>
    obtain ⟨p, vx, rfl, hp, hx⟩ := hW
    have hdep : x.depth + 1 ≤ n + 1 := hdep
    refine ⟨_, rfl, p, _, _, _, rfl, rfl, SqT.of hp, at0 _ _, _, rfl, rfl, _, rfl, iteFh (by decide +kernel) ?_⟩
    refine ⟨_, rfl, rfl, _, rfl, iteFh (by decide +kernel) ⟨_, rfl, rfl, _, rfl, iteFh (by decide +kernel) ⟨_, rfl, rfl, _, rfl, iteFh (by decide +kernel) ⟨_, rfl, rfl, _, rfl, iteTh (by decide +kernel) ?_⟩⟩⟩⟩
    exact ⟨_, rfl, p, _, _, _, rfl, rfl, SqT.of hp, at1 _ _ _, _, rfl, _, rfl, vx, x, a, b, st, pr, rfl, hx, hA, hB, hok, by lia, _, rfl, q⟩
  | an x y =>
    obtain ⟨p, vx, vy, rfl, hp, hx, hy⟩ := hW
    have hdep : max x.depth y.depth + 1 ≤ n + 1 := hdep
    refine ⟨_, rfl, p, _, _, _, rfl, rfl, SqT.of hp, at0 _ _, _, rfl, rfl, _, rfl, iteFh (by decide +kernel) ?_⟩
    refine ⟨_, rfl, rfl, _, rfl, iteFh (by decide +kernel) ⟨_, rfl, rfl, _, rfl, iteFh (by decide +kernel) ⟨_, rfl, rfl, _, rfl, iteFh (by decide +kernel) ⟨_, rfl, rfl, _, rfl, iteFh (by decide +kernel) ⟨_, rfl, rfl, _, rfl, iteTh (by decide +kernel) ?_⟩⟩⟩⟩⟩
    refine ⟨_, rfl, p, _, _, _, rfl, rfl, SqT.of hp, at1 _ _ _, _, rfl, _, rfl, vx, x, a, b, st, pr, rfl, hx, hA, hB, hok.1, by lia, _, rfl, ?_⟩
    cases e : x.worth st pr with
    | false =>
      refine iteF ?_
      have z : (Wd.an x y).worth st pr = false := by show (x.worth st pr && y.worth st pr) = false; rw [e]; rfl
      rw [z] at q
      exact q
    | true =>
      have z : (Wd.an x y).worth st pr = y.worth st pr := by show (x.worth st pr && y.worth st pr) = _; rw [e]; rfl
      rw [z] at q
      exact iteT ⟨_, rfl, p, _, _, _, rfl, rfl, SqT.of hp, at2 _ _ _ _, _, rfl, _, rfl, vy, y, a, b, st, pr, rfl, hy, hA, hB, hok.2, by lia, q⟩
  | or x y =>
    obtain ⟨p, vx, vy, rfl, hp, hx, hy⟩ := hW
    have hdep : max x.depth y.depth + 1 ≤ n + 1 := hdep
    refine ⟨_, rfl, p, _, _, _, rfl, rfl, SqT.of hp, at0 _ _, _, rfl, rfl, _, rfl, iteFh (by decide +kernel) ?_⟩
    refine ⟨_, rfl, rfl, _, rfl, iteFh (by decide +kernel) ⟨_, rfl, rfl, _, rfl, iteFh (by decide +kernel) ⟨_, rfl, rfl, _, rfl, iteFh (by decide +kernel) ⟨_, rfl, rfl, _, rfl, iteFh (by decide +kernel) ⟨_, rfl, rfl, _, rfl, iteFh (by decide +kernel) ?_⟩⟩⟩⟩⟩
    refine ⟨_, rfl, p, _, _, _, rfl, rfl, SqT.of hp, at1 _ _ _, _, rfl, _, rfl, vx, x, a, b, st, pr, rfl, hx, hA, hB, hok.1, by lia, _, rfl, ?_⟩
    cases e : x.worth st pr with
    | true =>
      refine iteT ?_
      have z : (Wd.or x y).worth st pr = true := by show (x.worth st pr || y.worth st pr) = true; rw [e]; rfl
      rw [z] at q
      exact q
    | false =>
      have z : (Wd.or x y).worth st pr = y.worth st pr := by show (x.worth st pr || y.worth st pr) = _; rw [e]; rfl
      rw [z] at q
      exact iteF ⟨_, rfl, p, _, _, _, rfl, rfl, SqT.of hp, at2 _ _ _ _, _, rfl, _, rfl, vy, y, a, b, st, pr, rfl, hy, hA, hB, hok.2, by lia, q⟩
theorem ok_worth (F : Fun K "worth" "worth" sWorth f fd) (b : Binds K fd ["word", "stand", "pressed"] []) (m : mg "worth" = some (.ref f)) : ∀ n : Nat, FnOk P w K mg base CX0 (n + 1) f fd ["word", "stand", "pressed"] (spWorth n)
  | 0 => no_calls fun vs H Q E h => by
    obtain ⟨_, wd, _, _, _, _, _, _, _, _, _, hd, _⟩ := h
    have := depth_pos wd
    lia
  | n + 1 => step_worth F ⟨f, fd, ok_worth F b m n, b, F.kp, m⟩
theorem ok_allrows (F : Fun K "all_rows" "all_rows" sAllRows f fd) (mr : mg "range" = none) : FnOk P w K mg base CX0 1 f fd ["count"] spAllRows := by
  have S : FnScope ["count", "rows", "place"] ["count"] (defScope sAllRows) := ⟨rfl, rfl, rfl, by decide +kernel, rfl, by decide +kernel, by decide +kernel⟩
  refine F.ok S (fun vs H Q E h => ?_) (fun cdv A outer s H vs Q E hr h => ?_)
  · obtain ⟨n, rfl, _⟩ := h
    rfl
  obtain ⟨n, rfl, hn, q⟩ := h
  refine ⟨_, pss_cons (ps_set (i := 1) S.nd rfl (Or.inl rfl) (pe_lst (pa_cons (pe_tup pa_nil) pa_nil)))
    (pss_cons (ps_for PassesOwn.never rfl (pi_range1 rfl mr (pa_cons (pv 0) pa_nil)) (pg_name (i := 2) S.nd rfl (Or.inl rfl))
      (pss_one (ps_set (i := 1) S.nd rfl (Or.inl rfl) (pe_op op_cat
        (pe_comp (ys := []) (ix := []) (.of S {}) rfl (pi_list (pv 1)) (fun _ _ _ _ => pts_nil) (fun cl s3 H3 fp => pe_op op_catA (pv 0) (pe_tup (pa_cons pe_bl pa_nil))))
        (pe_comp (ys := []) (ix := []) (.of S {}) rfl (pi_list (pv 1)) (fun _ _ _ _ => pts_nil) (fun cl s3 H3 fp => pe_op op_catA (pv 0) (pe_tup (pa_cons pe_bl pa_nil))))))))
    (pss_one (ps_ret (pv 1)))), ?_⟩
  refine ⟨(by show 0 ≤ sizeLine; decide), fun p0 hp0 => ⟨(by show 1 ≤ sizeLine; decide), fun D0 hD0 => ?_⟩⟩
  have n0 := Same.new hp0 (.tup [])
  have n1 := Same.new hD0 (.lst [.ref p0])
  refine ⟨_, rfl, n, rfl, by lia, by lia, ?_⟩
  refine for_range (fun i σ H' => ∃ D us o, σ = [some (.int n), some (.ref D), o] ∧ Same H H' ∧ H' D = some (.lst us) ∧ RowsAt H' (allRows i) us)
    ⟨D0, [.ref p0], _, rfl, n0.trans n1, upd_same, rfl, fun i v e => ?_⟩ ?_ ?_
  · cases i with
    | zero => cases e; exact ⟨[], p0, rfl, rfl, n1 _ _ upd_same⟩
    | succ i => simp at e
  · rintro i σ H' hi ⟨D, us, o, rfl, hS, hD, hR⟩
    have hi' : i < 6 := by have : i < n := by simpa using hi
                           lia
    have hl : us.length ≤ 64 := by
      rw [hR.1, allRows_len]
      exact Nat.pow_le_pow_right (by decide) (Nat.le_of_lt hi')
    have one : ∀ (b : Bool) (H1 : Hp) (Q' : VK), Same H' H1 → (∀ D2 us2 H2, Same H1 H2 → H2 D2 = some (.lst us2) → RowsAt H2 ((allRows i).map (· ++ [b])) us2 → Q' (.ref D2) H2) →
        bodyC (Itl K D) noIf (tOp rCatA (tVar 0) (tTup (tCons (tC (.bl b)) tNil))) (slotsC [] [some (V.int n), some (V.ref D), some (V.int (0 + (i : Nat)))]) Q' H1 := fun b H1 Q' s1 fin => by
      refine body_list (SqL.of (s1 _ _ hD)) (sz (by lia)) (fun j y H => ∃ bs a, (allRows i)[j]? = some bs ∧ y = .ref a ∧ BAt H a (bs ++ [b])) (fun j y H H' t ⟨bs, a, e1, e2, e3⟩ => ⟨bs, a, e1, e2, t _ _ e3⟩) (fun j x H2 R hx s2 hR' => ?_) (fun D2 us2 H2 hD2 s2 hl2 hlen hG => ?_)
      · obtain ⟨bs, a, e1, rfl, e3⟩ := hR.2 j x hx
        have e3' := s2 _ _ (s1 _ _ e3)
        have hb : bs.length ≤ 63 := by
          have hj : j < 2 ^ i := by rw [← allRows_len]; exact (List.getElem?_eq_some_iff.mp e1).1
          rw [allRows_get i j hj] at e1
          cases e1
          rw [bits_length]
          lia
        refine ⟨_, rfl, (by show 1 ≤ sizeLine; decide), fun p hp => ⟨a, p, bs.map V.bl, [.bl b], rfl, rfl, Same.new hp _ _ _ e3', upd_same, ?_, fun p2 H3 s3 h3 => ?_⟩⟩
        · rw [List.length_map, List.length_singleton]; exact sz (by lia)
        · refine hR' _ _ ((Same.new hp _).trans s3) ⟨bs, p2, e1, rfl, ?_⟩
          show H3 p2 = some (.tup ((bs ++ [b]).map V.bl))
          rw [h3, List.map_append]
          rfl
      · refine fin D2 us2 H2 s2 hl2 ⟨by rw [hlen, hR.1, List.length_map], fun j v e => ?_⟩
        obtain ⟨bs, a, e1, e2, e3⟩ := hG j v e
        exact ⟨bs ++ [b], a, by rw [List.getElem?_map, e1]; rfl, e2, e3⟩
    refine ⟨_, rfl, D, rfl, ⟨us, SqL.of hD⟩, one false H' _ (Same.refl _) fun D1 u1 H1 s1 hD1 hR1 => ?_⟩
    refine ⟨_, rfl, D, rfl, ⟨us, SqL.of (s1 _ _ hD)⟩, one true H1 _ s1 fun D2 u2 H2 s2 hD2 hR2 => ?_⟩
    refine ⟨D1, D2, u1, u2, rfl, rfl, s2 _ _ hD1, hD2, ?_, fun p hp => ?_⟩
    · rw [hR1.1, hR2.1, List.length_map, List.length_map, ← hR.1]
      exact sz (by lia)
    have n3 := Same.new hp (.lst (u1 ++ u2))
    exact ⟨p, u1 ++ u2, _, rfl, hS.trans (s1.trans (s2.trans n3)), upd_same, (hR1.mono (s2.trans n3).tup).append (hR2.mono n3.tup)⟩
  · rintro σ H' ⟨D, us, o, rfl, hS, hD, hR⟩
    exact ⟨_, rfl, q D us H' hS hD (by simpa using hR)⟩
theorem ok_parts (F : Fun K "parts" "parts" sParts f fd) : FnOk P w K mg base CX0 1 f fd ["word"] spParts := by
  have S : FnScope ["word"] ["word"] (defScope sParts) := ⟨rfl, rfl, rfl, by decide +kernel, rfl, by decide +kernel, by decide +kernel⟩
  refine F.ok S (fun vs H Q E h => ?_) (fun cdv A outer s H vs Q E hr h => ?_)
  · obtain ⟨v, wd, rfl, _⟩ := h
    rfl
  obtain ⟨v, wd, rfl, hW, q⟩ := h
  refine ⟨_, (pss_cons (ps_if (pt_cmpR (op_in_seqK (K := K) rfl) (pe_ix (ix_tupK (K := K) rfl) (pv 0) pe_int (fun _ _ => rfl)) (pe_tup (pa_cons pe_str (pa_cons pe_str (pa_cons pe_str pa_nil)))) rfl) (pss_one (ps_ret (pe_slice (sl_tupK (K := K) rfl) (pv 0) (po_some pe_int) po_none))) pss_nil)
    (pss_one (ps_ret (pe_tup pa_nil)))), ?_⟩
  obtain ⟨p, kd, xs, rfl, hp, hl, hk⟩ := word_head hW
  refine ⟨_, rfl, p, _, _, _, rfl, rfl, SqT.of hp, at0 _ _, (by show 3 ≤ sizeLine; decide), fun p1 hp1 => ?_⟩
  have n1 := Same.new hp1 (.tup [.str "not", .str "and", .str "or"])
  refine ⟨p1, _, rfl, .inr (SqT.of upd_same), rfl, rfl, _, rfl, ?_⟩
  have none_ : ∀ (H1 : Hp), Same H H1 → wd.parts = [] → 0 ≤ sizeLine ∧ ∀ r, H1 r = none → Q (.ref r) (upd H1 r (.tup [])) := fun H1 s1 e => ⟨by decide, fun r hr => q r [] _ (s1.trans (Same.new hr _)) upd_same (by rw [e]; exact ws_nil)⟩
  rcases hk with ⟨k, rfl, rfl, rfl⟩ | ⟨k, rfl, rfl, rfl⟩ | ⟨k1, k2, hws, k3, k4, k5⟩
  · exact iteFh (by decide +kernel) (none_ _ n1 rfl)
  · exact iteFh (by decide +kernel) (none_ _ n1 rfl)
  · cases hi : inV (.str kd) [.str "not", .str "and", .str "or"] with
    | false => exact iteFh rfl (none_ _ n1 (k5 hi))
    | true =>
      refine iteTh rfl ⟨_, rfl, _, rfl, p, _, rfl, SqT.of (n1 _ _ hp), cut_part _ _, fun p2 hp2 => ?_⟩
      rw [cut_tail]
      have n2 := Same.new hp2 (.tup xs)
      exact q p2 xs _ (n1.trans n2) upd_same (hws.mono (n1.trans n2).tup)
theorem ok_can (F : Fun K "can_move" "can_move" sCanMove f fd) (d_worth : Callee P w K mg base "worth" 9 ["word", "stand", "pressed"] (spWorth 8)) : FnOk P w K mg base CX0 10 f fd ["board", "pressed", "stand", "relay"] (spCan K) := by
  have S : FnScope ["board", "pressed", "stand", "relay"] ["board", "pressed", "stand", "relay"] (defScope sCanMove) := ⟨rfl, rfl, rfl, by decide +kernel, rfl, by decide +kernel, by decide +kernel⟩
  refine F.ok S (fun vs H Q E h => ?_) (fun cdv A outer s H vs Q E hr h => ?_)
  · obtain ⟨D, b, a, ws, pr, st, k, rfl, _⟩ := h
    rfl
  obtain ⟨D, b, a, ws, pr, st, k, rfl, hB, hA, hl, hk, q⟩ := h
  refine ⟨_, (pss_one (ps_ret (pe_cmpR op_ne (pe_callD d_worth hr (by lia) rfl (pa_cons (pe_ix (ix_listK (K := K) rfl) (pv 0) (pv 3) (fun _ _ => rfl)) (pa_cons (pv 2) (pa_cons (pv 1) pa_nil)))) (pe_ix (ix_tupK (K := K) rfl) (pv 2) (pv 3) (fun _ _ => rfl)) (nomark _)))), ?_⟩
  obtain ⟨us, v, u1, u2, u3, u4, u5, u6⟩ := hB.at hk
  have hk' : (k : Int) < st.length := by lia
  refine ⟨_, rfl, _, rfl, D, us, k, v, rfl, rfl, u1, u3, _, rfl, _, rfl, v, _, a, b, st, pr, rfl, u4, hA, hB.p, (by rw [hl]; exact u5), u6, ?_⟩
  refine ⟨_, rfl, _, rfl, a, _, k, _, rfl, rfl, SqT.of hA, bools_at (by lia) hk', rfl, ?_⟩
  rw [dec_bl]
  exact q
theorem ok_movable (F : Fun K "movable" "movable" sMovable f fd) (d_can_move : Callee P w K mg base "can_move" 10 ["board", "pressed", "stand", "relay"] (spCan K)) (n_len : mg "len" = none) (n_range : mg "range" = none) : FnOk P w K mg base CX0 11 f fd ["board", "pressed", "stand"] (spMovable K) := by
  have S : FnScope ["board", "pressed", "stand"] ["board", "pressed", "stand"] (defScope sMovable) := ⟨rfl, rfl, rfl, by decide +kernel, rfl, by decide +kernel, by decide +kernel⟩
  refine F.ok S (fun vs H Q E h => ?_) (fun cdv A outer s H vs Q E hr h => ?_)
  · obtain ⟨D, b, a, ws, pr, st, rfl, _⟩ := h
    rfl
  obtain ⟨D, b, a, ws, pr, st, rfl, hB, hA, hl, q⟩ := h
  refine ⟨_, (pss_one (ps_ret (pe_comp (ys := ["board", "pressed", "stand"]) (ix := [0, 1, 2]) (.of S {}) rfl (pi_range1 rfl n_range (pa_cons (pe_callB (call_len_seqK (K := K) rfl) rfl n_len PySem.boot_len (pa_cons (pv 0) pa_nil)) pa_nil)) (fun cl s3 H3 fp => pts_one (pt_val (pe_callD d_can_move hr (by lia) rfl (pa_cons (pv 1) (pa_cons (pv 2) (pa_cons (pv 3) (pa_cons (pv 0) pa_nil))))))) (fun cl s3 H3 fp => (pv 0))))), ?_⟩
  obtain ⟨us, u1, u2⟩ := hB.l
  have hn := hB.n
  have hlu := u2.1
  refine ⟨_, rfl, D, us, rfl, .inl u1, us.length, rfl, by lia, by lia, ?_⟩
  refine body_rngF (by exact sz (by lia)) (canM ws pr st) (fun i y H => y = .int i) (fun _ _ _ _ _ h => h) (fun i H2 R hi s2 hR => ?_) (fun i H2 R hi hk s2 hR => ?_) (fun l ys H2 hl0 s2 hl2 hP => ?_)
  · have e0 : (0 : Int) + (i : Int) = (i : Int) := by lia
    rw [e0]
    refine ⟨_, rfl, _, rfl, _, rfl, _, rfl, D, b, a, ws, pr, st, i, rfl, hB.mono s2, s2 _ _ hA, hl, by lia, ?_⟩
    exact ⟨_, rfl, hR _ (Same.refl _)⟩
  · exact ⟨_, rfl, hR _ _ (Same.refl _) (by rw [Int.zero_add])⟩
  · refine q l H2 hl0 s2 ?_
    rw [hl2, paired_map hP]
    unfold nats movs
    rw [← hlu]
    simp
theorem ok_moved (F : Fun K "moved" "moved" sMoved f fd) : FnOk P w K mg base CX0 1 f fd ["stand", "relay"] spMoved := by
  have S : FnScope ["stand", "relay"] ["stand", "relay"] (defScope sMoved) := ⟨rfl, rfl, rfl, by decide +kernel, rfl, by decide +kernel, by decide +kernel⟩
  refine F.ok S (fun vs H Q E h => ?_) (fun cdv A outer s H vs Q E hr h => ?_)
  · obtain ⟨a, st, k, rfl, _⟩ := h
    rfl
  obtain ⟨a, st, k, rfl, hA, hk, hn, q⟩ := h
  refine ⟨_, (pss_one (ps_ret (pe_op op_catA (pe_op op_catA (pe_slice (sl_tupK (K := K) rfl) (pv 0) po_none (po_some (pv 1))) (pe_tup (pa_cons (pe_not (pe_ix (ix_tupK (K := K) rfl) (pv 0) (pv 1) (fun _ _ => rfl))) pa_nil))) (pe_slice (sl_tupK (K := K) rfl) (pv 0) (po_some (pe_op op_add (pv 1) pe_int)) po_none)))), ?_⟩
  have hm : (st.map V.bl).length = st.length := List.length_map _
  refine ⟨_, rfl, _, rfl, _, rfl, a, _, rfl, SqT.of hA, ?_, fun p1 h1 => ?_⟩
  · rw [hm, HT.sIx_nat]; lia
  rw [cut_take _ _ (by rw [hm]; lia)]
  have n1 := Same.new h1 (.tup ((st.map V.bl).take k))
  refine ⟨_, rfl, _, rfl, a, _, k, _, rfl, rfl, SqT.of (n1 _ _ hA), bools_at (by lia) (by lia), _, rfl, (by show 1 ≤ sizeLine; decide), fun p2 h2 => ?_⟩
  have n2 := Same.new h2 (.tup [.bl (!st.getD k false)])
  refine ⟨p1, p2, _, _, rfl, rfl, n2 _ _ upd_same, upd_same, ?_, fun p3 H3 s3 h3 => ?_⟩
  · rw [List.length_take, hm]; exact sz (by simp; lia)
  refine ⟨_, rfl, _, rfl, _, _, rfl, rfl, _, rfl, a, _, rfl, SqT.of (s3 _ _ (n2 _ _ (n1 _ _ hA))), ?_, fun p4 h4 => ?_⟩
  · have e : ((k : Int) + 1) = ((k + 1 : Nat) : Int) := by lia
    rw [e, hm, HT.sIx_nat]; lia
  rw [show ((k : Int) + 1) = ((k + 1 : Nat) : Int) from by lia, cut_drop _ _ (by rw [hm]; lia)]
  have n4 := Same.new h4 (.tup ((st.map V.bl).drop (k + 1)))
  refine ⟨p3, p4, _, _, rfl, rfl, n4 _ _ h3, upd_same, ?_, fun p5 H5 s5 h5 => q p5 H5 (n1.trans (n2.trans (s3.trans (n4.trans s5)))) ?_⟩
  · rw [List.length_append, List.length_take, List.length_drop, hm]; exact sz (by simp; lia)
  show H5 p5 = some (.tup ((flip st k).map V.bl))
  rw [h5]
  unfold flip
  rw [List.set_eq_take_append_cons_drop, if_pos hk]
  simp
theorem ok_rests (F : Fun K "rests" "rests" sRests f fd) (d_all_rows : Callee P w K mg base "all_rows" 1 ["count"] spAllRows) (d_movable : Callee P w K mg base "movable" 11 ["board", "pressed", "stand"] (spMovable K)) (n_len : mg "len" = none) : FnOk P w K mg base CX0 12 f fd ["board", "pressed"] (spRests K) := by
  have S : FnScope ["board", "pressed"] ["board", "pressed"] (defScope sRests) := ⟨rfl, rfl, rfl, by decide +kernel, rfl, by decide +kernel, by decide +kernel⟩
  refine F.ok S (fun vs H Q E h => ?_) (fun cdv A outer s H vs Q E hr h => ?_)
  · obtain ⟨D, b, ws, pr, rfl, _⟩ := h
    rfl
  obtain ⟨D, b, ws, pr, rfl, hB, q⟩ := h
  refine ⟨_, (pss_one (ps_ret (pe_comp (ys := ["board", "pressed"]) (ix := [0, 1]) (.of S {}) rfl (pi_listK (K := K) rfl (pe_callD d_all_rows hr (by lia) rfl (pa_cons (pe_callB (call_len_seqK (K := K) rfl) rfl n_len PySem.boot_len (pa_cons (pv 0) pa_nil)) pa_nil))) (fun cl s3 H3 fp => pts_one (pt_not (pt_truthK (K := K) rfl (pe_callD d_movable hr (by lia) rfl (pa_cons (pv 1) (pa_cons (pv 2) (pa_cons (pv 0) pa_nil)))) (fun _ => rfl)))) (fun cl s3 H3 fp => (pv 0))))), ?_⟩
  obtain ⟨us, u1, u2⟩ := hB.l
  have hn := hB.n
  have hlu := u2.1
  refine ⟨_, rfl, D, us, rfl, .inl u1, us.length, rfl, by lia, fun R rs H1 s1 hR1 hRs => ?_⟩
  have hlr : rs.length = 2 ^ us.length := by rw [hRs.1, allRows_len]
  have h64 : rs.length ≤ 64 := by rw [hlr]; exact Nat.le_trans (Nat.pow_le_pow_right (by decide) (show us.length ≤ 6 by lia)) (by decide)
  refine ⟨R, rfl, ⟨rs, SqL.of hR1⟩, ?_⟩
  have row : ∀ (i : Nat) x, rs[i]? = some x → ∃ a, x = .ref a ∧ BAt H1 a (bitsOf (i : Int) us.length) ∧ i < 2 ^ us.length := fun i x hx => by
    obtain ⟨bs, a, e1, e2, e3⟩ := hRs.2 i x hx
    have hi : i < 2 ^ us.length := by rw [← hlr]; exact (List.getElem?_eq_some_iff.mp hx).1
    rw [allRows_get _ _ hi] at e1
    cases e1
    exact ⟨a, e2, e3, hi⟩
  refine body_listF (SqL.of hR1) (sz (by lia)) (fun i => isRest ws pr (bitsOf (i : Int) us.length)) (fun i y H => ∃ a, y = V.ref a ∧ BAt H a (bitsOf (i : Int) us.length)) (fun _ _ _ _ t ⟨a, e, h⟩ => ⟨a, e, t _ _ h⟩) (fun i x H2 R' hx s2 hR' => ?_) (fun i x H2 R' hx hk s2 hR' => ?_) (fun l ys H2 hl0 s2 hl2 hP => ?_)
  · obtain ⟨a, rfl, ha, hi⟩ := row i x hx
    refine ⟨_, rfl, _, rfl, _, rfl, D, b, a, ws, pr, _, rfl, hB.mono (s1.trans s2), s2 _ _ ha, by rw [bits_length]; lia, fun l3 H3 h0 s3 h3 => ?_⟩
    refine ⟨!(movs ws pr (bitsOf (i : Int) us.length)).isEmpty, .inl ⟨_, SqL.of h3, by unfold nats; simp⟩, ?_⟩
    show R' (!!(movs ws pr (bitsOf (i : Int) us.length)).isEmpty) H3
    rw [Bool.not_not]
    exact hR' _ s3
  · obtain ⟨a, rfl, ha, hi⟩ := row i x hx
    exact ⟨_, rfl, hR' _ _ (Same.refl _) ⟨a, rfl, s2 _ _ ha⟩⟩
  · refine q l ys H2 (s1.free hl0) (s1.trans s2) hl2 ?_
    unfold RowsAt' restsOf
    rw [allRows_eq, ← hlu, List.filter_map]
    rw [hlr] at hP
    exact paired_of_map hP
theorem ok_refused (F : Fun K "_law_refused" "_law_refused" sLRefused f fd) (n_range : mg "range" = none) : FnOk P w K mg base CX0 1 f fd ["marks", "which"] spRefused := by
  have S : FnScope ["marks", "which"] ["marks", "which"] (defScope sLRefused) := ⟨rfl, rfl, rfl, by decide +kernel, rfl, by decide +kernel, by decide +kernel⟩
  refine F.ok S (fun vs H Q E h => ?_) (fun cdv A outer s H vs Q E hr h => ?_)
  · obtain ⟨m, k, rfl, _⟩ := h
    rfl
  obtain ⟨m, k, rfl, hm, q⟩ := h
  refine ⟨_, (pss_one (ps_ret (pe_cmpR (op_eqD (K := K) rfl hr.units) (pv 0) (pe_op op_cat (pe_comp (ys := ["which"]) (ix := [1]) (.of S {}) rfl (pi_range1 rfl n_range (pa_cons pe_int pa_nil)) (fun _ _ _ _ => pts_nil) (fun cl s3 H3 fp => (pe_cmpR op_eq (pv 0) (pv 1) (nomark _)))) (pe_lst (pa_cons pe_bl pa_nil))) (nomark _)))), ?_⟩
  refine ⟨_, rfl, 6, rfl, by decide, by decide, ?_⟩
  refine body_rng (by exact sz (by decide)) (fun i y H => y = .bl (decide (i = k))) (fun _ _ _ _ _ h => h) (fun i H2 R hi s2 hR => ?_) (fun D us H2 hD s2 hl hlen hG => ?_)
  · refine ⟨_, rfl, _, rfl, rfl, hR _ _ (Same.refl _) ?_⟩
    refine congrArg V.bl (decide_eq_decide.mpr ⟨fun z => by injection z with z; lia, fun z => by subst z; rw [Int.zero_add]⟩)
  · have eu : us = ((List.range 6).map fun i => decide (i = k)).map V.bl := list_ext (by simpa using hlen) fun i y hy => by
      have hi : i < 6 := by have := (List.getElem?_eq_some_iff.mp hy).1; rw [hlen] at this; exact this
      rw [hG i y hy]
      simp [hi]
    refine ⟨(by show 1 ≤ sizeLine; decide), fun p hp => ?_⟩
    have n3 := Same.new hp (.lst [.bl true])
    refine ⟨D, p, us, [.bl true], rfl, rfl, n3 _ _ hl, upd_same, ?_, fun p4 hp4 => ?_⟩
    · rw [hlen]; exact sz (by decide)
    have n4 := Same.new hp4 (.lst (us ++ [.bl true]))
    have e4 : us ++ [V.bl true] = (marksOf k).map V.bl := by rw [eu]; simp [marksOf]
    refine ⟨.list ((marksOf k).map PyData.bool), .list ((marksOf k).map PyData.bool), .list (SqL.of (n4 _ _ (n3 _ _ (s2 _ _ hm)))) (DsAt.map (fun b => .bool b) _), .list (SqL.of (by rw [upd_same, e4])) (DsAt.map (fun b => .bool b) _), ?_, ?_, ?_, ?_⟩
    · rw [lay_lst]; exact lay_bools _
    · rw [lay_lst]; exact lay_bools _
    · left
      have h1 := depth_bools (marksOf k)
      simp only [PyData.depth]
      lia
    · have e : PyData.eqv (.list ((marksOf k).map PyData.bool)) (.list ((marksOf k).map PyData.bool)) = true := SeqAt.eqv_refl _ (by rw [lay_lst]; exact lay_bools _)
      rw [e]
      exact q _ (s2.trans (n3.trans n4))
theorem word_of {H H' : Hp} {wd : Wd} {R B : Int} {p q : Addr} {kd : Str} {xs ys : List V} (h : WAt H wd (.ref p)) (hp : H p = some (.tup (.str kd :: xs))) (h1 : ∀ k, wd ≠ .relay k) (h2 : ∀ k, wd ≠ .button k) (hq : H' q = some (.tup (.str kd :: ys))) (hw : WsAt H' (wd.parts.map (Wd.shift R B)) ys) : WAt H' (wd.shift R B) (.ref q) := by
  have kd_of : ∀ {kd' : Str} {xs' : List V}, H p = some (.tup (.str kd' :: xs')) → kd = kd' := fun e => by
    rw [hp] at e
    injection e with e
    injection e with e
    injection e with e e2
    injection e with e
  cases wd with
  | relay k => exact absurd rfl (h1 k)
  | button k => exact absurd rfl (h2 k)
  | on =>
    obtain ⟨p', e, k⟩ := h
    cases e
    have hl : ys.length = 0 := hw.1
    have := List.length_eq_zero_iff.mp hl
    subst this
    obtain rfl := kd_of k
    exact ⟨q, rfl, hq⟩
  | off =>
    obtain ⟨p', e, k⟩ := h
    cases e
    have hl : ys.length = 0 := hw.1
    have := List.length_eq_zero_iff.mp hl
    subst this
    obtain rfl := kd_of k
    exact ⟨q, rfl, hq⟩
  | nt a =>
    obtain ⟨p', x, e, k, _⟩ := h
    cases e
    have hl : ys.length = 1 := hw.1
    obtain ⟨y, rfl⟩ := List.length_eq_one_iff.mp hl
    obtain rfl := kd_of k
    obtain ⟨wd, e1, e2⟩ := hw.2 0 y rfl
    simp [Wd.parts] at e1
    subst e1
    exact ⟨q, y, rfl, hq, e2⟩
  | an a b =>
    obtain ⟨p', x, x', e, k, _⟩ := h
    cases e
    have hl : ys.length = 2 := hw.1
    obtain ⟨y, z, rfl⟩ : ∃ y z, ys = [y, z] := by
      match ys, hl with
      | [y, z], _ => exact ⟨y, z, rfl⟩
    obtain rfl := kd_of k
    obtain ⟨wd, e1, e2⟩ := hw.2 0 y rfl
    obtain ⟨wd', e3, e4⟩ := hw.2 1 z rfl
    simp [Wd.parts] at e1 e3
    subst e1 e3
    exact ⟨q, y, z, rfl, hq, e2, e4⟩
  | or a b =>
    obtain ⟨p', x, x', e, k, _⟩ := h
    cases e
    have hl : ys.length = 2 := hw.1
    obtain ⟨y, z, rfl⟩ : ∃ y z, ys = [y, z] := by
      match ys, hl with
      | [y, z], _ => exact ⟨y, z, rfl⟩
    obtain rfl := kd_of k
    obtain ⟨wd, e1, e2⟩ := hw.2 0 y rfl
    obtain ⟨wd', e3, e4⟩ := hw.2 1 z rfl
    simp [Wd.parts] at e1 e3
    subst e1 e3
    exact ⟨q, y, z, rfl, hq, e2, e4⟩
theorem step_lon {n : Nat} (F : Fun K "_law_on" "_law_on" sLOn f fd) (d_law_on : Callee P w K mg base "_law_on" (n + 1) ["word", "relays", "buttons"] (spOn n)) (n_tuple : mg "tuple" = none) : FnOk P w K mg base CX0 (n + 2) f fd ["word", "relays", "buttons"] (spOn (n + 1)) := by
  have S : FnScope ["word", "relays", "buttons"] ["word", "relays", "buttons"] (defScope sLOn) := ⟨rfl, rfl, rfl, by decide +kernel, rfl, by decide +kernel, by decide +kernel⟩
  refine F.ok S (fun vs H Q E h => ?_) (fun cdv A outer s H vs Q E hr h => ?_)
  · obtain ⟨v, wd, R, B, rfl, _⟩ := h
    rfl
  obtain ⟨v, wd, R, B, rfl, hW, hd, q⟩ := h
  refine ⟨_, (pss_cons (ps_if (pt_cmpR op_eq (pe_ix (ix_tupK (K := K) rfl) (pv 0) pe_int (fun _ _ => rfl)) pe_str (nomark _)) (pss_one (ps_ret (pe_tup (pa_cons pe_str (pa_cons (pe_op op_add (pe_ix (ix_tupK (K := K) rfl) (pv 0) pe_int (fun _ _ => rfl)) (pv 1)) pa_nil))))) pss_nil)
    (pss_cons (ps_if (pt_cmpR op_eq (pe_ix (ix_tupK (K := K) rfl) (pv 0) pe_int (fun _ _ => rfl)) pe_str (nomark _)) (pss_one (ps_ret (pe_tup (pa_cons pe_str (pa_cons (pe_op op_add (pe_ix (ix_tupK (K := K) rfl) (pv 0) pe_int (fun _ _ => rfl)) (pv 2)) pa_nil))))) pss_nil)
    (pss_one (ps_ret (pe_op op_catA (pe_tup (pa_cons (pe_ix (ix_tupK (K := K) rfl) (pv 0) pe_int (fun _ _ => rfl)) pa_nil)) (pe_callTy (call_tuple_ofK (K := K) rfl) rfl n_tuple PyProof.Rows.boot_tuple (pa_cons (pe_comp (ys := ["relays", "buttons"]) (ix := [1, 2]) (.of S {}) rfl (pi_tupK (K := K) rfl (pe_slice (sl_tupK (K := K) rfl) (pv 0) (po_some pe_int) po_none)) (fun _ _ _ _ => pts_nil) (fun cl s3 H3 fp => (pe_callD d_law_on hr (by lia) rfl (pa_cons (pv 0) (pa_cons (pv 1) (pa_cons (pv 2) pa_nil)))))) pa_nil))))))), ?_⟩
  obtain ⟨p, kd, xs, rfl, hp, hl, hk⟩ := word_head hW
  rcases hk with ⟨k, rfl, rfl, rfl⟩ | ⟨k, rfl, rfl, rfl⟩ | ⟨k1, k2, hws, k3, k4, k5⟩
  · refine ⟨_, rfl, p, _, _, _, rfl, rfl, SqT.of hp, at0 _ _, rfl, _, rfl, iteTh (by decide +kernel) ?_⟩
    exact ⟨_, rfl, p, _, _, _, rfl, rfl, SqT.of hp, at1 _ _ _, _, rfl, _, _, rfl, rfl, (by show 2 ≤ sizeLine; decide), fun p2 hp2 => q _ _ (Same.new hp2 _) ⟨p2, rfl, upd_same⟩⟩
  · refine ⟨_, rfl, p, _, _, _, rfl, rfl, SqT.of hp, at0 _ _, rfl, _, rfl, iteFh (by decide +kernel) ⟨_, rfl, p, _, _, _, rfl, rfl, SqT.of hp, at0 _ _, rfl, _, rfl, iteTh (by decide +kernel) ?_⟩⟩
    exact ⟨_, rfl, p, _, _, _, rfl, rfl, SqT.of hp, at1 _ _ _, _, rfl, _, _, rfl, rfl, (by show 2 ≤ sizeLine; decide), fun p2 hp2 => q _ _ (Same.new hp2 _) ⟨p2, rfl, upd_same⟩⟩
  · refine ⟨_, rfl, p, _, _, _, rfl, rfl, SqT.of hp, at0 _ _, rfl, _, rfl, iteFh (decide_eq_false k1) ⟨_, rfl, p, _, _, _, rfl, rfl, SqT.of hp, at0 _ _, rfl, _, rfl, iteFh (decide_eq_false k2) ?_⟩⟩
    refine ⟨_, rfl, p, _, _, _, rfl, rfl, SqT.of hp, at0 _ _, (by show 1 ≤ sizeLine; decide), fun p1 hp1 => ?_⟩
    have n1 := Same.new hp1 (.tup [.str kd])
    have e1 : upd H p1 (.tup [.str kd]) p1 = some (.tup [.str kd]) := upd_same
    generalize upd H p1 (.tup [.str kd]) = H1 at n1 e1
    refine ⟨_, rfl, _, rfl, p, _, rfl, SqT.of (n1 _ _ hp), cut_part _ _, fun p2 hp2 => ?_⟩
    rw [cut_tail]
    have n2 := Same.new hp2 (.tup xs)
    have e2 : upd H1 p2 (.tup xs) p2 = some (.tup xs) := upd_same
    generalize upd H1 p2 (.tup xs) = H2 at n2 e2
    refine ⟨p2, rfl, ⟨xs, SqT.of e2⟩, ?_⟩
    have n12 := n1.trans n2
    have hws2 := hws.mono n12.tup
    refine body_tup (SqT.of e2) (sz (by lia)) (fun i y H => ∃ x, wd.parts[i]? = some x ∧ WAt H (x.shift R B) y) (fun _ _ _ _ st h => let ⟨x, a, b⟩ := h; ⟨x, a, b.mono st⟩) (fun i x H3 R' hx s3 hR => ?_) (fun D us H3 hD s3 hl3 hlen hG => ?_)
    · obtain ⟨wx, e3, e4⟩ := hws2.2 i x hx
      have := parts_depth (List.mem_of_getElem? e3)
      exact ⟨_, rfl, _, rfl, _, rfl, x, wx, R, B, rfl, e4.mono s3.tup, by lia, fun v' H4 s4 hv => hR _ _ s4 ⟨wx, e3, hv⟩⟩
    · have n3 := n12.trans s3
      refine ⟨D, us, rfl, .inl ⟨SqL.of hl3, fun p4 hp4 => ?_⟩⟩
      have n4 := Same.new hp4 (.tup us)
      have hlx : us.length ≤ 2 := by lia
      refine ⟨p1, p4, _, _, rfl, rfl, n4 _ _ (s3 _ _ (n2 _ _ e1)), upd_same, (by show 1 + us.length ≤ sizeLine; exact sz (by lia)), fun p5 H5 s5 h5 => ?_⟩
      have h5 : H5 p5 = some (.tup (.str kd :: us)) := h5
      refine q _ _ (n3.trans (n4.trans s5)) (word_of hW hp k3 k4 h5 ⟨by rw [List.length_map, hlen]; exact hws.1, fun i y hy => ?_⟩)
      obtain ⟨x, a1, a2⟩ := hG i y hy
      exact ⟨x.shift R B, by rw [List.getElem?_map, a1]; rfl, a2.mono (n4.trans s5).tup⟩
theorem ok_lon (F : Fun K "_law_on" "_law_on" sLOn f fd) (b : Binds K fd ["word", "relays", "buttons"] []) (m : mg "_law_on" = some (.ref f)) (n_tuple : mg "tuple" = none) :
    ∀ n : Nat, FnOk P w K mg base CX0 (n + 1) f fd ["word", "relays", "buttons"] (spOn n)
  | 0 => no_calls fun vs H Q E h => by
    obtain ⟨_, wd, _, _, _, _, hd, _⟩ := h
    have := depth_pos wd
    lia
  | n + 1 => step_lon F ⟨f, fd, ok_lon F b m n_tuple n, b, F.kp, m⟩ n_tuple
theorem step_non {n : Nat} (F : Fun K "numbered_on" "numbered_on" sNumberedOn f fd) (d_numbered_on : Callee P w K mg base "numbered_on" (n + 1) ["word", "relays", "buttons"] (spOn n)) (d_parts : Callee P w K mg base "parts" 1 ["word"] spParts) (n_tuple : mg "tuple" = none) : FnOk P w K mg base CX0 (n + 2) f fd ["word", "relays", "buttons"] (spOn (n + 1)) := by
  have S : FnScope ["word", "relays", "buttons", "kind"] ["word", "relays", "buttons"] (defScope sNumberedOn) := ⟨rfl, rfl, rfl, by decide +kernel, rfl, by decide +kernel, by decide +kernel⟩
  refine F.ok S (fun vs H Q E h => ?_) (fun cdv A outer s H vs Q E hr h => ?_)
  · obtain ⟨v, wd, R, B, rfl, _⟩ := h
    rfl
  obtain ⟨v, wd, R, B, rfl, hW, hd, q⟩ := h
  refine ⟨_, (pss_cons (ps_set (i := 3) S.nd rfl (Or.inl rfl) (pe_ix (ix_tupK (K := K) rfl) (pv 0) pe_int (fun _ _ => rfl)))
    (pss_cons (ps_if (pt_cmpR op_eq (pv 3) pe_str (nomark _)) (pss_one (ps_ret (pe_tup (pa_cons (pv 3) (pa_cons (pe_op op_add (pe_ix (ix_tupK (K := K) rfl) (pv 0) pe_int (fun _ _ => rfl)) (pv 1)) pa_nil))))) pss_nil)
    (pss_cons (ps_if (pt_cmpR op_eq (pv 3) pe_str (nomark _)) (pss_one (ps_ret (pe_tup (pa_cons (pv 3) (pa_cons (pe_op op_add (pe_ix (ix_tupK (K := K) rfl) (pv 0) pe_int (fun _ _ => rfl)) (pv 2)) pa_nil))))) pss_nil)
    (pss_one (ps_ret (pe_op op_catA (pe_tup (pa_cons (pv 3) pa_nil)) (pe_callTy (call_tuple_ofK (K := K) rfl) rfl n_tuple PyProof.Rows.boot_tuple (pa_cons (pe_comp (ys := ["relays", "buttons"]) (ix := [1, 2]) (.of S {}) rfl (pi_tupK (K := K) rfl (pe_callD d_parts hr (by lia) rfl (pa_cons (pv 0) pa_nil))) (fun _ _ _ _ => pts_nil) (fun cl s3 H3 fp => (pe_callD d_numbered_on hr (by lia) rfl (pa_cons (pv 0) (pa_cons (pv 1) (pa_cons (pv 2) pa_nil)))))) pa_nil)))))))), ?_⟩
  obtain ⟨p, kd, xs, rfl, hp, hl, hk⟩ := word_head hW
  refine ⟨_, rfl, p, _, _, _, rfl, rfl, SqT.of hp, at0 _ _, ?_⟩
  rcases hk with ⟨k, rfl, rfl, rfl⟩ | ⟨k, rfl, rfl, rfl⟩ | ⟨k1, k2, hws, k3, k4, k5⟩
  · refine ⟨_, rfl, rfl, _, rfl, iteTh (by decide +kernel) ?_⟩
    exact ⟨_, rfl, _, rfl, p, _, _, _, rfl, rfl, SqT.of hp, at1 _ _ _, _, rfl, _, _, rfl, rfl, (by show 2 ≤ sizeLine; decide), fun p2 hp2 => q _ _ (Same.new hp2 _) ⟨p2, rfl, upd_same⟩⟩
  · refine ⟨_, rfl, rfl, _, rfl, iteFh (by decide +kernel) ⟨_, rfl, rfl, _, rfl, iteTh (by decide +kernel) ?_⟩⟩
    exact ⟨_, rfl, _, rfl, p, _, _, _, rfl, rfl, SqT.of hp, at1 _ _ _, _, rfl, _, _, rfl, rfl, (by show 2 ≤ sizeLine; decide), fun p2 hp2 => q _ _ (Same.new hp2 _) ⟨p2, rfl, upd_same⟩⟩
  · refine ⟨_, rfl, rfl, _, rfl, iteFh (decide_eq_false k1) ⟨_, rfl, rfl, _, rfl, iteFh (decide_eq_false k2) ?_⟩⟩
    refine ⟨_, rfl, (by show 1 ≤ sizeLine; decide), fun p1 hp1 => ?_⟩
    have n1 := Same.new hp1 (.tup [.str kd])
    have e1 : upd H p1 (.tup [.str kd]) p1 = some (.tup [.str kd]) := upd_same
    generalize upd H p1 (.tup [.str kd]) = H1 at n1 e1
    refine ⟨_, rfl, .ref p, wd, rfl, hW.mono n1.tup, fun p2 xs2 H2 n2 e2 hws2 => ?_⟩
    refine ⟨p2, rfl, ⟨xs2, SqT.of e2⟩, ?_⟩
    have n12 := n1.trans n2
    have hl2 : xs2.length ≤ 2 := by
      have := hws.1
      have := hws2.1
      lia
    refine body_tup (SqT.of e2) (sz (by lia)) (fun i y H => ∃ x, wd.parts[i]? = some x ∧ WAt H (x.shift R B) y) (fun _ _ _ _ st h => let ⟨x, a, b⟩ := h; ⟨x, a, b.mono st⟩) (fun i x H3 R' hx s3 hR => ?_) (fun D us H3 hD s3 hl3 hlen hG => ?_)
    · obtain ⟨wx, e3, e4⟩ := hws2.2 i x hx
      have := parts_depth (List.mem_of_getElem? e3)
      exact ⟨_, rfl, _, rfl, _, rfl, x, wx, R, B, rfl, e4.mono s3.tup, by lia, fun v' H4 s4 hv => hR _ _ s4 ⟨wx, e3, hv⟩⟩
    · have n3 := n12.trans s3
      refine ⟨D, us, rfl, .inl ⟨SqL.of hl3, fun p4 hp4 => ?_⟩⟩
      have n4 := Same.new hp4 (.tup us)
      have hlx : us.length ≤ 2 := by lia
      refine ⟨p1, p4, _, _, rfl, rfl, n4 _ _ (s3 _ _ (n2 _ _ e1)), upd_same, (by show 1 + us.length ≤ sizeLine; exact sz (by lia)), fun p5 H5 s5 h5 => ?_⟩
      have h5 : H5 p5 = some (.tup (.str kd :: us)) := h5
      refine q _ _ (n3.trans (n4.trans s5)) (word_of hW hp k3 k4 h5 ⟨by rw [List.length_map, hlen]; exact hws2.1, fun i y hy => ?_⟩)
      obtain ⟨x, a1, a2⟩ := hG i y hy
      exact ⟨x.shift R B, by rw [List.getElem?_map, a1]; rfl, a2.mono (n4.trans s5).tup⟩
theorem ok_non (F : Fun K "numbered_on" "numbered_on" sNumberedOn f fd) (b : Binds K fd ["word", "relays", "buttons"] []) (m : mg "numbered_on" = some (.ref f)) (d_parts : Callee P w K mg base "parts" 1 ["word"] spParts) (n_tuple : mg "tuple" = none) :
    ∀ n : Nat, FnOk P w K mg base CX0 (n + 1) f fd ["word", "relays", "buttons"] (spOn n)
  | 0 => no_calls fun vs H Q E h => by
    obtain ⟨_, wd, _, _, _, _, hd, _⟩ := h
    have := depth_pos wd
    lia
  | n + 1 => step_non F ⟨f, fd, ok_non F b m d_parts n_tuple n, b, F.kp, m⟩ d_parts n_tuple
theorem ok_beside {t1 : Tok} {c0 : Addr} (F : Fun K "beside" "beside" sBeside f fd) (d_numbered_on : Callee P w K mg base "numbered_on" 9 ["word", "relays", "buttons"] (spOn 8)) (n_len : mg "len" = none) (n_list : mg "list" = none)
    (c_MOST_RELAYS : mg "MOST_RELAYS" = some (.int 6 t1)) (x_TooMany : ExcC K mg "TooMany" c0) : FnOk P w K mg base (CXr P w) 10 f fd ["one", "buttons", "other"] (spBeside c0) := by
  have S : FnScope ["one", "buttons", "other", "relays"] ["one", "buttons", "other"] (defScope sBeside) := ⟨rfl, rfl, rfl, by decide +kernel, rfl, by decide +kernel, by decide +kernel⟩
  refine F.okX S (fun vs H Q E h => ?_) (fun cdv A outer s H vs Q E hr h => ?_)
  · obtain ⟨D1, D2, us1, us2, ws1, ws2, B, rfl, _⟩ := h
    rfl
  obtain ⟨D1, D2, us1, us2, ws1, ws2, B, rfl, hD1, hW1, hD2, hW2, hl1, hl2, hdp, q⟩ := h
  refine ⟨_, (pss_cons (ps_set (i := 3) S.nd rfl (Or.inr rfl) (pe_callB (call_len_seqK (K := K) rfl) rfl n_len PySem.boot_len (pa_cons (pv 0) pa_nil)))
    (pss_cons (ps_if (pt_cmpR op_gt (pe_op op_add (pv 3) (pe_callB (call_len_seqK (K := K) rfl) rfl n_len PySem.boot_len (pa_cons (pv 2) pa_nil))) (pe_glob (v := .int 6) rfl c_MOST_RELAYS ⟨_, rfl⟩) (nomark _)) (pss_one (ps_raise x_TooMany hr.hd (pa_cons pe_str pa_nil) rfl)) pss_nil)
    (pss_one (ps_ret (pe_op op_cat (pe_callTy (call_list_ofK (K := K) rfl) rfl n_list PyProof.Rows.boot_list (pa_cons (pv 0) pa_nil)) (pe_comp (ys := ["buttons", "relays"]) (ix := [1, 3]) (.of S {}) rfl (pi_listK (K := K) rfl (pv 2)) (fun _ _ _ _ => pts_nil) (fun cl s3 H3 fp => (pe_callD d_numbered_on hr (by lia) rfl (pa_cons (pv 0) (pa_cons (pv 2) (pa_cons (pv 1) pa_nil))))))))))), ?_⟩
  have el1 := hW1.1
  have el2 := hW2.1
  refine ⟨_, rfl, D1, us1, rfl, .inl (SqL.of hD1), ?_⟩
  refine ⟨_, rfl, _, rfl, D2, us2, rfl, .inl (SqL.of hD2), _, _, rfl, rfl, _, _, rfl, rfl, _, rfl, ite2 (fun c => ?_) (fun c => ?_)⟩
  · have c' : (6 : Int) < ((us1.length : Nat) : Int) + ((us2.length : Nat) : Int) := of_decide_eq_true c
    rw [if_pos (by lia)] at q
    exact ⟨(by show 1 ≤ sizeLine; decide), q _ (Same.refl _)⟩
  have c' : ¬ (6 : Int) < ((us1.length : Nat) : Int) + ((us2.length : Nat) : Int) := of_decide_eq_false (Bool.eq_false_iff.mpr c)
  rw [if_neg (by lia)] at q
  refine ⟨_, rfl, D1, us1, rfl, .inl (SqL.of hD1), fun l1 hl1' => ?_⟩
  have n1 := Same.new hl1' (.lst us1)
  have e1 : upd H l1 (.lst us1) l1 = some (.lst us1) := upd_same
  generalize upd H l1 (.lst us1) = H1 at n1 e1
  refine ⟨_, rfl, D2, rfl, ⟨us2, SqL.of (n1 _ _ hD2)⟩, ?_⟩
  refine body_list (SqL.of (n1 _ _ hD2)) (sz (by lia)) (fun i y H => ∃ x, ws2[i]? = some x ∧ WAt H (x.shift ws1.length B) y) (fun _ _ _ _ st h => let ⟨x, a, b⟩ := h; ⟨x, a, b.mono st⟩) (fun i x H3 R' hx s3 hR => ?_) (fun D us H3 hD s3 hl3 hlen hG => ?_)
  · obtain ⟨wx, e3, e4⟩ := hW2.2 i x hx
    have hd := hdp wx (List.mem_of_getElem? e3)
    refine ⟨_, rfl, _, rfl, _, rfl, x, wx, (us1.length : Nat), B, rfl, e4.mono (n1.trans s3).tup, hd, fun v' H4 s4 hv => hR _ _ s4 ⟨wx, e3, ?_⟩⟩
    rw [← el1]
    exact hv
  · refine ⟨l1, D, us1, us, rfl, rfl, s3 _ _ e1, hl3, sz (by lia), fun p4 hp4 => ?_⟩
    have n4 := Same.new hp4 (.lst (us1 ++ us))
    refine q p4 (us1 ++ us) _ ?_ (n1.trans (s3.trans n4)) upd_same ?_
    · exact (n1.trans s3).free hp4
    · have t1 := (n1.trans (s3.trans n4)).tup
      refine ⟨by simp [sideI, el1, hlen, el2], fun i y hy => ?_⟩
      by_cases ci : i < us1.length
      · rw [List.getElem?_append_left ci] at hy
        obtain ⟨x, a1, a2⟩ := hW1.2 i y hy
        exact ⟨x, by unfold sideI; rw [List.getElem?_append_left (by lia)]; exact a1, a2.mono t1⟩
      · rw [List.getElem?_append_right (by lia)] at hy
        obtain ⟨x, a1, a2⟩ := hG _ y hy
        refine ⟨_, ?_, a2.mono n4.tup⟩
        unfold sideI
        rw [List.getElem?_append_right (by lia), List.getElem?_map, ← el1, a1]
        rfl
theorem beside_calm {c0 : Addr} (F : FnOk P w K mg base (CXr P w) 10 f fd ["one", "buttons", "other"] (spBeside c0)) : FnOk P w K mg base CX0 10 f fd ["one", "buttons", "other"] spBesideC :=
  F.calm fun vs H Q E h => by
    obtain ⟨D1, D2, us1, us2, ws1, ws2, B, e, h1, h2, h3, h4, h5, h6, q⟩ := h
    exact ⟨D1, D2, us1, us2, ws1, ws2, B, e, h1, h2, h3, h4, by lia, by lia, h6, by rw [if_neg (by lia)]; exact q⟩
theorem ok_toldb {c0 c1 c2 c3 c4 c5 cr : Addr} (F : Fun K "_law_told" "_law_told" sLTold f fd) (d_beside : CalleeX P w K mg base "beside" 10 ["one", "buttons", "other"] (spBeside c0)) (n_isinstance : mg "isinstance" = none) (n_ValueError : mg "ValueError" = none)
    (x_TooMany : ExcC K mg "TooMany" c0) (x_Deep : ExcC K mg "Deep" c1) (x_NoContact : ExcC K mg "NoContact" c2) (x_NoRelay : ExcC K mg "NoRelay" c3) (x_Still : ExcC K mg "Still" c4) (x_NoNote : ExcC K mg "NoNote" c5) (x_RoomError : ExcC K mg "RoomError" cr)
    (M : MarkE K c0 c0 c1 c2 c3 c4 c5 cr 0) : FnOk P w K mg base CX0 11 f fd ["one", "buttons", "other"] spTold11 := by
  have S : FnScope ["one", "buttons", "other", "found", "marks", "e"] ["one", "buttons", "other"] (defScope sLTold) := ⟨rfl, rfl, rfl, by decide +kernel, rfl, by decide +kernel, by decide +kernel⟩
  refine F.ok S (fun vs H Q E h => ?_) (fun cdv A outer s H vs Q E hr h => ?_)
  · obtain ⟨D1, D2, us1, us2, ws1, ws2, B, rfl, _⟩ := h
    rfl
  obtain ⟨D1, D2, us1, us2, ws1, ws2, B, rfl, hD1, hW1, hD2, hW2, hl1, hl2, hdp, q⟩ := h
  refine ⟨_, (pss_cons (ps_set (i := 3) S.nd rfl (Or.inl rfl) pe_non)
    (pss_cons (ps_set (i := 4) S.nd rfl (Or.inl rfl) (pe_lst pa_nil))
    (pss_cons (ps_tryCall (i := 3) (j := 5) d_beside hr (by lia) rfl rfl rfl rfl S.nd rfl (Or.inl rfl) (by first | exact .inl rfl | exact .inr rfl) rfl (pa_cons (pv 0) (pa_cons (pv 1) (pa_cons (pv 2) pa_nil))) rfl rfl x_RoomError rfl (fun _ => (pss_cons (ps_set (i := 4) S.nd rfl (Or.inl rfl) (pe_lst (pa_cons (pe_callB (call_isexc (K := K) rfl) rfl n_isinstance PyProof.Rows.boot_isinstance (pa_cons (pv 5) (pa_cons (pe_glob (v := .ref _) rfl x_TooMany.nm rfl) pa_nil))) (pa_cons (pe_callB (call_isexc (K := K) rfl) rfl n_isinstance PyProof.Rows.boot_isinstance (pa_cons (pv 5) (pa_cons (pe_glob (v := .ref _) rfl x_Deep.nm rfl) pa_nil))) (pa_cons (pe_callB (call_isexc (K := K) rfl) rfl n_isinstance PyProof.Rows.boot_isinstance (pa_cons (pv 5) (pa_cons (pe_glob (v := .ref _) rfl x_NoContact.nm rfl) pa_nil))) (pa_cons (pe_callB (call_isexc (K := K) rfl) rfl n_isinstance PyProof.Rows.boot_isinstance (pa_cons (pv 5) (pa_cons (pe_glob (v := .ref _) rfl x_NoRelay.nm rfl) pa_nil))) pa_nil))))))
    (pss_one (ps_set (i := 4) S.nd rfl (Or.inl rfl) (pe_op op_cat (pv 4) (pe_lst (pa_cons (pe_callB (call_isexc (K := K) rfl) rfl n_isinstance PyProof.Rows.boot_isinstance (pa_cons (pv 5) (pa_cons (pe_glob (v := .ref _) rfl x_Still.nm rfl) pa_nil))) (pa_cons (pe_callB (call_isexc (K := K) rfl) rfl n_isinstance PyProof.Rows.boot_isinstance (pa_cons (pv 5) (pa_cons (pe_glob (v := .ref _) rfl x_NoNote.nm rfl) pa_nil))) (pa_cons (pe_callB (call_isexc (K := K) rfl) rfl n_isinstance PyProof.Rows.boot_isinstance (pa_cons (pv 5) (pa_cons (pe_bltn (v := .ty "ValueError") rfl n_ValueError RR.boot_VE rfl) pa_nil))) pa_nil))))))))))
    (pss_one (ps_ret (pe_tup (pa_cons (pv 3) (pa_cons (pv 4) pa_nil)))))))), ?_⟩
  refine ⟨(by show 0 ≤ sizeLine; decide), fun l0 hl0 => ?_⟩
  have n0 := Same.new hl0 (.lst [])
  have e0 : upd H l0 (.lst []) l0 = some (.lst []) := upd_same
  generalize upd H l0 (.lst []) = H0 at n0 e0
  refine ⟨_, rfl, _, rfl, _, rfl, D1, D2, us1, us2, ws1, ws2, B, rfl, n0 _ _ hD1, hW1.mono n0.tup, n0 _ _ hD2, hW2.mono n0.tup, hl1, hl2, hdp, ?_⟩
  by_cases hc : 6 < ws1.length + ws2.length
  · rw [if_pos hc] at q ⊢
    intro H1 s1
    refine ⟨_, rfl, M.ex, M.m, fun e he => ?_⟩
    have n2 := Same.new he (ExcO e c0)
    have hE : upd H1 e (ExcO e c0) e = some (ExcO e c0) := upd_same
    generalize upd H1 e (ExcO e c0) = H2 at n2 hE
    refine ⟨_, rfl, e, _, _, _, _, rfl, hE, M.get, rfl, M.j0, _, rfl, e, _, _, _, _, rfl, hE, M.get, rfl, M.j1, _, rfl, e, _, _, _, _, rfl, hE, M.get, rfl, M.j2, _, rfl, e, _, _, _, _, rfl, hE, M.get, rfl, M.j3, (by show 4 ≤ sizeLine; decide), fun l3 hl3 => ?_⟩
    have n3 := Same.new hl3 (.lst [.bl (decide (0 = 0)), .bl (decide (1 = 0)), .bl (decide (2 = 0)), .bl (decide (3 = 0))])
    have hE3 := n3 _ _ hE
    refine ⟨_, rfl, _, rfl, e, _, _, _, _, rfl, hE3, M.get, rfl, M.j4, _, rfl, e, _, _, _, _, rfl, hE3, M.get, rfl, M.j5, _, rfl, e, _, _, _, _, rfl, hE3, M.get, rfl, M.jv, (by show 3 ≤ sizeLine; decide), fun l4 hl4 => ?_⟩
    have n4 := Same.new hl4 (.lst [.bl (decide (4 = 0)), .bl (decide (5 = 0)), .bl true])
    refine ⟨l3, l4, _, _, rfl, rfl, n4 _ _ upd_same, upd_same, (by show 7 ≤ sizeLine; decide), fun l5 hl5 => ?_⟩
    have n5 := Same.new hl5 (.lst ((marksOf 0).map V.bl))
    refine ⟨_, rfl, _, rfl, (by show 2 ≤ sizeLine; decide), fun p hp => ?_⟩
    have n6 := Same.new hp (.tup [.non, .ref l5])
    exact q p l5 _ _ (n0.trans (s1.trans (n2.trans (n3.trans (n4.trans (n5.trans n6)))))) upd_same (n6 _ _ upd_same)
  · rw [if_neg hc] at q ⊢
    intro D us H1 hD s1 h1 hW
    refine ⟨_, rfl, _, rfl, (by show 2 ≤ sizeLine; decide), fun p hp => ?_⟩
    have n2 := Same.new hp (.tup [.ref D, .ref l0])
    exact q p l0 D us _ (n0.free hD) (n0.trans (s1.trans n2)) upd_same (n2 _ _ (s1 _ _ e0)) (n2 _ _ h1) (hW.mono n2.tup)
end
end RR


end
section
set_option Elab.async false
set_option maxHeartbeats 4000000
set_option linter.all false
set_option maxRecDepth 100000
namespace RR
open PySem L2
section
variable {P : Program} {w : World} {K : PySem.W.Frag} {mg : Str → Option Value} {base : Heap} {f : Addr} {fd : FuncData}
inductive StW (H : Hp) (D b a d e : Addr) (ws : List Wd) (pr st : List Bool) (n : Nat) (σ : St) (H' : Hp) : Prop
  | mk : ∀ m dl us o, (σ = [some (.ref D), some (.ref b), some (.ref a), some (.ref d), some (.ref e), o]) → (Same H H') → (H' d = some (sD m)) → (H' e = some (.lst us)) → (RowsAt' H' dl us) → (Grow ws pr st m dl) → ((∀ s v, (s, v) ∈ m → SAt H' ws pr s v ∧ v ≠ .ref e)) → (n = 7 * (64 - m.length) + dl.length) → (dl.length ≤ 1 + 6 * m.length) → StW H D b a d e ws pr st n σ H'
theorem ok_steps (F : Fun K "steps_from" "steps_from" sStepsFrom f fd) (d_movable : Callee P w K mg base "movable" 11 ["board", "pressed", "stand"] (spMovable K)) (d_moved : Callee P w K mg base "moved" 1 ["stand", "relay"] spMoved) : FnOk P w K mg base CX0 12 f fd ["board", "pressed", "stand"] (spSteps K) := by
  have S : FnScope ["board", "pressed", "stand", "steps", "due", "here"] ["board", "pressed", "stand"] (defScope sStepsFrom) := ⟨rfl, rfl, rfl, by decide +kernel, rfl, by decide +kernel, by decide +kernel⟩
  refine F.ok S (fun vs H Q E h => ?_) (fun cdv A outer s H vs Q E hr h => ?_)
  · obtain ⟨D, b, a, ws, pr, st, rfl, _⟩ := h
    rfl
  obtain ⟨D, b, a, ws, pr, st, rfl, hB, hA, hl, q⟩ := h
  refine ⟨_, (pss_cons (ps_set (i := 3) S.nd rfl (Or.inl rfl) pe_dnewT)
    (pss_cons (ps_set (i := 4) S.nd rfl (Or.inl rfl) (pe_lst (pa_cons (pv 2) pa_nil)))
    (pss_cons (ps_while PassesOwn.never (pt_truthK (K := K) rfl (pv 4) (fun _ => rfl)) (pss_cons (ps_set (i := 5) S.nd rfl (Or.inr rfl) (pe_bm0 PySem.F.plainAttrs_list PySem.F.slot_list_pop PySem.F.type_list_pop mt_pop (pv 4)))
    (pss_one (ps_if (pt_cmp (pc_dnotin (hu_of hr) (pv 5) (pv 3)) rfl) (pss_cons (ps_dput (hu_of hr) (pv 3) (pv 5) (pe_comp (ys := ["here"]) (ix := [5]) (.of S {}) rfl (pi_listK (K := K) rfl (pe_callD d_movable hr (by lia) rfl (pa_cons (pv 0) (pa_cons (pv 1) (pa_cons (pv 5) pa_nil))))) (fun _ _ _ _ => pts_nil) (fun cl s3 H3 fp => (pe_tup (pa_cons (pv 0) (pa_cons (pe_callD d_moved hr (by lia) rfl (pa_cons (pv 1) (pa_cons (pv 0) pa_nil))) pa_nil))))) rfl)
    (pss_one (ps_expr (pe_bm PySem.F.plainAttrs_list PySem.F.slot_list_extend PySem.F.type_list_extend mt_extend (pv 4) (pa_cons (pe_comp2 (ys := []) (ix := []) (.of S {}) rfl (pi_listK (K := K) rfl (pe_dget (hu_of hr) (pv 3) (pv 5) (fun _ _ => rfl))) (fun _ _ _ _ => pts_nil) (fun cl s3 H3 fp => (pv 1))) pa_nil))))) pss_nil))))
    (pss_one (ps_ret (pe_frz (pv 3))))))), ends_o fun Dd hq => ?_⟩
  have hn := hB.n
  have h64 : 2 ^ st.length ≤ 64 := pow64 (by lia)
  intro d hd
  have n1 := Same.new hd (.dT [])
  refine ⟨_, rfl, (by show 1 ≤ sizeLine; decide), fun e he => ?_⟩
  have n2 := Same.new he (.lst [.ref a])
  have he0 : H e = none := n1.free he
  have hde : d ≠ e := ne_of_none upd_same he
  refine ⟨StW H D b a d e ws pr st,
    ⟨_, [], [st], [.ref a], _, rfl, n1.trans n2, n2 _ _ upd_same, upd_same, .cons ⟨a, rfl, (n1.trans n2) _ _ hA⟩ .nil, Grow.first ws pr st, (fun s v h => by cases h), rfl, by simp⟩, ?_⟩
  rintro n σ H1 ⟨m, dl, us, o, rfl, s1, hd1, he1, hR, hG, hV, rfl, hdl⟩
  have hmk : ∀ s ∈ keysS m, s.length = st.length := fun s hs => (hG.rch s hs).len
  have hml : m.length ≤ 64 := by
    have := stands_le hG.nd hmk
    unfold keysS at this
    rw [List.length_map] at this
    lia
  refine ⟨_, rfl, _, .inl ⟨us, SqL.of he1, rfl⟩, ite2 (fun c => ?_) (fun c => ?_)⟩
  · obtain ⟨us', y, rfl⟩ : ∃ us' y, us = us' ++ [y] := by
      cases us with
      | nil => cases c
      | cons x xs => exact ⟨_, _, (List.dropLast_concat_getLast (l := x :: xs) (by simp)).symm⟩
    obtain ⟨dl', s, rfl, hR', sa, rfl, hsa⟩ := paired_snoc_inv hR
    refine turn_o fun D1 hn1 => ?_
    refine ⟨_, rfl, .inl ⟨rfl, _, SqL.of he1⟩, e, us' ++ [.ref sa], .ref sa, rfl, rfl, he1, by simp, ?_⟩
    rw [List.dropLast_concat]
    have t2 : TupLe H1 (upd H1 e (.lst us')) := tup_upd fun xs z => by rw [he1] at z; cases z
    have s2 : Same H (upd H1 e (.lst us')) := s1.updNew he0
    have hd2 : upd H1 e (.lst us') d = some (sD m) := by rw [upd_ne hde]; exact hd1
    have he2 : upd H1 e (.lst us') e = some (.lst us') := upd_same
    have hR2 := RowsAt'.mono hR' t2
    have hsa2 := t2 _ _ hsa
    have hV2 : ∀ s v, (s, v) ∈ m → SAt (upd H1 e (.lst us')) ws pr s v ∧ v ≠ .ref e := fun s v h => by
      obtain ⟨⟨l, xs, e1, e2, e3⟩, hne⟩ := hV s v h
      have hle : l ≠ e := fun z => hne (by rw [e1, z])
      exact ⟨⟨l, xs, e1, by rw [upd_ne hle]; exact e2, Paired.mono' (fun k u ⟨p, q, g1, g2, g3⟩ => ⟨p, q, g1, t2 _ _ g2, t2 _ _ g3⟩) e3⟩, hne⟩
    generalize upd H1 e (.lst us') = H2 at t2 s2 hd2 he2 hR2 hsa2 hV2
    clear hR hR' hV hd1 he1 hsa
    refine ⟨_, rfl, _, rfl, d, _, rfl, getS (.inl hd2) hsa2, _, rfl, ?_⟩
    have hreach := hG.reach (s := s) (by simp)
    have hsl := hreach.len
    cases hv : valV m s with
    | some v =>
      have hin : s ∈ keysS m := valV_isSome.mp (by rw [hv]; rfl)
      refine iteF (hn1 _ _ _ ?_ ⟨m, dl', us', _, rfl, s2, hd2, he2, hR2, hG.skip hin, hV2, rfl, ?_⟩)
      · simp
      · simp at hdl; lia
    | none =>
      have hout : s ∉ keysS m := valV_none.mp hv
      refine iteT ?_
      refine ⟨_, rfl, _, rfl, _, rfl, D, b, sa, ws, pr, s, rfl, hB.mono s2, hsa2, by lia, fun l H3 l0 s3 h3 => ⟨l, rfl, ⟨_, SqL.of h3⟩, ?_⟩⟩
      have hml2 := movs_len ws pr s
      have hnl := nats_len (movs ws pr s)
      refine body_list (SqL.of h3) (sz (by lia)) (fun i y H => ∃ k p q, (movs ws pr s)[i]? = some k ∧ y = V.ref p ∧ H p = some (.tup [.int (k : Nat), .ref q]) ∧ BAt H q (flip s k)) (fun i y H H' t ⟨k, p, q, e1, e2, e3, e4⟩ => ⟨k, p, q, e1, e2, t _ _ e3, t _ _ e4⟩) (fun i x H4 R hx s4 hR4 => ?_) (fun l5 us5 H5 l50 s5 h5 hlen5 hG5 => ?_)
      · obtain ⟨k, hk, rfl⟩ : ∃ k, (movs ws pr s)[i]? = some k ∧ x = .int (k : Nat) := by
          unfold nats at hx
          rw [List.getElem?_map] at hx
          cases ek : (movs ws pr s)[i]? with
          | none => rw [ek] at hx; cases hx
          | some k => rw [ek] at hx; cases hx; exact ⟨k, rfl, rfl⟩
        have hk' := (mem_movs.mp (List.mem_of_getElem? hk)).1
        refine ⟨_, rfl, _, rfl, _, rfl, sa, s, k, rfl, s4 _ _ (s3 _ _ hsa2), by lia, by lia, fun p4 H6 s6 h6 => ⟨(by show 2 ≤ sizeLine; decide), fun p hp => ?_⟩⟩
        have n7 := Same.new hp (.tup [.int (k : Nat), .ref p4])
        exact hR4 _ _ (s6.trans n7) ⟨k, p, p4, hk, rfl, upd_same, n7 _ _ h6⟩
      have s5' : Same H2 H5 := s3.trans s5
      refine ⟨_, rfl, _, rfl, d, _, rfl, putS (s5' _ _ hd2) (s5' _ _ hsa2) (small1000 (by lia)), ?_⟩
      rw [keys_put_new hout]
      have hd5 := s5' _ _ hd2
      have he5 := s5' _ _ he2
      have hP5 : Paired (fun (k : Nat) u => ∃ p q, u = V.ref p ∧ H5 p = some (.tup [.int k, .ref q]) ∧ BAt H5 q (flip s k)) (movs ws pr s) us5 := paired_of_get (by lia) fun i k u hk hu => by
        obtain ⟨k', p, q, e1, e2, e3, e4⟩ := hG5 i u hu
        rw [hk] at e1
        cases e1
        exact ⟨p, q, e2, e3, e4⟩
      have t6 : TupLe H5 (upd H5 d (sD (m ++ [(s, .ref l5)]))) := tup_upd fun xs z => by rw [hd5] at z; cases z
      have hSs : SAt H5 ws pr s (.ref l5) := ⟨l5, us5, rfl, h5, hP5⟩
      have s6 : Same H (upd H5 d (sD (m ++ [(s, .ref l5)]))) := (s2.trans s5').updNew hd
      have hd6 : upd H5 d (sD (m ++ [(s, .ref l5)])) d = some (sD (m ++ [(s, .ref l5)])) := upd_same
      have he6 : upd H5 d (sD (m ++ [(s, .ref l5)])) e = some (.lst us') := by rw [upd_ne (Ne.symm hde)]; exact he5
      have hR6 := hR2.mono (s5'.tup.trans t6)
      have hsa6 := t6 _ _ (s5' _ _ hsa2)
      have hl5e : V.ref l5 ≠ V.ref e := fun z => by
        injection z with z
        rw [z] at l50
        rw [s3 _ _ he2] at l50
        cases l50
      have hV6 : ∀ x v, (x, v) ∈ m ++ [(s, V.ref l5)] → SAt (upd H5 d (sD (m ++ [(s, .ref l5)]))) ws pr x v ∧ v ≠ .ref e := fun x v h => by
        rcases List.mem_append.mp h with h | h
        · exact ⟨((hV2 x v h).1.mono s5').upd hd5 (fun xs z => by cases z) (fun xs z => by cases z), (hV2 x v h).2⟩
        · have : x = s ∧ v = .ref l5 := by simpa using h
          obtain ⟨rfl, rfl⟩ := this
          exact ⟨hSs.upd hd5 (fun xs z => by cases z) (fun xs z => by cases z), hl5e⟩
      generalize upd H5 d (sD (m ++ [(s, .ref l5)])) = H6 at s6 hd6 he6 hR6 hsa6 hV6
      obtain ⟨l6, us6, ps6, e6, g6, hlen6, p6, hlp6, hps6⟩ := (hV6 s (.ref l5) (by simp)).1.pairs
      cases e6
      have hval6 : valV (m ++ [(s, V.ref l5)]) s = some (.ref l5) := valV_mem (by rw [keys_snoc]; exact nodup_snoc hG.nd hout) (by simp)
      refine ⟨_, rfl, .inl ⟨rfl, _, SqL.of he6⟩, _, rfl, _, rfl, d, .ref l5, rfl, by rw [← hval6]; exact getS (.inl hd6) hsa6, l5, rfl, ⟨_, SqL.of g6⟩, ?_⟩
      refine bodyT_list (SqL.of g6) p6 (sz (by lia)) (fun i y H => ∃ k q, (movs ws pr s)[i]? = some k ∧ y = V.ref q ∧ BAt H q (flip s k)) (fun i y H H' t ⟨k, q, e1, e2, e3⟩ => ⟨k, q, e1, e2, t _ _ e3⟩) (fun i x H7 R hx s7 hR7 => ?_) (fun l8 us8 H8 l80 s8 h8 hlen8 hG8 => ?_)
      · obtain ⟨k, aa, hk, rfl, haa⟩ := hps6 i x hx
        exact ⟨_, rfl, hR7 _ _ (Same.refl _) ⟨k, aa, hk, rfl, s7 _ _ haa⟩⟩
      have hRn : RowsAt' H8 ((movs ws pr s).map (flip s)) us8 := paired_of_get (by rw [List.length_map]; lia) fun i r u hr0 hu => by
        obtain ⟨k, qq, e1, e2, e3⟩ := hG8 i u hu
        rw [List.getElem?_map, e1] at hr0
        cases hr0
        exact ⟨qq, e2, e3⟩
      have he8 := s8 _ _ he6
      have hlu' : us'.length = dl'.length := (Paired.length hR2).symm
      have hlm : ((movs ws pr s).map (flip s)).length ≤ 6 := by rw [List.length_map]; lia
      have hl8 : us8.length ≤ 6 := by have := Paired.length hRn; lia
      have hml1 : m.length < 64 := by
        have hnd : (keysS (m ++ [(s, V.ref l5)])).Nodup := by rw [keys_snoc]; exact nodup_snoc hG.nd hout
        have := stands_le (n := st.length) hnd fun x hx => by
          rw [keys_snoc] at hx
          rcases List.mem_append.mp hx with h | h
          · exact hmk x h
          · have : x = s := by simpa using h
            subst this; exact hsl
        unfold keysS at this
        simp at this
        lia
      have hdl' : dl'.length + 1 ≤ 1 + 6 * m.length := by simpa using hdl
      refine ⟨e, l8, us', us8, rfl, rfl, he8, h8, sz (by lia), ?_⟩
      have t9 : TupLe H8 (upd H8 e (.lst (us' ++ us8))) := tup_upd fun xs z => by rw [he8] at z; cases z
      refine hn1 _ _ _ ?_ ⟨m ++ [(s, .ref l5)], dl' ++ (movs ws pr s).map (flip s), us' ++ us8, _, rfl, (s6.trans s8).updNew he0, ?_, upd_same, paired_append (hR6.mono (s8.tup.trans t9)) (RowsAt'.mono hRn t9), hG.add hout, fun x v h => ?_, rfl, ?_⟩
      · simp only [List.length_append, List.length_cons, List.length_nil]
        lia
      · rw [upd_ne hde]; exact s8 _ _ hd6
      · obtain ⟨⟨l, xs, e1, e2, e3⟩, hne⟩ := hV6 x v h
        have hle : l ≠ e := fun z => hne (by rw [e1, z])
        exact ⟨⟨l, xs, e1, by rw [upd_ne hle]; exact s8 _ _ e2, Paired.mono' (fun k u ⟨p, q, g1, g2, g3⟩ => ⟨p, q, g1, t9 _ _ (s8 _ _ g2), t9 _ _ (s8 _ _ g3)⟩) e3⟩, hne⟩
      · simp only [List.length_append, List.length_cons, List.length_nil]
        lia
  · have hus : us = [] := by
      cases us with
      | nil => rfl
      | cons x xs => exact absurd rfl c
    subst hus
    have hdl0 : dl = [] := by cases hR; rfl
    subst hdl0
    refine ⟨_, rfl, d, _, rfl, hd1, fun ob => ?_⟩
    have hs2 : Same H (upd H1 d (.frz ob (sD m))) := s1.updNew hd
    refine hq _ _ <| q d m ob _ hd hs2 upd_same ⟨hG.nd, fun x => ⟨hG.rch x, fun hx => ?_⟩, fun x v h => (hV x v h).1.upd hd1 (fun xs z => by cases z) (fun xs z => by cases z), hG.ord⟩
    have clo : ∀ t ∈ keysS m, ∀ k ∈ movs ws pr t, flip t k ∈ keysS m := fun t ht k hk => by
      rcases hG.done t ht k hk with z | z
      · exact z
      · cases z
    induction hx with
    | refl =>
      rcases hG.start with z | z
      · exact z
      · cases z
    | step _ hk ih => exact clo _ ih _ hk
inductive RdI (H : Hp) (d a r : Addr) (ws : List Wd) (pr st : List Bool) (m : List (List Bool × V)) (i : Nat) (σ : St) (H' : Hp) : Prop
  | mk : ∀ mr o3 o4 o5, (σ = [some (.ref d), some (.ref a), some (.ref r), o3, o4, o5]) → (Same H H') → (H' r = some (sD mr)) → ((keysS mr).Nodup) → ((∀ x v, (x, v) ∈ mr → RAt H H' ws pr st x (mr.length) v)) → ((∀ x v, (x, v) ∈ mr → Reach ws pr st x)) → (st ∈ keysS mr) → (∀ j, j < i → ∀ t, (keysS m)[j]? = some t → ∀ k ∈ movs ws pr t, flip t k ∈ keysS mr) → RdI H d a r ws pr st m i σ H'
inductive RdJ (H H4 : Hp) (d a r b : Addr) (ws : List Wd) (pr st : List Bool) (m : List (List Bool × V)) (i : Nat) (t : List Bool) (i' : Nat) (σ : St) (H' : Hp) : Prop
  | mk : ∀ mr o4 o5, (σ = [some (.ref d), some (.ref a), some (.ref r), some (.ref b), o4, o5]) → (Same H H') → (SameX r H4 H') → (H' r = some (sD mr)) → ((keysS mr).Nodup) → ((∀ x v, (x, v) ∈ mr → RAt H H' ws pr st x (mr.length) v)) → ((∀ x v, (x, v) ∈ mr → Reach ws pr st x)) → (st ∈ keysS mr) → (t ∈ keysS mr) → ((∀ j, j < i → ∀ t, (keysS m)[j]? = some t → ∀ k ∈ movs ws pr t, flip t k ∈ keysS mr)) → (∀ j, j < i' → ∀ k, (movs ws pr t)[j]? = some k → flip t k ∈ keysS mr) → RdJ H H4 d a r b ws pr st m i t i' σ H'
theorem ok_roads (F : Fun K "roads_along" "roads_along" sRoadsAlong f fd) : FnOk P w K mg base CX0 1 f fd ["steps", "stand"] spRoads := by
  have S : FnScope ["steps", "stand", "roads", "here", "relay", "there"] ["steps", "stand"] (defScope sRoadsAlong) := ⟨rfl, rfl, rfl, by decide +kernel, rfl, by decide +kernel, by decide +kernel⟩
  refine F.ok S (fun vs H Q E h => ?_) (fun cdv A outer s H vs Q E hr h => ?_)
  · obtain ⟨d, a, o, ws, pr, st, m, rfl, _⟩ := h
    rfl
  obtain ⟨d, a, o, ws, pr, st, m, rfl, hd, hM, hA, hn, q⟩ := h
  refine ⟨_, (pss_cons (ps_set (i := 2) S.nd rfl (Or.inl rfl) (pe_disp1 (hu_of hr) (pv 1) (pe_lst pa_nil)))
    (pss_cons (ps_for PassesOwn.never rfl (pi_dict (pv 0)) (pg_name (i := 3) S.nd rfl (Or.inl rfl)) (pss_one (ps_for PassesOwn.never rfl (pi_listK (K := K) rfl (pe_dget (hu_of hr) (pv 0) (pv 3) (fun _ _ => rfl))) (pg_tup rfl (pgs_cons (pg_name (i := 4) S.nd rfl (Or.inl rfl)) (pgs_cons (pg_name (i := 5) S.nd rfl (Or.inl rfl)) pgs_nil))) (pss_one (ps_if (pt_cmp (pc_dnotin (hu_of hr) (pv 5) (pv 2)) rfl) (pss_one (ps_dput (hu_of hr) (pv 2) (pv 5) (pe_op op_cat (pe_dget (hu_of hr) (pv 2) (pv 3) (fun _ _ => rfl)) (pe_lst (pa_cons (pv 4) pa_nil))) rfl)) pss_nil)))))
    (pss_one (ps_ret (pv 2))))), ends_o fun Dd hq => ?_⟩
  have h64 : 2 ^ st.length ≤ 64 := pow64 hn
  intro r hr0
  have n1 := Same.new hr0 (.dT [])
  refine ⟨_, rfl, (by show 0 ≤ sizeLine; decide), fun e he => ?_⟩
  have n2 := Same.new he (.lst [])
  have he0 : H e = none := n1.free he
  refine ⟨n2 _ _ upd_same, a, kst st, rfl, by rw [kst_kV]; exact (n1.trans n2) _ _ hA, ?_⟩
  have s3 : Same H (upd (upd (upd H r (.dT [])) e (.lst [])) r (.dT [(kst st, .ref e)])) := (n1.trans n2).updNew hr0
  have hr3 : upd (upd (upd H r (.dT [])) e (.lst [])) r (.dT [(kst st, .ref e)]) r = some (sD [(st, .ref e)]) := upd_same
  have he3 : upd (upd (upd H r (.dT [])) e (.lst [])) r (.dT [(kst st, .ref e)]) e = some (.lst (nats [])) := by
    rw [upd_ne (Ne.symm (ne_of_none (upd_same (H := H) (a := r) (o := .dT [])) he))]; exact upd_same
  generalize upd (upd (upd H r (.dT [])) e (.lst [])) r (.dT [(kst st, .ref e)]) = H3 at s3 hr3 he3
  refine ⟨_, rfl, d, o, sP m, rfl, s3 _ _ hd, ?_⟩
  have hlenr : ∀ mr : List (List Bool × V), (keysS mr).Nodup → (∀ x v, (x, v) ∈ mr → Reach ws pr st x) → mr.length ≤ 64 := fun mr nd h => by
    have := stands_le (n := st.length) nd fun x hx => by
      obtain ⟨p, hp, rfl⟩ := List.mem_map.mp hx
      exact (h p.1 p.2 hp).len
    unfold keysS at this
    rw [List.length_map] at this
    lia
  refine for_dictO (kvs := sP m) (RdI H d a r ws pr st m)
    ⟨[(st, .ref e)], _, _, _, rfl, s3, hr3, by simp [keysS], fun x v h => ?_, fun x v h => ?_, by simp [keysS], fun j hj => absurd hj (Nat.not_lt_zero _)⟩ ?_ ?_ ?_
  · have : x = st ∧ v = .ref e := by simpa using h
    obtain ⟨rfl, rfl⟩ := this
    exact ⟨e, [], rfl, he0, he3, rfl, by simp⟩
  · have : x = st ∧ v = .ref e := by simpa using h
    obtain ⟨rfl, rfl⟩ := this
    exact .refl
  · rintro i σ H' _ ⟨mr, o3, o4, o5, rfl, s4, _⟩
    exact s4 _ _ hd
  · rintro i kv b σ H4 D1 hkv hb ⟨mr, o3, o4, o5, rfl, s4, hr4, hnd, hV, hRe, hst, hdone⟩ hn1
    obtain ⟨t, v, hm, rfl, hkt⟩ := sP_get hkv
    have hbt := kst_at hb
    have htm : (t, v) ∈ m := List.mem_of_getElem? hm
    have hrt : Reach ws pr st t := (hM.all t).mp (List.mem_map.mpr ⟨_, htm, rfl⟩)
    have hval : valV m t = some v := valV_mem hM.nd htm
    have htr : t ∈ keysS mr := by
      rcases hM.ord i t hkt with rfl | ⟨j, t', k, h1, h2, h3, rfl⟩
      · exact hst
      · exact hdone j h1 t' h2 k h3
    obtain ⟨l, us, ps, rfl, hl, hlus, hps, hlp, hpk⟩ := ((hM.val t v htm).mono s4).pairs
    have hml := movs_len ws pr t
    refine ⟨_, rfl, _, rfl, d, .ref l, rfl, by rw [← hval]; exact getS (.inr ⟨o, s4 _ _ hd⟩) hbt, l, rfl, ⟨us, SqL.of hl⟩, ?_⟩
    refine for_listO (xs := us) (RdJ H H4 d a r b ws pr st m i t)
      ⟨mr, _, _, rfl, s4, SameX.refl _ _, hr4, hnd, hV, hRe, hst, htr, hdone, fun j hj => absurd hj (Nat.not_lt_zero _)⟩ ?_ ?_ ?_
    · rintro i' σ H' _ ⟨mr, o4, o5, rfl, s5, x5, hr5, _⟩
      exact SqL.of (x5 _ _ (ne_of hl hr4 (fun z => by cases z)) hl)
    · clear hnd hV hRe hst htr hdone
      rintro i' x σ H5 D2 hx ⟨mr, o4, o5, rfl, s5, x5, hr5, hnd, hV, hRe, hst, htr, hdone, hin⟩ hn2
      obtain ⟨qq, hqq, p, rfl, hp⟩ := paired_get hps hx
      obtain ⟨k, c, hk, rfl, hc⟩ := hpk i' qq hqq
      have hmem := List.mem_of_getElem? hk
      have hp5 := x5 _ _ (ne_of hp hr4 (fun z => by cases z)) hp
      have hc5 := x5 _ _ (ne_of hc hr4 (fun z => by cases z)) hc
      have hb5 := x5 _ _ (ne_of hbt hr4 (fun z => by cases z)) hbt
      have hml5 := hlenr mr hnd hRe
      have next : ∀ mr' : List (List Bool × V), (∀ y, y ∈ keysS mr → y ∈ keysS mr') → flip t k ∈ keysS mr' → ∀ j, j < i' + 1 → ∀ k, (movs ws pr t)[j]? = some k → flip t k ∈ keysS mr' := fun mr' hsub hnew j hj k' hk' => by
        by_cases cj : j < i'
        · exact hsub _ (hin j cj k' hk')
        · have : j = i' := by lia
          subst this
          rw [hk] at hk'
          cases hk'
          exact hnew
      refine ⟨p, _, rfl, SqT.of hp5, rfl, _, _, rfl, _, _, rfl, rfl, ?_⟩
      refine ⟨_, rfl, _, rfl, r, _, rfl, getS (.inl hr5) hc5, _, rfl, ?_⟩
      cases hv : valV mr (flip t k) with
      | some v =>
        have hin2 : flip t k ∈ keysS mr := valV_isSome.mp (by rw [hv]; rfl)
        exact iteF (hn2 _ _ ⟨mr, _, _, rfl, s5, x5, hr5, hnd, hV, hRe, hst, htr, hdone, next mr (fun y h => h) hin2⟩)
      | none =>
        have hout : flip t k ∉ keysS mr := valV_none.mp hv
        obtain ⟨vt, hvt⟩ := Option.isSome_iff_exists.mp (valV_isSome.mpr htr)
        obtain ⟨lt, ks, rfl, g1, g2, g3, g4⟩ := hV t vt (valV_some hvt)
        refine iteT ⟨_, rfl, _, rfl, r, .ref lt, rfl, by rw [← hvt]; exact getS (.inl hr5) hb5, _, rfl, (by show 1 ≤ sizeLine; decide), fun e1 he1 => ?_⟩
        have n6 := Same.new he1 (.lst [.int (k : Nat)])
        refine ⟨lt, e1, nats ks, [.int (k : Nat)], rfl, rfl, n6 _ _ g2, upd_same, by rw [nats_len]; exact sz (by simp; lia), fun e2 he2 => ?_⟩
        have n7 := Same.new he2 (.lst (nats ks ++ [.int (k : Nat)]))
        have s7 := n6.trans n7
        have h7 : upd (upd H5 e1 (.lst [.int (k : Nat)])) e2 (.lst (nats ks ++ [.int (k : Nat)])) e2 = some (.lst (nats (ks ++ [k]))) := by rw [upd_same]; simp [nats]
        have he20 : H e2 = none := s5.free (n6.free he2)
        generalize upd (upd H5 e1 (.lst [.int (k : Nat)])) e2 (.lst (nats ks ++ [.int (k : Nat)])) = H7 at s7 h7
        refine ⟨_, rfl, _, rfl, r, _, rfl, putS (s7 _ _ hr5) (s7 _ _ hc5) (small1000 (by lia)), ?_⟩
        rw [keys_put_new hout]
        have hr7 := s7 _ _ hr5
        have hmem2 : ∀ y, y ∈ keysS (mr ++ [(flip t k, V.ref e2)]) ↔ y ∈ keysS mr ∨ y = flip t k := fun y => by rw [keys_snoc, List.mem_append]; simp
        refine hn2 _ _ ⟨mr ++ [(flip t k, .ref e2)], _, _, rfl, (s5.trans s7).updNew hr0, (x5.trans s7.x).trans SameX.upd, upd_same, by rw [keys_snoc]; exact nodup_snoc hnd hout, fun y v h => ?_, fun y v h => ?_, (hmem2 _).mpr (.inl hst), (hmem2 _).mpr (.inl htr), fun j hj t' ht' k' hk' => (hmem2 _).mpr (.inl (hdone j hj t' ht' k' hk')), next _ (fun y h => (hmem2 _).mpr (.inl h)) ((hmem2 _).mpr (.inr rfl))⟩
        · rcases List.mem_append.mp h with h | h
          · exact ((hV y v h).mono s7 (Nat.le_refl _)).upd hr7 (fun xs z => by cases z) (by simp)
          · have : y = flip t k ∧ v = .ref e2 := by simpa using h
            obtain ⟨rfl, rfl⟩ := this
            refine ⟨e2, ks ++ [k], rfl, he20, ?_, walkN_snoc g3 hmem, by simp; lia⟩
            rw [upd_ne (ne_of h7 hr7 (fun z => by cases z))]
            exact h7
        · rcases List.mem_append.mp h with h | h
          · exact hRe y v h
          · have : y = flip t k ∧ v = .ref e2 := by simpa using h
            obtain ⟨rfl, rfl⟩ := this
            exact .step hrt hmem
    · rintro σ H5 ⟨mr, o4, o5, rfl, s5, x5, hr5, hnd, hV, hRe, hst, htr, hdone, hin⟩
      refine hn1 _ _ ⟨mr, _, _, _, rfl, s5, hr5, hnd, hV, hRe, hst, fun j hj t' ht' k hk => ?_⟩
      by_cases cj : j < i
      · exact hdone j cj t' ht' k hk
      · have : j = i := by lia
        subst this
        rw [hkt] at ht'
        cases ht'
        obtain ⟨j', hj', ek⟩ := List.mem_iff_getElem.mp hk
        exact hin j' (by lia) k (by rw [List.getElem?_eq_getElem hj', ek])
  · rintro σ H4 ⟨mr, o3, o4, o5, rfl, s4, hr4, hnd, hV, hRe, hst, hdone⟩
    have hml := hlenr mr hnd hRe
    refine ⟨_, rfl, hq _ _ (q r mr H4 hr0 s4 hr4 ⟨fun x hx => ?_, fun x v h => (hV x v h).mono (Same.refl _) (by lia)⟩)⟩
    have hx' := (hM.all x).mpr hx
    obtain ⟨j, hj, ej⟩ := List.mem_iff_getElem.mp hx'
    rcases hM.ord j x (by rw [List.getElem?_eq_getElem hj, ej]) with rfl | ⟨i, t, k, h1, h2, h3, rfl⟩
    · exact hst
    · exact hdone i (by rw [sP_len]; unfold keysS at hj; rw [List.length_map] at hj; lia) t h2 k h3
inductive NmW (H : Hp) (d e : Addr) (ws : List Wd) (pr : List Bool) (m : List (List Bool × V)) (n : Nat) (σ : St) (H' : Hp) : Prop
  | mk : ∀ N g o3, (σ = [some (.ref d), some (.ref e), some (.bl g), o3]) → (Same H H') → (H' e = some (sD N)) → (NumOk ws pr m N) → ((g = false → ∀ s ∈ keysS m, Stuck ws pr N s)) → (n = (64 - N.length) * 2 + (if g = true then 1 else 0)) → NmW H d e ws pr m n σ H'
inductive NmI (H : Hp) (d e : Addr) (ws : List Wd) (pr : List Bool) (m N0 : List (List Bool × V)) (i : Nat) (σ : St) (H' : Hp) : Prop
  | mk : ∀ N g o3, (σ = [some (.ref d), some (.ref e), some (.bl g), o3]) → (Same H H') → (H' e = some (sD N)) → (NumOk ws pr m N) → ((g = false → N = N0 ∧ ∀ j, j < i → ∀ t, (keysS m)[j]? = some t → Stuck ws pr N t)) → ((g = true → N0.length < N.length)) → NmI H d e ws pr m N0 i σ H'
theorem ok_numbered (F : Fun K "numbered" "numbered" sNumbered f fd) (n_all : mg "all" = none) (n_max : mg "max" = none) : FnOk P w K mg base CX0 1 f fd ["steps"] spNumbered := by
  have S : FnScope ["steps", "numbers", "grown", "here"] ["steps"] (defScope sNumbered) := ⟨rfl, rfl, rfl, by decide +kernel, rfl, by decide +kernel, by decide +kernel⟩
  refine F.ok S (fun vs H Q E h => ?_) (fun cdv A outer s H vs Q E hr h => ?_)
  · obtain ⟨d, o, ws, pr, st, m, rfl, _⟩ := h
    rfl
  obtain ⟨d, o, ws, pr, st, m, rfl, hd, hM, hn, hw6, q⟩ := h
  refine ⟨_, (pss_cons (ps_set (i := 1) S.nd rfl (Or.inr rfl) pe_dnewT)
    (pss_cons (ps_set (i := 2) S.nd rfl (Or.inl rfl) pe_bl)
    (pss_cons (ps_while PassesOwn.never (pt_val (pv 2)) (pss_cons (ps_set (i := 2) S.nd rfl (Or.inl rfl) pe_bl)
    (pss_one (ps_for PassesOwn.never rfl (pi_dict (pv 0)) (pg_name (i := 3) S.nd rfl (Or.inl rfl)) (pss_one (ps_if (PW.pt (pw_and (pt_cmp (pc_dnotin (hu_of hr) (pv 3) (pv 1)) rfl) (pw_and1 (pt_val (pe_callB (call_allB (K := K) rfl rfl) rfl n_all PyProof.Rows.boot_all (pa_cons (pe_comp2 (ys := ["numbers"]) (ix := [1]) (.of S {}) rfl (pi_listK (K := K) rfl (pe_dget (hu_of hr) (pv 0) (pv 3) (fun _ _ => rfl))) (fun _ _ _ _ => pts_nil) (fun cl s3 H3 fp => (pe_cmp (pc_din (hu_of hr) (pv 1) (pv 2)) rfl))) pa_nil)))))) (pss_cons (ps_dput (hu_of hr) (pv 1) (pv 3) (pe_maxD (K := K) rfl rfl rfl n_max (pa_cons (pe_comp2 (ys := ["numbers"]) (ix := [1]) (.of S {}) rfl (pi_listK (K := K) rfl (pe_dget (hu_of hr) (pv 0) (pv 3) (fun _ _ => rfl))) (fun _ _ _ _ => pts_nil) (fun cl s3 H3 fp => (pe_op op_add (pe_dget (hu_of hr) (pv 2) (pv 1) (fun _ _ => rfl)) pe_int))) pa_nil) (pk_cons pe_int pk_nil)) rfl)
    (pss_one (ps_set (i := 2) S.nd rfl (Or.inl rfl) pe_bl))) pss_nil))))))
    (pss_one (ps_ret (pv 1)))))), ends_o fun Dd hq => ?_⟩
  have hm64 : m.length ≤ 64 := Nat.le_trans hM.len (pow64 hn)
  intro e he
  have n1 := Same.new he (.dT [])
  refine ⟨NmW H d e ws pr m,
    ⟨_, [], true, _, rfl, n1, upd_same, NumOk.nil ws pr m, (fun h => by cases h), rfl⟩, ?_⟩
  rintro n σ H1 ⟨N0, g, o3, rfl, s1, he1, hN0, hg, rfl⟩
  refine ⟨_, rfl, _, rfl, ite2 (fun c => ?_) (fun c => ?_)⟩
  · have c' : g = true := c
    subst c'
    refine turn_o fun D1 hn1 => ?_
    refine ⟨_, rfl, d, o, sP m, rfl, s1 _ _ hd, ?_⟩
    refine for_dictO (kvs := sP m) (NmI H d e ws pr m N0)
      ⟨N0, false, _, rfl, s1, he1, hN0, (fun _ => ⟨rfl, fun j hj => absurd hj (Nat.not_lt_zero _)⟩), (fun h => by cases h)⟩ ?_ ?_ ?_
    · rintro i σ H' _ ⟨N, g, o3, rfl, s2, _⟩
      exact s2 _ _ hd
    · rintro i kv b σ H2 D2 hkv hb ⟨N, g, o3, rfl, s2, he2, hN, hg1, hg2⟩ hn2
      obtain ⟨t, v, hm, rfl, hkt⟩ := sP_get hkv
      have hbt := kst_at hb
      have htm : (t, v) ∈ m := List.mem_of_getElem? hm
      have htk : t ∈ keysS m := List.mem_map.mpr ⟨_, htm, rfl⟩
      have hval : valV m t = some v := valV_mem hM.nd htm
      have hNl := hN.len
      refine ⟨_, rfl, _, rfl, e, _, rfl, getS (.inl he2) hbt, _, rfl, ?_⟩
      have same : ∀ H', Same H2 H' → Stuck ws pr N t → D2.nx [some (V.ref d), some (.ref e), some (.bl g), some (.ref b)] H' := fun H' s' hstuck => hn2 _ _
        ⟨N, g, _, rfl, s2.trans s', s' _ _ he2, hN, fun hf => ⟨(hg1 hf).1, fun j hj t' ht' => by
          by_cases cj : j < i
          · exact (hg1 hf).2 j cj t' ht'
          · have : j = i := by lia
            subst this
            rw [hkt] at ht'
            cases ht'
            exact hstuck⟩, hg2⟩
      cases hv : valV N t with
      | some x =>
        have hin : t ∈ keysS N := valV_isSome.mp (by rw [hv]; rfl)
        exact iteF (iteF (same H2 (Same.refl _) fun z => absurd hin z))
      | none =>
        have hout : t ∉ keysS N := valV_none.mp hv
        refine iteT ?_
        obtain ⟨l, us, ps, rfl, hl, hlus, hps, hlp, hpk⟩ := ((hM.val t v htm).mono s2).pairs
        have hml : (movs ws pr t).length ≤ 1000 := by
          have h1 := movs_len ws pr t
          lia
        refine ⟨_, rfl, _, rfl, d, .ref l, rfl, by rw [← hval]; exact getS (.inr ⟨o, s2 _ _ hd⟩) hbt, l, rfl, ⟨us, SqL.of hl⟩, ?_⟩
        refine bodyT_list (SqL.of hl) hps (sz (by lia)) (fun i y H => ∃ k, (movs ws pr t)[i]? = some k ∧ y = .bl (decide (flip t k ∈ keysS N))) (fun _ _ _ _ _ h => h) (fun i' x H3 R hx s3 hR => ?_) (fun l4 us4 H4 l40 s4 h4 hlen4 hG4 => ?_)
        · obtain ⟨k, a, hk, rfl, ha⟩ := hpk i' x hx
          refine ⟨_, rfl, _, rfl, e, _, rfl, getS (.inl (s3 _ _ he2)) (s3 _ _ ha), ?_⟩
          rw [dec_keys]
          exact hR _ _ (Same.refl _) ⟨k, hk, rfl⟩
        have e4 : us4 = ((movs ws pr t).map fun k => decide (flip t k ∈ keysS N)).map V.bl := list_ext (by rw [hlen4]; simp [hlp]) fun i' y hy => by
          obtain ⟨k, hk, rfl⟩ := hG4 i' y hy
          simp [hk]
        refine ⟨l4, (movs ws pr t).map fun k => decide (flip t k ∈ keysS N), rfl, SqL.of (by rw [h4, e4]), _, rfl, ite2 (fun c => ?_) (fun c => ?_)⟩
        · have hall : ∀ k ∈ movs ws pr t, flip t k ∈ keysS N := fun k hk => by
            have := List.all_eq_true.mp c _ (List.mem_map.mpr ⟨k, hk, rfl⟩)
            exact of_decide_eq_true this
          have he4 := s4 _ _ he2
          have hbt4 := s4 _ _ hbt
          refine ⟨_, rfl, _, rfl, d, .ref l, rfl, by rw [← hval]; exact getS (.inr ⟨o, s4 _ _ (s2 _ _ hd)⟩) hbt4, l, rfl, ⟨us, SqL.of (s4 _ _ hl)⟩, ?_⟩
          refine bodyT_list (SqL.of (s4 _ _ hl)) (Paired.mono' (fun q x ⟨p, h1, h2⟩ => ⟨p, h1, s4 _ _ h2⟩) hps) (sz (by lia)) (fun i y H => ∃ k j, (movs ws pr t)[i]? = some k ∧ (flip t k, V.int j) ∈ N ∧ y = .int (j + 1)) (fun _ _ _ _ _ h => h) (fun i' x H5 R hx s5 hR => ?_) (fun l6 us6 H6 l60 s6 h6 hlen6 hG6 => ?_)
          · obtain ⟨k, a, hk, rfl, ha⟩ := hpk i' x hx
            obtain ⟨vj, hvj⟩ := Option.isSome_iff_exists.mp (valV_isSome.mpr (hall k (List.mem_of_getElem? hk)))
            obtain ⟨j, rfl⟩ := hN.num _ _ (valV_some hvj)
            exact ⟨_, rfl, _, rfl, e, .int j, rfl, by rw [← hvj]; exact getS (.inl (s5 _ _ he4)) (s5 _ _ (s4 _ _ ha)), _, _, rfl, rfl, hR _ _ (Same.refl _) ⟨k, j, hk, valV_some hvj, rfl⟩⟩
          obtain ⟨ns, hns⟩ := ints_all (us := us6) fun y hy => by
            obtain ⟨i', hi', rfl⟩ := List.mem_iff_getElem.mp hy
            obtain ⟨k, j, _, _, e⟩ := hG6 i' _ (List.getElem?_eq_getElem hi')
            exact ⟨_, e⟩
          subst hns
          have he6 := s6 _ _ he4
          have hlast : ∀ nn : Nat, (∀ k ∈ movs ws pr t, ∃ j : Int, (flip t k, V.int j) ∈ N ∧ j < nn) → ∃ a H4, V.ref e = V.ref a ∧ DPut H6 a (.ref b) (.int nn) H4 ∧ D2.nx [some (V.ref d), some (.ref e), some (.bl true), some (.ref b)] H4 := fun nn hnn => by
            refine ⟨e, _, rfl, putS he6 (s6 _ _ hbt4) (small1000 (by lia)), ?_⟩
            rw [keys_put_new hout]
            refine hn2 _ _ ⟨_, true, _, rfl, (s2.trans (s4.trans s6)).updNew he, upd_same, hN.add hout htk hnn, (fun h => by cases h), fun _ => ?_⟩
            have hN0 : N0.length ≤ N.length := by
              cases hgg : g with
              | false => rw [(hg1 hgg).1]; exact Nat.le_refl _
              | true => exact Nat.le_of_lt (hg2 hgg)
            simp; lia
          refine ⟨l6, ns, 0, rfl, rfl, SqL.of h6, fun hz => ?_, fun hnz M hM1 hM2 => ?_⟩
          · subst hz
            have h0 : movs ws pr t = [] := List.length_eq_zero_iff.mp (by rw [← hlp, ← hlen6]; rfl)
            obtain ⟨a', H7, e1, e2, e3⟩ := hlast 0 fun k hk => by rw [h0] at hk; cases hk
            exact ⟨_, rfl, _, rfl, a', H7, e1, e2, e3⟩
          · have hMp : ∃ nn : Nat, M = (nn : Int) ∧ ∀ k ∈ movs ws pr t, ∃ j : Int, (flip t k, V.int j) ∈ N ∧ j < nn := by
              obtain ⟨i0, hi0, e0⟩ := List.mem_iff_getElem.mp hM1
              obtain ⟨k0, j0, f1, f2, f3⟩ := hG6 i0 (.int M) (by simp [hi0, e0])
              obtain ⟨j0', ej0⟩ := hN.num _ _ f2
              injection ej0 with ej0
              injection f3 with f3
              refine ⟨M.toNat, by lia, fun k hk => ?_⟩
              obtain ⟨i1, hi1, e1⟩ := List.mem_iff_getElem.mp hk
              have hi1' : i1 < (ns.map V.int).length := by rw [hlen6, hlp]; exact hi1
              obtain ⟨k1, j1, g1, g2, g3⟩ := hG6 i1 _ (List.getElem?_eq_getElem hi1')
              rw [List.getElem?_eq_getElem hi1, e1] at g1
              cases g1
              have hx1 : (j1 + 1) ∈ ns := by
                have : (ns.map V.int)[i1] = V.int (j1 + 1) := g3
                rw [List.getElem_map] at this
                injection this with this
                rw [← this]
                exact List.getElem_mem _
              have := hM2 _ hx1
              exact ⟨j1, g2, by lia⟩
            obtain ⟨nn, rfl, hnn⟩ := hMp
            obtain ⟨a', H7, e1, e2, e3⟩ := hlast nn hnn
            exact ⟨_, rfl, _, rfl, a', H7, e1, e2, e3⟩
        · refine same H4 s4 fun _ => ?_
          have c' : ((movs ws pr t).map fun k => decide (flip t k ∈ keysS N)).all id = false := Bool.eq_false_iff.mpr c
          rw [List.all_eq_false] at c'
          obtain ⟨y, hy, hy2⟩ := c'
          obtain ⟨k, hk, rfl⟩ := List.mem_map.mp hy
          exact ⟨k, hk, fun z => hy2 (decide_eq_true z)⟩
    · rintro σ H2 ⟨N, g, o3, rfl, s2, he2, hN, hg1, hg2⟩
      have hNl := hN.len
      cases g with
      | false =>
        obtain ⟨rfl, h2⟩ := hg1 rfl
        refine hn1 ((64 - N.length) * 2) _ _ ?_ ⟨N, false, _, rfl, s2, he2, hN, fun _ s hs => ?_, by simp⟩
        · simp
        · obtain ⟨j, hj, ej⟩ := List.mem_iff_getElem.mp hs
          exact h2 j (by rw [sP_len]; unfold keysS at hj; rw [List.length_map] at hj; exact hj) s (by rw [List.getElem?_eq_getElem hj, ej])
      | true =>
        have h2 := hg2 rfl
        refine hn1 ((64 - N.length) * 2 + 1) _ _ ?_ ⟨N, true, _, rfl, s2, he2, hN, (fun h => by cases h), by simp⟩
        simp
        lia
  · have c' : g = false := Bool.eq_false_iff.mpr c
    exact ⟨_, rfl, hq _ _ (q e N0 H1 he s1 he1 hN0 (hg c'))⟩
theorem ok_endless (F : Fun K "endless_step" "endless_step" sEndlessStep f fd) : FnOk P w K mg base CX0 1 f fd ["steps", "numbers", "here"] spEndless := by
  have S : FnScope ["steps", "numbers", "here"] ["steps", "numbers", "here"] (defScope sEndlessStep) := ⟨rfl, rfl, rfl, by decide +kernel, rfl, by decide +kernel, by decide +kernel⟩
  refine F.ok S (fun vs H Q E h => ?_) (fun cdv A outer s H vs Q E hr h => ?_)
  · obtain ⟨d, e, b, o, ws, pr, st, t, m, N, rfl, _⟩ := h
    rfl
  obtain ⟨d, e, b, o, ws, pr, st, t, m, N, rfl, hd, hM, hw, he, hb, hF, hS, q⟩ := h
  refine ⟨_, (pss_one (ps_ret (pe_ix (ix_listK (K := K) rfl) (pe_comp (ys := ["numbers"]) (ix := [1]) (.of S {}) rfl (pi_listK (K := K) rfl (pe_dget (hu_of hr) (pv 0) (pv 2) (fun _ _ => rfl))) (fun cl s3 H3 fp => pts_one (pt_cmp (pc_dnotin (hu_of hr) (pe_ix (ix_tupK (K := K) rfl) (pv 0) pe_int (fun _ _ => rfl)) (pv 1)) rfl)) (fun cl s3 H3 fp => (pv 0))) pe_int (fun _ _ => rfl)))), ?_⟩
  obtain ⟨v, hval⟩ := Option.isSome_iff_exists.mp (valV_isSome.mpr hF.1)
  obtain ⟨l, us, ps, rfl, hl, hlus, hps, hlp, hpk⟩ := (hM.val t v (valV_some hval)).pairs
  have hml := movs_len ws pr t
  obtain ⟨i0, ls, k0, hf, hk0, hnx, _, _⟩ := nxK_some (hS t hF.1 hF.2)
  have at_ : ∀ (i : Nat) x, us[i]? = some x → ∃ (k : Nat) (p c : Addr), (movs ws pr t)[i]? = some k ∧ x = .ref p ∧ H p = some (.tup [.int k, .ref c]) ∧ BAt H c (flip t k) := fun i x hx => by
    obtain ⟨qq, h1, p, h2, h3⟩ := paired_get hps hx
    obtain ⟨k, c, g1, rfl, g3⟩ := hpk i qq h1
    exact ⟨k, p, c, g1, h2, h3, g3⟩
  refine ⟨_, rfl, _, rfl, d, .ref l, rfl, by rw [← hval]; exact getS (.inr ⟨o, hd⟩) hb, l, rfl, ⟨us, SqL.of hl⟩, ?_⟩
  refine body_listF (SqL.of hl) (sz (by lia)) (keepI ws pr N t) (fun i y H => us[i]? = some y) (fun _ _ _ _ _ h => h) (fun i x H2 R hx s2 hR => ?_) (fun i x H2 R hx hk s2 hR => ?_) (fun l3 ys H3 l30 s3 h3 hP => ?_)
  · obtain ⟨k, p, c, g1, rfl, g3, g4⟩ := at_ i x hx
    refine ⟨_, rfl, p, _, _, _, rfl, rfl, SqT.of (s2 _ _ g3), at1 _ _ _, _, rfl, e, _, rfl, getS (.inl (s2 _ _ he)) (s2 _ _ g4), _, rfl, ?_⟩
    have := hR _ (Same.refl _)
    unfold keepI at this
    rw [g1] at this
    exact this
  · exact ⟨_, rfl, hR _ _ (Same.refl _) hx⟩
  · rw [hlus, hf] at hP
    cases hP with
    | @cons _ y _ ys' h1 h2 =>
      obtain ⟨k, p, c, g1, rfl, g3, g4⟩ := at_ i0 y h1
      rw [hk0] at g1
      cases g1
      exact ⟨l3, _, _, _, rfl, rfl, SqL.of h3, at0 _ _, q p c k0 H3 s3 hnx (s3 _ _ g3) (s3 _ _ g4)⟩
inductive OrW (H : Hp) (d e r : Addr) (ws : List Wd) (pr x0 : List Bool) (N : List (List Bool × V)) (n : Nat) (σ : St) (H' : Hp) : Prop
  | mk : ∀ i c mt, (σ = [some (.ref d), some (.ref e), some (.ref c), some (.ref r)]) → (Same H H') → (H' r = some (sD mt)) → (keysS mt = (List.range i).map (fun j => itN (nxS ws pr N) j x0)) → ((keysS mt).Nodup) → (BAt H' c (itN (nxS ws pr N) i x0)) → (n = 64 - i) → OrW H d e r ws pr x0 N n σ H'
noncomputable def orK (m N : List (List Bool × V)) (i : Nat) : Bool := match (keysS m)[i]? with | some s => !(valV N s).isSome | none => false
theorem orK_at {m N : List (List Bool × V)} {i : Nat} {s : List Bool} (h : (keysS m)[i]? = some s) : orK m N i = !(valV N s).isSome := by unfold orK; rw [h]
inductive orG (m : List (List Bool × V)) (i : Nat) (y : V) (H : Hp) : Prop
  | mk : ∀ s a, ((keysS m)[i]? = some s) → (y = V.ref a) → (BAt H a s) → orG m i y H
theorem ok_onring (F : Fun K "on_a_ring" "on_a_ring" sOnARing f fd) (d_endless_step : Callee P w K mg base "endless_step" 1 ["steps", "numbers", "here"] spEndless) : FnOk P w K mg base CX0 2 f fd ["steps", "numbers"] spOnRing := by
  have S : FnScope ["steps", "numbers", "here", "met"] ["steps", "numbers"] (defScope sOnARing) := ⟨rfl, rfl, rfl, by decide +kernel, rfl, by decide +kernel, by decide +kernel⟩
  refine F.ok S (fun vs H Q E h => ?_) (fun cdv A outer s H vs Q E hr h => ?_)
  · obtain ⟨d, e, o, ws, pr, st, m, N, rfl, _⟩ := h
    rfl
  obtain ⟨d, e, o, ws, pr, st, m, N, rfl, hd, hM, hw, hn, he, hF, hS, q⟩ := h
  refine ⟨_, (pss_cons (ps_set (i := 2) S.nd rfl (Or.inl rfl) (pe_ix (ix_listK (K := K) rfl) (pe_comp (ys := ["numbers"]) (ix := [1]) (.of S {}) rfl (pi_dict (pv 0)) (fun cl s3 H3 fp => pts_one (pt_cmp (pc_dnotin (hu_of hr) (pv 0) (pv 1)) rfl)) (fun cl s3 H3 fp => (pv 0))) pe_int (fun _ _ => rfl)))
    (pss_cons (ps_set (i := 3) S.nd rfl (Or.inl rfl) pe_dnewT)
    (pss_cons (ps_while PassesOwn.never (pt_cmp (pc_dnotin (hu_of hr) (pv 2) (pv 3)) rfl) (pss_cons (ps_dput (hu_of hr) (pv 3) (pv 2) pe_bl rfl)
    (pss_one (ps_set (i := 2) S.nd rfl (Or.inl rfl) (pe_ix (ix_tupK (K := K) rfl) (pe_callD d_endless_step hr (by lia) rfl (pa_cons (pv 0) (pa_cons (pv 1) (pa_cons (pv 2) pa_nil)))) pe_int (fun _ _ => rfl))))))
    (pss_one (ps_ret (pv 2)))))), ends_o fun Dd hq => ?_⟩
  have hm64 : m.length ≤ 64 := Nat.le_trans hM.len (pow64 hn)
  refine ⟨_, rfl, d, o, sP m, rfl, hd, ?_⟩
  refine body_dictF hd (by rw [sP_len]; exact sz (by lia)) (orK m N) (orG m) (fun _ _ _ _ t ⟨s, a, e1, e2, e3⟩ => ⟨s, a, e1, e2, t _ _ e3⟩)
    (fun i kv b H2 R hkv hb s2 hR => ?_) (fun i kv b H2 R hkv hb hk s2 hR => ?_) (fun l3 ys H3 l30 s3 h3 hP => ?_)
  · obtain ⟨t, v, hm, rfl, hkt⟩ := sP_get hkv
    refine ⟨_, rfl, _, rfl, e, _, rfl, getS (.inl (s2 _ _ he)) (kst_at hb), _, rfl, ?_⟩
    have := hR _ (Same.refl _)
    rw [orK_at hkt] at this
    exact this
  · obtain ⟨t, v, hm, rfl, hkt⟩ := sP_get hkv
    exact ⟨_, rfl, hR _ _ (Same.refl _) ⟨t, b, hkt, rfl, kst_at hb⟩⟩
  have hne : ∃ i0 ls, (List.range (sP m).length).filter (orK m N) = i0 :: ls := by
    obtain ⟨s, h1, h2⟩ := hF
    obtain ⟨j, hj, ej⟩ := List.mem_iff_getElem.mp h1
    have hmem : j ∈ (List.range (sP m).length).filter (orK m N) := List.mem_filter.mpr ⟨List.mem_range.mpr (by rw [sP_len]; unfold keysS at hj; rw [List.length_map] at hj; exact hj), by
      rw [orK_at (by rw [List.getElem?_eq_getElem hj, ej])]
      simp
      exact valV_none.mpr h2⟩
    cases e : (List.range (sP m).length).filter (orK m N) with
    | nil => rw [e] at hmem; cases hmem
    | cons i l => exact ⟨i, l, rfl⟩
  obtain ⟨i0, ls, hf⟩ := hne
  have hi0 : i0 ∈ (List.range (sP m).length).filter (orK m N) := by rw [hf]; simp
  rw [hf] at hP
  cases hP with
  | @cons _ y _ ys' h1 h2 =>
  obtain ⟨x0, xa, g1, rfl, g3⟩ := h1
  have hx0 : Free m N x0 := by
    have h4 := (List.mem_filter.mp hi0).2
    rw [orK_at g1] at h4
    exact ⟨List.mem_of_getElem? g1, valV_none.mp (by simpa using h4)⟩
  refine ⟨l3, _, _, _, rfl, rfl, SqL.of h3, at0 _ _, ?_⟩
  intro r hr0
  have n4 := Same.new hr0 (.dT [])
  have hr00 : H r = none := s3.free hr0
  have hfree : ∀ i, Free m N (itN (nxS ws pr N) i x0) := fun i => by
    induction i with
    | zero => exact hx0
    | succ i ih =>
      obtain ⟨k, _, _, e1, e2⟩ := ih.next hM hS
      show Free m N (nxS ws pr N (itN (nxS ws pr N) i x0))
      rw [e1]
      exact e2
  refine ⟨OrW H d e r ws pr x0 N,
    ⟨_, 0, xa, [], rfl, s3.trans n4, upd_same, rfl, List.nodup_nil, n4 _ _ g3, rfl⟩, ?_⟩
  rintro n σ H5 ⟨i, c, mt, rfl, s5, hr5, hkeys, hnd, hc, rfl⟩
  have hi64 : i ≤ 64 := by
    have h5 := length_le_of_nodup hnd (r := keysS m) fun x hx => by
      rw [hkeys] at hx
      obtain ⟨j, _, rfl⟩ := List.mem_map.mp hx
      exact (hfree j).1
    have h6 := congrArg List.length hkeys
    rw [List.length_map, List.length_range] at h6
    have h7 : (keysS m).length = m.length := List.length_map _
    lia
  refine ⟨_, rfl, _, rfl, r, _, rfl, getS (.inl hr5) hc, _, rfl, ?_⟩
  have hmtl : mt.length = i := by
    have h6 := congrArg List.length hkeys
    unfold keysS at h6
    rw [List.length_map, List.length_map, List.length_range] at h6
    exact h6
  cases hv : valV mt (itN (nxS ws pr N) i x0) with
  | some v =>
    refine iteF ⟨_, rfl, ?_⟩
    have hin : itN (nxS ws pr N) i x0 ∈ keysS mt := valV_isSome.mp (by rw [hv]; rfl)
    rw [hkeys] at hin
    obtain ⟨j, hj, ej⟩ := List.mem_map.mp hin
    have hj := List.mem_range.mp hj
    refine hq _ _ <| q c _ H5 s5 hc (hfree i) ⟨i - j, by lia, by lia, ?_⟩
    rw [← ej]
    rw [← itN_add, show i - j + j = i from by lia]
    exact ej.symm
  | none =>
    have hout : itN (nxS ws pr N) i x0 ∉ keysS mt := valV_none.mp hv
    refine iteT (turn_o fun D1 hn1 => ?_)
    refine ⟨_, rfl, _, rfl, r, _, rfl, putS hr5 hc (small1000 (by lia)), ?_⟩
    rw [keys_put_new hout]
    have s6 : Same H (upd H5 r (sD (mt ++ [(itN (nxS ws pr N) i x0, .bl true)]))) := s5.updNew hr00
    have t6 : TupLe H5 (upd H5 r (sD (mt ++ [(itN (nxS ws pr N) i x0, .bl true)]))) := tup_upd fun xs z => by rw [hr5] at z; cases z
    have hr6 : upd H5 r (sD (mt ++ [(itN (nxS ws pr N) i x0, .bl true)])) r = some (sD (mt ++ [(itN (nxS ws pr N) i x0, .bl true)])) := upd_same
    have hc6 := t6 _ _ hc
    generalize upd H5 r (sD (mt ++ [(itN (nxS ws pr N) i x0, .bl true)])) = H6 at s6 t6 hr6 hc6
    have hnd6 : (keysS (mt ++ [(itN (nxS ws pr N) i x0, V.bl true)])).Nodup := by rw [keys_snoc]; exact nodup_snoc hnd hout
    have hkeys6 : keysS (mt ++ [(itN (nxS ws pr N) i x0, V.bl true)]) = (List.range (i + 1)).map (fun j => itN (nxS ws pr N) j x0) := by rw [keys_snoc, hkeys, List.range_succ, List.map_append]; rfl
    have hi1 : i < 64 := by
      have h5 := length_le_of_nodup hnd6 (r := keysS m) fun x hx => by
        rw [hkeys6] at hx
        obtain ⟨j, _, rfl⟩ := List.mem_map.mp hx
        exact (hfree j).1
      have h6 := congrArg List.length hkeys6
      rw [List.length_map, List.length_range] at h6
      have h7 : (keysS m).length = m.length := List.length_map _
      lia
    refine ⟨_, rfl, _, rfl, _, rfl, d, e, c, o, ws, pr, st, _, m, N, rfl, s6 _ _ hd, hM.mono s6, hw, s6 _ _ he, hc6, hfree i, hS, fun p c7 k H7 s7 hk h7 hc7 => ?_⟩
    refine ⟨p, _, _, _, rfl, rfl, SqT.of h7, at1 _ _ _, ?_⟩
    refine hn1 _ _ _ ?_ ⟨i + 1, c7, _, rfl, s6.trans s7, s7 _ _ hr6, hkeys6, hnd6, ?_, rfl⟩
    · lia
    · show BAt H7 c7 (nxS ws pr N (itN (nxS ws pr N) i x0))
      have : nxS ws pr N (itN (nxS ws pr N) i x0) = flip (itN (nxS ws pr N) i x0) k := by unfold nxS at hk ⊢; rw [hk]
      rw [this]
      exact hc7
inductive RgW (H : Hp) (d e b r : Addr) (ws : List Wd) (pr t : List Bool) (N : List (List Bool × V)) (J n : Nat) (σ : St) (H' : Hp) : Prop
  | mk : ∀ i p c k ks, (σ = [some (.ref d), some (.ref e), some (.ref b), some (.ref p), some (.ref r)]) → (Same H H') → (H' r = some (.lst (nats ks))) → (ks.length = i) → (1 ≤ i) → (i ≤ J) → (walkN ws pr t ks = some (itN (nxS ws pr N) i t)) → (H' p = some (.tup [.int (k : Nat), .ref c])) → (BAt H' c (itN (nxS ws pr N) i t)) → (n = J - i) → RgW H d e b r ws pr t N J n σ H'
theorem ok_ring (F : Fun K "ring_from" "ring_from" sRingFrom f fd) (d_endless_step : Callee P w K mg base "endless_step" 1 ["steps", "numbers", "here"] spEndless) : FnOk P w K mg base CX0 2 f fd ["steps", "numbers", "stand"] spRing := by
  have S : FnScope ["steps", "numbers", "stand", "step", "ring"] ["steps", "numbers", "stand"] (defScope sRingFrom) := ⟨rfl, rfl, rfl, by decide +kernel, rfl, by decide +kernel, by decide +kernel⟩
  refine F.ok S (fun vs H Q E h => ?_) (fun cdv A outer s H vs Q E hr h => ?_)
  · obtain ⟨d, e, b, o, ws, pr, st, t, m, N, rfl, _⟩ := h
    rfl
  obtain ⟨d, e, b, o, ws, pr, st, t, m, N, rfl, hd, hM, hw, he, hb, hF, hS, ⟨J, hJ1, hJ64, hJ⟩, q⟩ := h
  refine ⟨_, (pss_cons (ps_set (i := 3) S.nd rfl (Or.inl rfl) (pe_callD d_endless_step hr (by lia) rfl (pa_cons (pv 0) (pa_cons (pv 1) (pa_cons (pv 2) pa_nil)))))
    (pss_cons (ps_set (i := 4) S.nd rfl (Or.inl rfl) (pe_lst (pa_cons (pe_ix (ix_tupK (K := K) rfl) (pv 3) pe_int (fun _ _ => rfl)) pa_nil)))
    (pss_cons (ps_while PassesOwn.never (pt_cmpR (op_neD (K := K) rfl hr.units) (pe_ix (ix_tupK (K := K) rfl) (pv 3) pe_int (fun _ _ => rfl)) (pv 2) (nomark _)) (pss_cons (ps_set (i := 3) S.nd rfl (Or.inl rfl) (pe_callD d_endless_step hr (by lia) rfl (pa_cons (pv 0) (pa_cons (pv 1) (pa_cons (pe_ix (ix_tupK (K := K) rfl) (pv 3) pe_int (fun _ _ => rfl)) pa_nil)))))
    (pss_one (ps_expr (pe_bm PySem.F.plainAttrs_list PySem.F.slot_list_append PySem.F.type_list_append mt_append (pv 4) (pa_cons (pe_ix (ix_tupK (K := K) rfl) (pv 3) pe_int (fun _ _ => rfl)) pa_nil))))))
    (pss_one (ps_ret (pv 4)))))), ends_o fun Dd hq => ?_⟩
  have hfree : ∀ i, Free m N (itN (nxS ws pr N) i t) := fun i => by
    induction i with
    | zero => exact hF
    | succ i ih =>
      obtain ⟨k, _, _, e1, e2⟩ := ih.next hM hS
      show Free m N (nxS ws pr N (itN (nxS ws pr N) i t))
      rw [e1]
      exact e2
  have nx : ∀ i k, nxK ws pr N (itN (nxS ws pr N) i t) = some k → flip (itN (nxS ws pr N) i t) k = itN (nxS ws pr N) (i + 1) t ∧ k ∈ movs ws pr (itN (nxS ws pr N) i t) := fun i k hk => by
    obtain ⟨k', h1, h2, h3, _⟩ := (hfree i).next hM hS
    rw [hk] at h1
    cases h1
    exact ⟨h3.symm, h2⟩
  refine ⟨_, rfl, _, rfl, _, rfl, d, e, b, o, ws, pr, st, t, m, N, rfl, hd, hM, hw, he, hb, hF, hS, fun p c k H1 s1 hk h1 hc1 => ?_⟩
  obtain ⟨hk1, hk2⟩ : flip t k = itN (nxS ws pr N) 1 t ∧ k ∈ movs ws pr t := nx 0 k hk
  refine ⟨_, rfl, p, _, _, _, rfl, rfl, SqT.of h1, at0 _ _, (by show 1 ≤ sizeLine; decide), fun r hr0 => ?_⟩
  have n2 := Same.new hr0 (.lst [.int (k : Nat)])
  have hr00 := s1.free hr0
  refine ⟨RgW H d e b r ws pr t N J,
    ⟨_, 1, p, c, k, [k], rfl, s1.trans n2, upd_same, rfl, Nat.le_refl _, hJ1, ?_, n2 _ _ h1, ?_, rfl⟩, ?_⟩
  · show (if k ∈ movs ws pr t then walkN ws pr (flip t k) [] else none) = _
    rw [if_pos hk2, ← hk1]
    rfl
  · rw [← hk1]; exact n2 _ _ hc1
  clear hk1 hk2 hk h1 hc1 n2 s1 hr0
  rintro n σ H3 ⟨i, p, c, k, ks, rfl, s3, hr3, hlk, hi1, hiJ, hwalk, hp3, hc3, rfl⟩
  refine ⟨_, rfl, p, _, _, _, rfl, rfl, SqT.of hp3, at1 _ _ _, _, rfl, eqD_of (standD_at hc3) (standD_at (s3 _ _ hb)) (goodStand _) (goodStand _) (eqv_stand _ _) ⟨_, rfl, ite2 (fun cc => ?_) (fun cc => ?_)⟩⟩
  · have cne : ¬ itN (nxS ws pr N) i t = t := by simpa using cc
    have hiJ' : i < J := by
      rcases Nat.lt_or_ge i J with h | h
      · exact h
      · have : i = J := by lia
        rw [this] at cne
        exact absurd hJ cne
    refine turn_o fun D1 hn1 => ?_
    refine ⟨_, rfl, _, rfl, _, rfl, p, _, _, _, rfl, rfl, SqT.of hp3, at1 _ _ _, d, e, c, o, ws, pr, st, _, m, N, rfl, s3 _ _ hd, hM.mono s3, hw, s3 _ _ he, hc3, hfree i, hS, fun p4 c4 k4 H4 s4 hk4 h4 hc4 => ?_⟩
    obtain ⟨hk5, hk6⟩ := nx i k4 hk4
    have hr4 := s4 _ _ hr3
    refine ⟨_, rfl, .inl ⟨rfl, _, SqL.of hr4⟩, _, rfl, p4, _, _, _, rfl, rfl, SqT.of h4, at0 _ _, r, _, _, rfl, rfl, hr4, small1000 (by rw [nats_len]; lia), ?_⟩
    have t5 : TupLe H4 (upd H4 r (.lst (nats ks ++ [.int (k4 : Nat)]))) := tup_upd fun xs z => by rw [hr4] at z; cases z
    refine hn1 _ _ _ ?_ ⟨i + 1, p4, c4, k4, ks ++ [k4], rfl, (s3.trans s4).updNew hr00, by rw [upd_same]; simp [nats], by simp [hlk], by lia, hiJ', ?_, t5 _ _ h4, ?_, rfl⟩
    · lia
    · rw [walkN_snoc hwalk hk6, hk5]
    · rw [← hk5]; exact t5 _ _ hc4
  · have ceq : itN (nxS ws pr N) i t = t := by simpa using cc
    rw [ceq] at hwalk
    exact ⟨_, rfl, hq _ _ (q r ks H3 hr00 s3 hr3 (fun z => by rw [z] at hlk; simp at hlk; lia) hwalk)⟩
noncomputable def jgK (ws : List Wd) (pr : List Bool) (m : List (List Bool × V)) (i : Nat) : Bool := match (keysS m)[i]? with | some s => (movs ws pr s).isEmpty | none => false
theorem jgK_at {ws : List Wd} {pr : List Bool} {m : List (List Bool × V)} {i : Nat} {s : List Bool} (h : (keysS m)[i]? = some s) : jgK ws pr m i = (movs ws pr s).isEmpty := by unfold jgK; rw [h]
inductive jgG (m : List (List Bool × V)) (i : Nat) (y : V) (H : Hp) : Prop
  | mk : ∀ s a, ((keysS m)[i]? = some s) → (y = V.ref a) → (BAt H a s) → jgG m i y H
theorem ok_judged (F : Fun K "judged" "judged" sJudged f fd) (d_steps_from : Callee P w K mg base "steps_from" 12 ["board", "pressed", "stand"] (spSteps K)) (d_roads_along : Callee P w K mg base "roads_along" 1 ["steps", "stand"] spRoads) (d_numbered : Callee P w K mg base "numbered" 1 ["steps"] spNumbered)
    (d_on_a_ring : Callee P w K mg base "on_a_ring" 2 ["steps", "numbers"] spOnRing) (d_ring_from : Callee P w K mg base "ring_from" 2 ["steps", "numbers", "stand"] spRing) (n_len : mg "len" = none) : FnOk P w K mg base CX0 13 f fd ["board", "pressed", "stand"] (spJudged K) := by
  have S : FnScope ["board", "pressed", "stand", "steps", "roads", "numbers", "ring_stand", "ends"] ["board", "pressed", "stand"] (defScope sJudged) := ⟨rfl, rfl, rfl, by decide +kernel, rfl, by decide +kernel, by decide +kernel⟩
  refine F.ok S (fun vs H Q E h => ?_) (fun cdv A outer s H vs Q E hr h => ?_)
  · obtain ⟨D, b, a, ws, pr, st, rfl, _⟩ := h
    rfl
  obtain ⟨D, b, a, ws, pr, st, rfl, hB, hA, hl, q⟩ := h
  refine ⟨_, (pss_cons (ps_set (i := 3) S.nd rfl (Or.inr rfl) (pe_callD d_steps_from hr (by lia) rfl (pa_cons (pv 0) (pa_cons (pv 1) (pa_cons (pv 2) pa_nil)))))
    (pss_cons (ps_set (i := 4) S.nd rfl (Or.inl rfl) (pe_callD d_roads_along hr (by lia) rfl (pa_cons (pv 3) (pa_cons (pv 2) pa_nil))))
    (pss_cons (ps_set (i := 5) S.nd rfl (Or.inl rfl) (pe_callD d_numbered hr (by lia) rfl (pa_cons (pv 3) pa_nil)))
    (pss_cons (ps_if (pt_cmpR op_lt (pe_callB call_lenT rfl n_len PySem.boot_len (pa_cons (pv 5) pa_nil)) (pe_callB call_lenT rfl n_len PySem.boot_len (pa_cons (pv 3) pa_nil)) (nomark _)) (pss_cons (ps_set (i := 6) S.nd rfl (Or.inl rfl) (pe_callD d_on_a_ring hr (by lia) rfl (pa_cons (pv 3) (pa_cons (pv 5) pa_nil))))
    (pss_one (ps_ret (pe_tup (pa_cons pe_str (pa_cons (pe_dget (hu_of hr) (pv 4) (pv 6) (fun _ _ => rfl)) (pa_cons (pe_callD d_ring_from hr (by lia) rfl (pa_cons (pv 3) (pa_cons (pv 5) (pa_cons (pv 6) pa_nil)))) pa_nil))))))) pss_nil)
    (pss_cons (ps_setC (i := 7) (ys := ["steps"]) (ix := [3]) (.of S {}) rfl S.nd rfl rfl (pi_dict (pv 3)) (fun cl s3 H3 fp => pts_one (pt_not (pt_truthK (K := K) rfl (pe_dget (hu_of hr) (pv 1) (pv 0) (fun _ _ => rfl)) (fun _ => rfl)))) (fun cl s3 H3 fp => (pv 0)))
    (pss_cons (ps_if (pt_cmpR op_gt (pe_callB (call_len_seqK (K := K) rfl) rfl n_len PySem.boot_len (pa_cons (pv 7) pa_nil)) pe_int (nomark _)) (pss_one (ps_ret (pe_tup (pa_cons pe_str (pa_cons (pe_dget (hu_of hr) (pv 4) (pe_ix (ix_listK (K := K) rfl) (pv 7) pe_int (fun _ _ => rfl)) (fun _ _ => rfl)) (pa_cons (pe_dget (hu_of hr) (pv 4) (pe_ix (ix_listK (K := K) rfl) (pv 7) pe_int (fun _ _ => rfl)) (fun _ _ => rfl)) pa_nil)))))) pss_nil)
    (pss_one (ps_ret (pe_tup (pa_cons pe_str (pa_cons (pe_ix (ix_listK (K := K) rfl) (pv 7) pe_int (fun _ _ => rfl)) (pa_cons (pv 5) pa_nil)))))))))))), ends_o fun Dd hq => ?_⟩
  have hn := hB.n
  refine seq_g fun B1 hB1 => ⟨_, rfl, _, rfl, _, rfl, D, b, a, ws, pr, st, rfl, hB, hA, hl, fun d m o H1 hd0 s1 hd1 hM1 => hB1 [some (.ref D), some (.ref b), some (.ref a), some (.ref d), none, none, none, none] _ ?_⟩
  have hm64 : m.length ≤ 64 := Nat.le_trans hM1.len (pow64 (by lia))
  refine seq_g fun B2 hB2 => ⟨_, rfl, _, rfl, d, a, o, ws, pr, st, m, rfl, hd1, hM1, s1 _ _ hA, by lia, fun r mr H2 hr0 s2 hr2 hR2 => hB2 [some (.ref D), some (.ref b), some (.ref a), some (.ref d), some (.ref r), none, none, none] _ ?_⟩
  refine seq_g fun B3 hB3 => ⟨_, rfl, d, o, ws, pr, st, m, rfl, s2 _ _ hd1, hM1.mono s2, by lia, hn, fun e N H3 he0 s3 he3 hN hstuck => hB3 [some (.ref D), some (.ref b), some (.ref a), some (.ref d), some (.ref r), some (.ref e), none, none] _ ?_⟩
  have s3' : Same H H3 := s1.trans (s2.trans s3)
  have hd3 : H3 d = some (.frz o (sD m)) := s3 _ _ (s2 _ _ hd1)
  have hM3 := hM1.mono (s2.trans s3)
  have hr3 := s3 _ _ hr2
  have hV3 : ∀ x v, (x, v) ∈ mr → RAt H H3 ws pr st x 65 v := fun x v h => by
    obtain ⟨l, ks, e1, e2, e3, e4, e5⟩ := hR2.val x v h
    exact ⟨l, ks, e1, s1.free e2, s3 _ _ e3, e4, e5⟩
  have he00 : H e = none := s1.free (s2.free he0)
  have road : ∀ x, Reach ws pr st x → ∃ l ks, valV mr x = some (.ref l) ∧ H l = none ∧ H3 l = some (.lst (nats ks)) ∧ walkN ws pr st ks = some x ∧ ks.length < 65 := fun x hx => by
    obtain ⟨v, hv⟩ := Option.isSome_iff_exists.mp (valV_isSome.mpr (hR2.all x hx))
    obtain ⟨l, ks, rfl, e2, e3, e4, e5⟩ := hV3 x v (valV_some hv)
    exact ⟨l, ks, hv, e2, e3, e4, e5⟩
  clear hR2 hr2 hd1 hM1
  refine seq_g fun B4 hB4 => ⟨_, rfl, e, sP N, rfl, .inl he3, _, rfl, d, sP m, rfl, .inr ⟨o, hd3⟩, _, _, rfl, rfl, _, rfl, ite2 (fun c => ?_) (fun c => ?_)⟩
  · have c' : N.length < m.length := by
      have := of_decide_eq_true c
      rw [sP_len, sP_len] at this
      lia
    refine seq_g fun B5 hB5 => ⟨_, rfl, _, rfl, d, e, o, ws, pr, st, m, N, rfl, hd3, hM3, hn, by lia, he3, exists_free hM3.nd c', hstuck, fun p4 x H4 s4 hp4 hF hRing => hB5 [some (.ref D), some (.ref b), some (.ref a), some (.ref d), some (.ref r), some (.ref e), some (.ref p4), none] _ ?_⟩
    obtain ⟨l1, k1, hv1, hl10, hl1, hw1, hk65⟩ := road x ((hM3.all x).mp hF.1)
    refine ⟨_, rfl, _, rfl, r, .ref l1, rfl, by rw [← hv1]; exact getS (.inl (s4 _ _ hr3)) hp4, ?_⟩
    refine ⟨_, rfl, _, rfl, _, rfl, d, e, p4, o, ws, pr, st, x, m, N, rfl, s4 _ _ hd3, hM3.mono s4, hn, s4 _ _ he3, hp4, hF, hstuck, hRing, fun l2 k2 H5 hl20 s5 hl2 hne hw2 => ⟨(by show 3 ≤ sizeLine; decide), fun p hp => ?_⟩⟩
    have n6 := Same.new hp (.tup [.str "rounds", .ref l1, .ref l2])
    exact hq _ _ <| q p _ _ _ _ (s3'.trans (s4.trans (s5.trans n6))) upd_same (.rounds l1 l2 k1 k2 x hl10 (s3'.free (s4.free hl20)) (n6 _ _ (s5 _ _ (s4 _ _ hl1))) (n6 _ _ hl2) hw1 hw2 hne hk65)
  have c' : ¬ N.length < m.length := fun z => by
    have := of_decide_eq_false (Bool.eq_false_iff.mpr c)
    rw [sP_len, sP_len] at this
    lia
  have hall := same_keys hN.nd hM3.nd hN.sub c'
  refine hB4 _ _ (seq_g fun B6 hB6 => ⟨_, rfl, d, o, sP m, rfl, hd3, ?_⟩)
  refine body_dictF hd3 (by rw [sP_len]; exact sz (by lia)) (jgK ws pr m) (jgG m) (fun _ _ _ _ t ⟨s, a, e1, e2, e3⟩ => ⟨s, a, e1, e2, t _ _ e3⟩)
    (fun i kv b H2 R hkv hb s2 hR => ?_) (fun i kv b H2 R hkv hb hk s2 hR => ?_) (fun l4 ys H4 l40 s4 h4 hP => ?_)
  · obtain ⟨t, v, hm, rfl, hkt⟩ := sP_get hkv
    have htm : (t, v) ∈ m := List.mem_of_getElem? hm
    have hval : valV m t = some v := valV_mem hM3.nd htm
    obtain ⟨l, us, ps, rfl, hl, hlus, hps, hlp, hpk⟩ := ((hM3.val t v htm).mono s2).pairs
    refine ⟨_, rfl, _, rfl, d, .ref l, rfl, by rw [← hval]; exact getS (.inr ⟨o, s2 _ _ hd3⟩) (kst_at hb), _, .inl ⟨us, SqL.of hl, rfl⟩, ?_⟩
    show R (!!us.isEmpty) H2
    have e1 : us.isEmpty = (movs ws pr t).isEmpty := by
      cases us <;> cases hmv : movs ws pr t <;> simp_all
    have := hR _ (Same.refl _)
    rw [jgK_at hkt] at this
    rw [Bool.not_not, e1]
    exact this
  · obtain ⟨t, v, hm, rfl, hkt⟩ := sP_get hkv
    exact ⟨_, rfl, hR _ _ (Same.refl _) ⟨t, b, hkt, rfl, kst_at hb⟩⟩
  have s4' : Same H H4 := s3'.trans s4
  have ends : ∀ (i : Nat) y, ys[i]? = some y → ∃ x c, y = V.ref c ∧ BAt H4 c x ∧ Reach ws pr st x ∧ movs ws pr x = [] := fun i y hy => by
    obtain ⟨j, _, hk, x, c, e1, e2, e3⟩ := paired_filter hP i y hy
    rw [jgK_at e1] at hk
    exact ⟨x, c, e2, e3, (hM3.all x).mp (List.mem_of_getElem? e1), List.isEmpty_iff.mp hk⟩
  have hys64 : ys.length ≤ 64 := by
    have h1 := Paired.length hP
    have h2 := List.length_filter_le (jgK ws pr m) (List.range (sP m).length)
    rw [List.length_range, sP_len] at h2
    rw [sP_len] at h1
    lia
  refine hB6 [some (.ref D), some (.ref b), some (.ref a), some (.ref d), some (.ref r), some (.ref e), none, some (.ref l4)] _ (seq_g fun B7 hB7 => ?_)
  refine ⟨_, rfl, l4, ys, rfl, .inl (SqL.of h4), _, _, rfl, rfl, _, rfl, ite2 (fun c2 => ?_) (fun c2 => ?_)⟩
  · have hy2 : 1 < ys.length := by
      have := of_decide_eq_true c2
      lia
    obtain ⟨x0, c0, e0, b0, r0, m0⟩ := ends 0 ys[0] (by simp)
    obtain ⟨x1, c1, e1, b1, r1, m1⟩ := ends 1 ys[1] (by simp)
    obtain ⟨l1, k1, hv1, hl10, hl1, hw1, hk65⟩ := road x0 r0
    obtain ⟨l2, k2, hv2, hl20, hl2, hw2, _⟩ := road x1 r1
    have a0 : atI ys 0 = some (.ref c0) := atI_nat (j := 0) (by rw [← e0]; simp)
    have a1 : atI ys 1 = some (.ref c1) := atI_nat (j := 1) (by rw [← e1]; simp)
    have hne : x0 ≠ x1 := fun z => by
      have g0 : ys[0]? = some ys[0] := by simp
      have g1 : ys[1]? = some ys[1] := by simp
      obtain ⟨j0, hj0, y0, cc0, p1, p2, p3⟩ := paired_get hP g0
      obtain ⟨j1, hj1, y1, cc1, q1, q2, q3⟩ := paired_get hP g1
      have ey0 : y0 = x0 := by
        rw [p2] at e0
        cases e0
        have := b0.symm.trans p3
        have := Option.some.inj this
        injection this with this
        exact ((List.map_inj_right (f := V.bl) (fun x y e => by injection e)).mp this).symm
      have ey1 : y1 = x1 := by
        rw [q2] at e1
        cases e1
        have := b1.symm.trans q3
        have := Option.some.inj this
        injection this with this
        exact ((List.map_inj_right (f := V.bl) (fun x y e => by injection e)).mp this).symm
      have hij : j0 < j1 := by
        have hsort : ((List.range (sP m).length).filter (jgK ws pr m)).Pairwise (· < ·) := List.Pairwise.filter _ List.pairwise_lt_range
        have := (List.pairwise_iff_getElem.mp hsort) 0 1 (List.getElem?_eq_some_iff.mp hj0).1 (List.getElem?_eq_some_iff.mp hj1).1 (by lia)
        rw [(List.getElem?_eq_some_iff.mp hj0).2, (List.getElem?_eq_some_iff.mp hj1).2] at this
        exact this
      rw [ey0] at p1
      rw [ey1, ← z] at q1
      have hnd := List.pairwise_iff_getElem.mp hM3.nd j0 j1 (List.getElem?_eq_some_iff.mp p1).1 (List.getElem?_eq_some_iff.mp q1).1 hij
      rw [(List.getElem?_eq_some_iff.mp p1).2, (List.getElem?_eq_some_iff.mp q1).2] at hnd
      exact hnd rfl
    refine ⟨_, rfl, _, rfl, l4, ys, _, _, rfl, rfl, SqL.of h4, a0, r, .ref l1, rfl, by rw [← hv1]; exact getS (.inl (s4 _ _ hr3)) b0, ?_⟩
    refine ⟨_, rfl, _, rfl, l4, ys, _, _, rfl, rfl, SqL.of h4, a1, r, .ref l2, rfl, by rw [← hv2]; exact getS (.inl (s4 _ _ hr3)) b1, (by show 3 ≤ sizeLine; decide), fun p hp => ?_⟩
    have n6 := Same.new hp (.tup [.str "parts", .ref l1, .ref l2])
    exact hq _ _ <| q p _ _ _ _ (s4'.trans n6) upd_same (.parts l1 l2 k1 k2 x0 x1 hl10 hl20 (n6 _ _ (s4 _ _ hl1)) (n6 _ _ (s4 _ _ hl2)) hw1 hw2 m0 m1 hne hk65)
  · have hy1 : ys.length ≤ 1 := by
      have := of_decide_eq_false (Bool.eq_false_iff.mpr c2)
      lia
    have isEnd : ∀ x, Reach ws pr st x → movs ws pr x = [] → ∃ i y c, ys[i]? = some y ∧ y = V.ref c ∧ BAt H4 c x := fun x hx hm0 => by
      obtain ⟨j, hj, ej⟩ := List.mem_iff_getElem.mp ((hM3.all x).mpr hx)
      have hjm : j ∈ (List.range (sP m).length).filter (jgK ws pr m) := List.mem_filter.mpr ⟨List.mem_range.mpr (by rw [sP_len]; unfold keysS at hj; rw [List.length_map] at hj; exact hj), by
        rw [jgK_at (by rw [List.getElem?_eq_getElem hj, ej])]
        simp [hm0]⟩
      obtain ⟨i, hi, ei⟩ := List.mem_iff_getElem.mp hjm
      obtain ⟨y, hy, x', c, e1, e2, e3⟩ := paired_get' hP (i := i) (x := j) (by rw [List.getElem?_eq_getElem hi, ei])
      rw [List.getElem?_eq_getElem hj, ej] at e1
      cases e1
      exact ⟨i, y, c, hy, e2, e3⟩
    have hst : st ∈ keysS N := hall st ((hM3.all st).mpr .refl)
    obtain ⟨⟨st', v0⟩, hv0, est⟩ := List.mem_map.mp hst
    obtain ⟨n0, rfl⟩ := hN.num _ _ hv0
    obtain ⟨rest, hrest, hrm⟩ := hN.bottom n0 _ hv0
    have hrr : Reach ws pr st rest := (hM3.all rest).mp (hN.sub rest hrest)
    obtain ⟨i, y, c0, hi, rfl, hc0⟩ := isEnd rest hrr hrm
    have hi0 : i = 0 := by have := (List.getElem?_eq_some_iff.mp hi).1; lia
    subst hi0
    have a0 : atI ys 0 = some (.ref c0) := atI_nat (j := 0) hi
    refine hB7 _ _ ⟨_, rfl, l4, ys, _, _, rfl, rfl, SqL.of h4, a0, _, rfl, (by show 3 ≤ sizeLine; decide), fun p hp => ?_⟩
    have n6 := Same.new hp (.tup [.str "settles", .ref c0, .ref e])
    refine hq _ _ <| q p _ _ _ _ (s4'.trans n6) upd_same (.settles c0 e rest N (n6 _ _ hc0) he00 (n6 _ _ (s4 _ _ he3)) ⟨hN.nd, fun x => ⟨fun h => (hM3.all x).mp (hN.sub x h), fun h => hall x ((hM3.all x).mpr h)⟩, hN.num, hN.falls, fun x hx => ⟨fun hm0 => ?_, fun z => z ▸ hrm⟩, hrr⟩)
    obtain ⟨i, y, c1, hi1, rfl, hc1⟩ := isEnd x hx hm0
    have hi0 : i = 0 := by have := (List.getElem?_eq_some_iff.mp hi1).1; lia
    subst hi0
    rw [hi] at hi1
    cases hi1
    have := hc1.symm.trans hc0
    have := Option.some.inj this
    injection this with this
    exact (List.map_inj_right (f := V.bl) (fun x y e => by injection e)).mp this
end
end RR

end
section
set_option Elab.async false
set_option maxHeartbeats 4000000
set_option linter.all false
set_option maxRecDepth 100000
namespace RR
open PySem L2
section
variable {P : Program} {w : World} {K : PySem.W.Frag} {mg : Str → Option Value} {base : Heap} {f : Addr} {fd : FuncData}
inductive I_spLaw (K : PySem.W.Frag) (vs : List V) (H : Hp) (Q : VK) : Prop
  | mk : ∀ (a : Addr) (ns : List Int), (vs = [.ref a]) → (SqL K H a (ns.map V.int)) → (ns.length ≤ 63) → (∀ H', Q (.bl true) H') → I_spLaw K vs H Q
noncomputable def spLaw (K : PySem.W.Frag) : Sp := fun vs H Q _ => I_spLaw K vs H Q
theorem told_kind {H0 H : Hp} {ws : List Wd} {pr st : List Bool} {kd : Str} {x y : V} (t : Told H0 H ws pr st kd x y) : (∃ c r N, kd = "settles" ∧ x = .ref c ∧ BAt H c r ∧ Paper ws pr st N r) ∨ (decide (V.str kd = V.str "settles") = false ∧ kd ≠ "settles") := by
  cases t with
  | settles c d rest N hc hd0 hd hP => exact .inl ⟨c, rest, N, rfl, rfl, hc, hP⟩
  | parts => exact .inr ⟨by decide +kernel, by decide +kernel⟩
  | rounds => exact .inr ⟨by decide +kernel, by decide +kernel⟩
theorem goodTwo {ws1 ws2 : List Wd} (h1 : ∀ x ∈ ws1, x.depth ≤ 8) (h2 : ∀ x ∈ ws2, x.depth ≤ 8) : GoodD (.list [wordsD ws1, wordsD ws2]) := by
  have g1 := (goodWords fun x hx => Nat.le_trans (h1 x hx) (by decide)).1
  have g2 := (goodWords fun x hx => Nat.le_trans (h2 x hx) (by decide)).1
  refine ⟨by rw [lay_lst]; simp [PyData.canLayAll0, g1, g2], ?_⟩
  have d1 := datas_depth h1
  have d2 := datas_depth h2
  simp only [wordsD, PyData.depth, PyData.depthAll]
  lia
theorem twoD_at {K : PySem.W.Frag} {H : Hp} {l a b : Addr} {ws1 ws2 : List Wd} {us1 us2 : List V} (h : H l = some (.lst [.ref a, .ref b])) (ha : H a = some (.lst us1)) (hb : H b = some (.lst us2)) (w1 : WsAt H ws1 us1) (w2 : WsAt H ws2 us2) : DAt K H (.list [wordsD ws1, wordsD ws2]) (.ref l) :=
  .list (SqL.of h) (.cons (wordsD_at (SqL.of ha) w1) (.cons (wordsD_at (SqL.of hb) w2) .nil))
noncomputable def lawC1 (K : PySem.W.Frag) (a : Addr) (ns : List Int) (c : Int) (n1 : Nat) (n2 : Nat) (b1 : Nat) (b2 : Nat) (d : Nat) : St → Hp → Prop := fun σ' H' => ∃ zs ks D1 D2 us1 us2, σ' = [some (.ref a), some (.int c), some (.ref zs), some (.ref ks), some (.ref D1), some (.ref D2), none, none, none, none, none, none, none, none, none, none, none] ∧ SqL K H' a (ns.map V.int) ∧ H' zs = some (.lst [.int n1, .int n2]) ∧ H' ks = some (.lst [.int b1, .int b2]) ∧ H' D1 = some (.lst us1) ∧ H' D2 = some (.lst us2) ∧ WsAt H' (lboard ns (6 : Nat) n1 b1 d) us1 ∧ WsAt H' (lboard ns (10 : Nat) n2 b2 d) us2
noncomputable def lawC2 (K : PySem.W.Frag) (a : Addr) (ns : List Int) (c : Int) (zs : Addr) (ks : Addr) (D1 : Addr) (D2 : Addr) (n1 : Nat) (n2 : Nat) (b1 : Nat) (b2 : Nat) (us1 : List V) (us2 : List V) (ws1 : List Wd) (ws2 : List Wd) : St → Hp → Prop := fun σ' H' => ∃ W, σ' = [some (.ref a), some (.int c), some (.ref zs), some (.ref ks), some (.ref D1), some (.ref D2), some (.ref W), none, none, none, none, none, none, none, none, none, none] ∧ SqL K H' a (ns.map V.int) ∧ H' zs = some (.lst [.int n1, .int n2]) ∧ H' ks = some (.lst [.int b1, .int b2]) ∧ H' D1 = some (.lst us1) ∧ H' D2 = some (.lst us2) ∧ WsAt H' ws1 us1 ∧ WsAt H' ws2 us2
noncomputable def lawC3 (K : PySem.W.Frag) (a : Addr) (ns : List Int) (c : Int) (zs : Addr) (ks : Addr) (D1 : Addr) (D2 : Addr) (W : Addr) (n1 : Nat) (n2 : Nat) (b1 : Nat) (b2 : Nat) (us1 : List V) (us2 : List V) (ws1 : List Wd) (ws2 : List Wd) : St → Hp → Prop := fun σ' H' => ∃ hd pt U ou, σ' = [some (.ref a), some (.int c), some (.ref zs), some (.ref ks), some (.ref D1), some (.ref D2), some (.ref W), some (.ref hd), some (.ref pt), some (.ref U), none, none, none, none, none, none, none] ∧ SqL K H' a (ns.map V.int) ∧ H' zs = some (.lst [.int n1, .int n2]) ∧ H' ks = some (.lst [.int b1, .int b2]) ∧ H' D1 = some (.lst us1) ∧ H' D2 = some (.lst us2) ∧ WsAt H' ws1 us1 ∧ WsAt H' ws2 us2 ∧ H' U = some (.lst ou) ∧ WsAt H' (sideI ws1 ws2 b1) ou
noncomputable def lawC4 (a : Addr) (ns : List Int) (c : Int) (zs : Addr) (ks : Addr) (D1 : Addr) (D2 : Addr) (W : Addr) (hd : Addr) (pt : Addr) (U : Addr) (n1 : Nat) (n2 : Nat) (b1 : Nat) (b2 : Nat) (us1 : List V) (us2 : List V) (ou : List V) (ws1 : List Wd) (ws2 : List Wd) : St → Hp → Prop := fun σ' H' => ∃ P1 P2 pl S1 S2 sl en, σ' = [some (.ref a), some (.int c), some (.ref zs), some (.ref ks), some (.ref D1), some (.ref D2), some (.ref W), some (.ref hd), some (.ref pt), some (.ref U), some (.ref pl), some (.ref sl), some (.ref en), none, none, none, none] ∧ H' D1 = some (.lst us1) ∧ H' D2 = some (.lst us2) ∧ WsAt H' ws1 us1 ∧ WsAt H' ws2 us2 ∧ H' U = some (.lst ou) ∧ WsAt H' (sideI ws1 ws2 b1) ou ∧ H' pl = some (.lst [.ref P1, .ref P2]) ∧ H' sl = some (.lst [.ref S1, .ref S2]) ∧ BAt H' P1 (bitsOf (cellAt ns 1) b1) ∧ BAt H' P2 (bitsOf (cellAt ns 2) b2) ∧ BAt H' S1 (bitsOf (cellAt ns 3) n1) ∧ BAt H' S2 (bitsOf (cellAt ns 4) n2) ∧ H' en = some (.lst [])
noncomputable def lawC5 (a : Addr) (c : Int) (zs : Addr) (ks : Addr) (D1 : Addr) (D2 : Addr) (W : Addr) (hd : Addr) (pt : Addr) (U : Addr) (pl : Addr) (sl : Addr) (H27 : Hp) : St → Hp → Prop := fun σ' H' => ∃ e o, σ' = [some (.ref a), some (.int c), some (.ref zs), some (.ref ks), some (.ref D1), some (.ref D2), some (.ref W), some (.ref hd), some (.ref pt), some (.ref U), some (.ref pl), some (.ref sl), some (.ref e), o, none, none, none] ∧ Same H27 H'
theorem cut2 {A1 A2 B : TS} {D : Ends} {σ : St} {H : Hp} (C : St → Hp → Prop) (h1 : ∀ B' : TS, (∀ σ' H', C σ' H' → B' D σ' H') → (tSeq A1 (tSeq A2 (B'))) D σ H) (h2 : ∀ σ' H', C σ' H' → B D σ' H') : (tSeq A1 (tSeq A2 (B))) D σ H := h1 B h2
theorem cut3 {A1 A2 A3 B : TS} {D : Ends} {σ : St} {H : Hp} (C : St → Hp → Prop) (h1 : ∀ B' : TS, (∀ σ' H', C σ' H' → B' D σ' H') → (tSeq A1 (tSeq A2 (tSeq A3 (B')))) D σ H) (h2 : ∀ σ' H', C σ' H' → B D σ' H') : (tSeq A1 (tSeq A2 (tSeq A3 (B)))) D σ H := h1 B h2
theorem cut5 {A1 A2 A3 A4 A5 B : TS} {D : Ends} {σ : St} {H : Hp} (C : St → Hp → Prop) (h1 : ∀ B' : TS, (∀ σ' H', C σ' H' → B' D σ' H') → (tSeq A1 (tSeq A2 (tSeq A3 (tSeq A4 (tSeq A5 (B')))))) D σ H) (h2 : ∀ σ' H', C σ' H' → B D σ' H') : (tSeq A1 (tSeq A2 (tSeq A3 (tSeq A4 (tSeq A5 (B)))))) D σ H := h1 B h2
theorem cut6 {A1 A2 A3 A4 A5 A6 B : TS} {D : Ends} {σ : St} {H : Hp} (C : St → Hp → Prop) (h1 : ∀ B' : TS, (∀ σ' H', C σ' H' → B' D σ' H') → (tSeq A1 (tSeq A2 (tSeq A3 (tSeq A4 (tSeq A5 (tSeq A6 (B'))))))) D σ H) (h2 : ∀ σ' H', C σ' H' → B D σ' H') : (tSeq A1 (tSeq A2 (tSeq A3 (tSeq A4 (tSeq A5 (tSeq A6 (B))))))) D σ H := h1 B h2
theorem ok_law (F : Fun K "law" "law" sLaw f fd) (d_law_cell_at : Callee P w K mg base "_law_cell_at" 1 ["script", "k"] (spCell K)) (d_law_board : Callee P w K mg base "_law_board" 13 ["script", "start", "relays", "buttons", "deep"] (spBoard K)) (d_law_bits : Callee P w K mg base "_law_bits" 1 ["number", "size"] spBits)
    (d_law_refused : Callee P w K mg base "_law_refused" 1 ["marks", "which"] spRefused) (d_law_told : Callee P w K mg base "_law_told" 11 ["one", "buttons", "other"] spTold11) (d_law_on : Callee P w K mg base "_law_on" 9 ["word", "relays", "buttons"] (spOn 8)) (d_beside : Callee P w K mg base "beside" 10 ["one", "buttons", "other"] spBesideC)
    (d_rests : Callee P w K mg base "rests" 12 ["board", "pressed"] (spRests K)) (d_judged : Callee P w K mg base "judged" 13 ["board", "pressed", "stand"] (spJudged K))
    (n_range : mg "range" = none) (n_list : mg "list" = none) (n_isinstance : mg "isinstance" = none) (n_sorted : mg "sorted" = none) : FnOk P w K mg base CX0 15 f fd ["script"] (spLaw K) := by
  have S : FnScope ["script", "cell", "sizes", "keys", "one", "other", "wide", "handed", "told", "due", "pressed", "stands", "ends", "left", "first", "second", "found"] ["script"] (defScope sLaw) := ⟨rfl, rfl, rfl, by decide +kernel, rfl, by decide +kernel, by decide +kernel⟩
  refine F.ok S (fun vs H Q E h => ?_) (fun cdv A outer s H vs Q E hr h => ?_)
  · obtain ⟨a, ns, rfl, _⟩ := h
    rfl
  obtain ⟨a, ns, rfl, hS, _, q⟩ := h
  refine ⟨_, (pss_cons (ps_set (i := 1) S.nd rfl (Or.inl rfl) (pe_callD d_law_cell_at hr (by lia) rfl (pa_cons (pv 0) (pa_cons pe_int pa_nil))))
    (pss_cons (ps_set (i := 2) S.nd rfl (Or.inr rfl) (pe_lst (pa_cons (pe_op op_add pe_int (pe_op op_mod (pv 1) pe_int)) (pa_cons (pe_op op_add pe_int (pe_op op_mod (pe_op op_fdiv (pv 1) pe_int) pe_int)) pa_nil))))
    (pss_cons (ps_set (i := 3) S.nd rfl (Or.inr rfl) (pe_lst (pa_cons (pe_op op_mod (pe_op op_fdiv (pv 1) pe_int) pe_int) (pa_cons (pe_op op_mod (pe_op op_fdiv (pv 1) pe_int) pe_int) pa_nil))))
    (pss_cons (ps_set (i := 4) S.nd rfl (Or.inl rfl) (pe_callD d_law_board hr (by lia) rfl (pa_cons (pv 0) (pa_cons pe_int (pa_cons (pe_ix (ix_listK (K := K) rfl) (pv 2) pe_int (fun _ _ => rfl)) (pa_cons (pe_ix (ix_listK (K := K) rfl) (pv 3) pe_int (fun _ _ => rfl)) (pa_cons (pe_op op_add pe_int (pe_op op_mod (pe_op op_fdiv (pv 1) pe_int) pe_int)) pa_nil)))))))
    (pss_cons (ps_set (i := 5) S.nd rfl (Or.inl rfl) (pe_callD d_law_board hr (by lia) rfl (pa_cons (pv 0) (pa_cons pe_int (pa_cons (pe_ix (ix_listK (K := K) rfl) (pv 2) pe_int (fun _ _ => rfl)) (pa_cons (pe_ix (ix_listK (K := K) rfl) (pv 3) pe_int (fun _ _ => rfl)) (pa_cons (pe_op op_add pe_int (pe_op op_mod (pe_op op_fdiv (pv 1) pe_int) pe_int)) pa_nil)))))))
    (pss_cons (ps_set (i := 6) S.nd rfl (Or.inl rfl) (pe_op op_cat (pv 4) (pe_comp (ys := []) (ix := []) (.of S {}) rfl (pi_range1 rfl n_range (pa_cons pe_int pa_nil)) (fun _ _ _ _ => pts_nil) (fun cl s3 H3 fp => (pe_tup (pa_cons pe_str pa_nil))))))
    (pss_cons (ps_if (pt_not (pt_val (pe_callD d_law_refused hr (by lia) rfl (pa_cons (pe_ix (ix_tupK (K := K) rfl) (pe_callD d_law_told hr (by lia) rfl (pa_cons (pe_slice (sl_listK (K := K) rfl) (pv 6) po_none (po_some pe_int)) (pa_cons (pe_ix (ix_listK (K := K) rfl) (pv 3) pe_int (fun _ _ => rfl)) (pa_cons (pv 5) pa_nil)))) pe_int (fun _ _ => rfl)) (pa_cons pe_int pa_nil))))) (pss_one (ps_ret pe_bl)) pss_nil)
    (pss_cons (ps_set (i := 7) S.nd rfl (Or.inl rfl) (pe_lst (pa_cons (pe_callTy (call_list_ofK (K := K) rfl) rfl n_list PyProof.Rows.boot_list (pa_cons (pv 4) pa_nil)) (pa_cons (pe_callTy (call_list_ofK (K := K) rfl) rfl n_list PyProof.Rows.boot_list (pa_cons (pv 5) pa_nil)) pa_nil))))
    (pss_cons (ps_set (i := 8) S.nd rfl (Or.inl rfl) (pe_callD d_law_told hr (by lia) rfl (pa_cons (pe_ix (ix_listK (K := K) rfl) (pv 7) pe_int (fun _ _ => rfl)) (pa_cons (pe_ix (ix_listK (K := K) rfl) (pv 3) pe_int (fun _ _ => rfl)) (pa_cons (pe_ix (ix_listK (K := K) rfl) (pv 7) pe_int (fun _ _ => rfl)) pa_nil)))))
    (pss_cons (ps_set (i := 9) S.nd rfl (Or.inl rfl) (pe_op op_cat (pv 4) (pe_comp (ys := ["sizes", "keys"]) (ix := [2, 3]) (.of S {}) rfl (pi_listK (K := K) rfl (pv 5)) (fun _ _ _ _ => pts_nil) (fun cl s3 H3 fp => (pe_callD d_law_on hr (by lia) rfl (pa_cons (pv 0) (pa_cons (pe_ix (ix_listK (K := K) rfl) (pv 1) pe_int (fun _ _ => rfl)) (pa_cons (pe_ix (ix_listK (K := K) rfl) (pv 2) pe_int (fun _ _ => rfl)) pa_nil))))))))
    (pss_cons (ps_if (PW.pt (pw_or (pt_cmpR (op_neD (K := K) rfl hr.units) (pe_ix (ix_tupK (K := K) rfl) (pv 8) pe_int (fun _ _ => rfl)) (pe_lst pa_nil) (nomark _)) (pw_or (pt_not (pt_val (pe_callB (call_isinst (K := K) rfl) rfl n_isinstance PyProof.Rows.boot_isinstance (pa_cons (pe_ix (ix_tupK (K := K) rfl) (pv 8) pe_int (fun _ _ => rfl)) (pa_cons (pe_bltn (v := .ty "list") rfl n_list PyProof.Rows.boot_list rfl) pa_nil))))) (pw_or (pt_cmpR (op_neD (K := K) rfl hr.units) (pe_ix (ix_tupK (K := K) rfl) (pv 8) pe_int (fun _ _ => rfl)) (pv 9) (nomark _)) (pw_or1 (pt_cmpR (op_neD (K := K) rfl hr.units) (pv 7) (pe_lst (pa_cons (pv 4) (pa_cons (pv 5) pa_nil))) (nomark _))))))) (pss_one (ps_ret pe_bl)) pss_nil)
    (pss_cons (ps_expr (pe_bm PySem.F.plainAttrs_list PySem.F.slot_list_append PySem.F.type_list_append mt_append (pe_ix (ix_tupK (K := K) rfl) (pv 8) pe_int (fun _ _ => rfl)) (pa_cons (pe_tup (pa_cons pe_str pa_nil)) pa_nil)))
    (pss_cons (ps_if (PW.pt (pw_or (pt_cmpR (op_neD (K := K) rfl hr.units) (pv 7) (pe_lst (pa_cons (pv 4) (pa_cons (pv 5) pa_nil))) (nomark _)) (pw_or1 (pt_cmpR (op_neD (K := K) rfl hr.units) (pe_callD d_beside hr (by lia) rfl (pa_cons (pe_ix (ix_listK (K := K) rfl) (pv 7) pe_int (fun _ _ => rfl)) (pa_cons (pe_ix (ix_listK (K := K) rfl) (pv 3) pe_int (fun _ _ => rfl)) (pa_cons (pe_ix (ix_listK (K := K) rfl) (pv 7) pe_int (fun _ _ => rfl)) pa_nil)))) (pv 9) (nomark _))))) (pss_one (ps_ret pe_bl)) pss_nil)
    (pss_cons (ps_set (i := 10) S.nd rfl (Or.inl rfl) (pe_lst (pa_cons (pe_callD d_law_bits hr (by lia) rfl (pa_cons (pe_callD d_law_cell_at hr (by lia) rfl (pa_cons (pv 0) (pa_cons pe_int pa_nil))) (pa_cons (pe_ix (ix_listK (K := K) rfl) (pv 3) pe_int (fun _ _ => rfl)) pa_nil))) (pa_cons (pe_callD d_law_bits hr (by lia) rfl (pa_cons (pe_callD d_law_cell_at hr (by lia) rfl (pa_cons (pv 0) (pa_cons pe_int pa_nil))) (pa_cons (pe_ix (ix_listK (K := K) rfl) (pv 3) pe_int (fun _ _ => rfl)) pa_nil))) pa_nil))))
    (pss_cons (ps_set (i := 11) S.nd rfl (Or.inl rfl) (pe_lst (pa_cons (pe_callD d_law_bits hr (by lia) rfl (pa_cons (pe_callD d_law_cell_at hr (by lia) rfl (pa_cons (pv 0) (pa_cons pe_int pa_nil))) (pa_cons (pe_ix (ix_listK (K := K) rfl) (pv 2) pe_int (fun _ _ => rfl)) pa_nil))) (pa_cons (pe_callD d_law_bits hr (by lia) rfl (pa_cons (pe_callD d_law_cell_at hr (by lia) rfl (pa_cons (pv 0) (pa_cons pe_int pa_nil))) (pa_cons (pe_ix (ix_listK (K := K) rfl) (pv 2) pe_int (fun _ _ => rfl)) pa_nil))) pa_nil))))
    (pss_cons (ps_set (i := 12) S.nd rfl (Or.inl rfl) (pe_lst pa_nil))
    (pss_cons (ps_for PassesOwn.never rfl (pi_listK (K := K) rfl (pe_callD d_rests hr (by lia) rfl (pa_cons (pv 4) (pa_cons (pe_ix (ix_listK (K := K) rfl) (pv 10) pe_int (fun _ _ => rfl)) pa_nil)))) (pg_name (i := 13) S.nd rfl (Or.inr rfl)) (pss_one (ps_set (i := 12) S.nd rfl (Or.inl rfl) (pe_op op_cat (pv 12) (pe_comp (ys := ["left"]) (ix := [13]) (.of S {}) rfl (pi_listK (K := K) rfl (pe_callD d_rests hr (by lia) rfl (pa_cons (pv 5) (pa_cons (pe_ix (ix_listK (K := K) rfl) (pv 10) pe_int (fun _ _ => rfl)) pa_nil)))) (fun _ _ _ _ => pts_nil) (fun cl s3 H3 fp => (pe_op op_catA (pv 1) (pv 0))))))))
    (pss_cons (ps_if (pt_cmpR (op_neD (K := K) rfl hr.units) (pe_callB (call_sortedR (K := K) rfl) rfl n_sorted PyProof.Rows.boot_sorted (pa_cons (pe_callD d_rests hr (by lia) rfl (pa_cons (pv 9) (pa_cons (pe_op op_catA (pe_ix (ix_listK (K := K) rfl) (pv 10) pe_int (fun _ _ => rfl)) (pe_ix (ix_listK (K := K) rfl) (pv 10) pe_int (fun _ _ => rfl))) pa_nil))) pa_nil)) (pe_callB (call_sortedR (K := K) rfl) rfl n_sorted PyProof.Rows.boot_sorted (pa_cons (pv 12) pa_nil)) (nomark _)) (pss_one (ps_ret pe_bl)) pss_nil)
    (pss_cons (ps_set (i := 14) S.nd rfl (Or.inl rfl) (pe_callD d_judged hr (by lia) rfl (pa_cons (pv 4) (pa_cons (pe_ix (ix_listK (K := K) rfl) (pv 10) pe_int (fun _ _ => rfl)) (pa_cons (pe_ix (ix_listK (K := K) rfl) (pv 11) pe_int (fun _ _ => rfl)) pa_nil)))))
    (pss_cons (ps_set (i := 15) S.nd rfl (Or.inl rfl) (pe_callD d_judged hr (by lia) rfl (pa_cons (pv 5) (pa_cons (pe_ix (ix_listK (K := K) rfl) (pv 10) pe_int (fun _ _ => rfl)) (pa_cons (pe_ix (ix_listK (K := K) rfl) (pv 11) pe_int (fun _ _ => rfl)) pa_nil)))))
    (pss_cons (ps_set (i := 16) S.nd rfl (Or.inl rfl) (pe_callD d_judged hr (by lia) rfl (pa_cons (pv 9) (pa_cons (pe_op op_catA (pe_ix (ix_listK (K := K) rfl) (pv 10) pe_int (fun _ _ => rfl)) (pe_ix (ix_listK (K := K) rfl) (pv 10) pe_int (fun _ _ => rfl))) (pa_cons (pe_op op_catA (pe_ix (ix_listK (K := K) rfl) (pv 11) pe_int (fun _ _ => rfl)) (pe_ix (ix_listK (K := K) rfl) (pv 11) pe_int (fun _ _ => rfl))) pa_nil)))))
    (pss_cons (ps_if (PW.pt (pw_and (pt_cmpR op_eq (pe_ix (ix_tupK (K := K) rfl) (pv 14) pe_int (fun _ _ => rfl)) pe_str (nomark _)) (pw_and1 (pt_cmpR op_eq (pe_ix (ix_tupK (K := K) rfl) (pv 15) pe_int (fun _ _ => rfl)) pe_str (nomark _))))) (pss_one (ps_ret (pe_and (pe_cmpR op_eq (pe_ix (ix_tupK (K := K) rfl) (pv 16) pe_int (fun _ _ => rfl)) pe_str (nomark _)) (pe_one (pe_cmpR (op_eqD (K := K) rfl hr.units) (pe_ix (ix_tupK (K := K) rfl) (pv 16) pe_int (fun _ _ => rfl)) (pe_op op_catA (pe_ix (ix_tupK (K := K) rfl) (pv 14) pe_int (fun _ _ => rfl)) (pe_ix (ix_tupK (K := K) rfl) (pv 15) pe_int (fun _ _ => rfl))) (nomark _)))))) pss_nil)
    (pss_one (ps_ret (pe_cmpR op_ne (pe_ix (ix_tupK (K := K) rfl) (pv 16) pe_int (fun _ _ => rfl)) pe_str (nomark _)))))))))))))))))))))))))), ?_⟩
  obtain ⟨n1, e1, h11, h12⟩ : ∃ n : Nat, 1 + cellAt ns 0 % 3 = (n : Int) ∧ 1 ≤ n ∧ n ≤ 3 := ⟨(1 + cellAt ns 0 % 3).toNat, by lia, by lia, by lia⟩
  obtain ⟨n2, e2, h21, h22⟩ : ∃ n : Nat, 1 + cellAt ns 0 / 3 % 3 = (n : Int) ∧ 1 ≤ n ∧ n ≤ 3 := ⟨(1 + cellAt ns 0 / 3 % 3).toNat, by lia, by lia, by lia⟩
  obtain ⟨b1, e3, h31⟩ : ∃ n : Nat, cellAt ns 0 / 9 % 3 = (n : Int) ∧ n ≤ 2 := ⟨(cellAt ns 0 / 9 % 3).toNat, by lia, by lia⟩
  obtain ⟨b2, e4, h41⟩ : ∃ n : Nat, cellAt ns 0 / 27 % 3 = (n : Int) ∧ n ≤ 2 := ⟨(cellAt ns 0 / 27 % 3).toNat, by lia, by lia⟩
  obtain ⟨d, e5, h51⟩ : ∃ n : Nat, 2 + cellAt ns 0 / 81 % 4 = (n : Int) ∧ n ≤ 5 := ⟨(2 + cellAt ns 0 / 81 % 4).toNat, by lia, by lia⟩
  generalize hc0 : cellAt ns 0 = c at e1 e2 e3 e4 e5
  refine cut5 (lawC1 K a ns c n1 n2 b1 b2 d) (fun B' hB' => ?_) ?_
  · refine ⟨_, rfl, a, ns, 0, rfl, hS, by decide, ?_⟩
    rw [hc0]
    refine ⟨_, rfl, _, _, rfl, rfl, (by (try dsimp only); decide), _, _, rfl, rfl, _, rfl, _, _, rfl, rfl, ⟨by decide, by decide⟩, _, _, rfl, rfl, (by (try dsimp only); decide), _, _, rfl, rfl, (by show 2 ≤ sizeLine; decide), fun zs hzs => ?_⟩
    have m1 := Same.new hzs (.lst [.int (1 + c % 3), .int (1 + c / 3 % 3)])
    have hZ : upd H zs (.lst [.int (1 + c % 3), .int (1 + c / 3 % 3)]) zs = some (.lst [.int n1, .int n2]) := by rw [← e1, ← e2]; exact upd_same
    generalize upd H zs (.lst [.int (1 + c % 3), .int (1 + c / 3 % 3)]) = H1 at m1 hZ
    refine ⟨_, rfl, _, _, rfl, rfl, ⟨by decide, by decide⟩, _, _, rfl, rfl, (by (try dsimp only); decide), _, rfl, _, _, rfl, rfl, ⟨by decide, by decide⟩, _, _, rfl, rfl, (by (try dsimp only); decide), (by show 2 ≤ sizeLine; decide), fun ks hks => ?_⟩
    have m2 := Same.new hks (.lst [.int (c / 9 % 3), .int (c / 27 % 3)])
    have hK : upd H1 ks (.lst [.int (c / 9 % 3), .int (c / 27 % 3)]) ks = some (.lst [.int b1, .int b2]) := by rw [← e3, ← e4]; exact upd_same
    generalize upd H1 ks (.lst [.int (c / 9 % 3), .int (c / 27 % 3)]) = H2 at m2 hK
    have hZ2 := m2 _ _ hZ
    have hS2 := (m1.trans m2).seq hS
    clear hZ hS m1 m2
    refine ⟨_, rfl, _, rfl, zs, _, _, _, rfl, rfl, SqL.of hZ2, at0 _ _, _, rfl, ks, _, _, _, rfl, rfl, SqL.of hK, at0 _ _, _, rfl, _, _, rfl, rfl, ⟨by decide, by decide⟩, _, _, rfl, rfl, (by (try dsimp only); decide), _, _, rfl, rfl, ?_⟩
    refine ⟨a, ns, 6, n1, b1, d, by rw [← e5]; rfl, hS2, by decide, by lia, by lia, by lia, by lia, fun D1 us1 H3 s3 hD1 hW1 => ?_⟩
    have hZ3 := s3 _ _ hZ2
    have hK3 := s3 _ _ hK
    have hS3 := s3.seq hS2
    refine ⟨_, rfl, _, rfl, zs, _, _, _, rfl, rfl, SqL.of hZ3, at1 _ _ _, _, rfl, ks, _, _, _, rfl, rfl, SqL.of hK3, at1 _ _ _, _, rfl, _, _, rfl, rfl, ⟨by decide, by decide⟩, _, _, rfl, rfl, (by (try dsimp only); decide), _, _, rfl, rfl, ?_⟩
    refine ⟨a, ns, 10, n2, b2, d, by rw [← e5]; rfl, hS3, by decide, by lia, by lia, by lia, by lia, fun D2 us2 H4 s4 hD2 hW2 => ?_⟩
    exact hB' _ _ ⟨zs, ks, D1, D2, us1, us2, rfl, s4.seq hS3, s4 _ _ hZ3, s4 _ _ hK3, s4 _ _ hD1, hD2, hW1.mono s4.tup, hW2⟩
  rintro σ1 H4 ⟨zs, ks, D1, D2, us1, us2, rfl, hS4, hZ4, hK4, hD14, hD2, hW14, hW24⟩
  have L : ∀ (st R B : Nat), 1 ≤ R → (lboard ns st R B d).length = R ∧ ∀ x ∈ lboard ns st R B d, x.ok (R : Int) (B : Int) ∧ x.depth ≤ 5 := fun st R B hR => by
    unfold lboard
    refine ⟨by simp, fun x hx => ?_⟩
    obtain ⟨k, _, rfl⟩ := List.mem_map.mp hx
    exact ⟨lword_ok (by lia) (by lia) _ _, by have := lword_depth (cell := pick ns (st + k)) (R := R) (B := B) d k; lia⟩
  obtain ⟨lw1, ow1⟩ := L 6 n1 b1 h11
  obtain ⟨lw2, ow2⟩ := L 10 n2 b2 h21
  generalize lboard ns (6 : Nat) n1 b1 d = ws1 at lw1 ow1 hW14
  generalize lboard ns (10 : Nat) n2 b2 d = ws2 at lw2 ow2 hW24
  clear L
  have lu1 := hW14.1
  have lu2 := hW24.1
  have hdp : ∀ x ∈ ws2, x.depth ≤ 8 := fun x hx => by have := (ow2 x hx).2; lia
  refine cut2 (lawC2 K a ns c zs ks D1 D2 n1 n2 b1 b2 us1 us2 ws1 ws2) (fun B' hB' => ?_) ?_
  · -- one + six words
    refine ⟨_, rfl, 6, rfl, by decide, by decide, ?_⟩
    refine body_rng (by exact sz (by decide)) (fun i y H => WAt H .on y) (fun _ _ _ _ st h => h.mono st) (fun i H5 R' hi s5 hR => ⟨(by show 1 ≤ sizeLine; decide), fun p5 hp5 => hR _ _ (Same.new hp5 _) ⟨p5, rfl, upd_same⟩⟩) (fun O os H5 hO s5 hl5 hlen hG => ?_)
    refine ⟨D1, O, us1, os, rfl, rfl, s5 _ _ hD14, hl5, sz (by lia), fun W hW' => ?_⟩
    have n6 := Same.new hW' (.lst (us1 ++ os))
    have e6 : upd H5 W (.lst (us1 ++ os)) W = some (.lst (us1 ++ os)) := upd_same
    generalize upd H5 W (.lst (us1 ++ os)) = H6 at n6 e6
    have s6 := s5.trans n6
    have hWide : WsAt H6 (ws1 ++ List.replicate 6 Wd.on) (us1 ++ os) := by
      refine ⟨by simp [lu1, hlen], fun i y hy => ?_⟩
      by_cases ci : i < us1.length
      · rw [List.getElem?_append_left ci] at hy
        obtain ⟨x, a1, a2⟩ := hW14.2 i y hy
        exact ⟨x, by rw [List.getElem?_append_left (by lia)]; exact a1, a2.mono s6.tup⟩
      · rw [List.getElem?_append_right (by lia)] at hy
        have hi := (List.getElem?_eq_some_iff.mp hy).1
        refine ⟨.on, ?_, (hG _ y hy).mono n6.tup⟩
        rw [List.getElem?_append_right (by lia), List.getElem?_replicate, if_pos (by lia)]
    refine ⟨_, rfl, _, rfl, W, _, rfl, SqL.of e6, fun C hC => ?_⟩
    have hcut : cutV (us1 ++ os) none (some 6) = (us1 ++ os).take 6 := cut_take _ 6 (by rw [List.length_append]; lia)
    have n7 := Same.new hC (.lst (cutV (us1 ++ os) none (some 6)))
    have e7 : upd H6 C (.lst (cutV (us1 ++ os) none (some 6))) C = some (.lst ((us1 ++ os).take 6)) := by rw [← hcut]; exact upd_same
    generalize upd H6 C (.lst (cutV (us1 ++ os) none (some 6))) = H7 at n7 e7
    have s7 := s6.trans n7
    have hW7 : WsAt H7 ((ws1 ++ List.replicate 6 Wd.on).take 6) ((us1 ++ os).take 6) := by
      refine ⟨by rw [List.length_take, List.length_take, hWide.1], fun i y hy => ?_⟩
      have hi : i < 6 := by have := (List.getElem?_eq_some_iff.mp hy).1; rw [List.length_take] at this; lia
      rw [List.getElem?_take_of_lt hi] at hy ⊢
      obtain ⟨x, a1, a2⟩ := hWide.2 i y hy
      exact ⟨x, a1, a2.mono n7.tup⟩
    have l7 : ((ws1 ++ List.replicate 6 Wd.on).take 6).length = 6 := by
      rw [List.length_take, List.length_append, List.length_replicate]
      lia
    refine ⟨_, rfl, ks, _, _, _, rfl, rfl, SqL.of (s7 _ _ hK4), at0 _ _, _, rfl, C, D2, _, us2, _, ws2, b1, rfl, e7, hW7, s7 _ _ hD2, hW24.mono s7.tup, by lia, by lia, hdp, ?_⟩
    rw [if_pos (by lia)]
    intro p8 m8 vf8 H8 s8' hp8 hm8
    have s8 := s7.trans s8'
    refine ⟨p8, _, _, _, rfl, rfl, SqT.of hp8, at1 _ _ _, m8, 0, rfl, hm8, fun H9 s9' => ?_⟩
    have s9 := s8.trans s9'
    refine ⟨_, rfl, iteFh rfl ?_⟩
    exact hB' _ _ ⟨W, rfl, s9.seq hS4, s9 _ _ hZ4, s9 _ _ hK4, s9 _ _ hD14, s9 _ _ hD2, hW14.mono s9.tup, hW24.mono s9.tup⟩
  rintro σ1 H9 ⟨W, rfl, hS9, hZ9, hK9, hD19, hD29, hW19, hW29⟩
  clear hS4 hZ4 hK4 hD14 hD2 hW14 hW24
  have dep1 : ∀ x ∈ ws1, x.depth ≤ 8 := fun x hx => by have := (ow1 x hx).2; lia
  have depS : ∀ x ∈ sideI ws1 ws2 b1, x.depth ≤ 8 := fun x hx => by
    rcases List.mem_append.mp hx with hx | hx
    · exact dep1 x hx
    · obtain ⟨y, hy, rfl⟩ := List.mem_map.mp hx
      rw [shift_depth]
      exact hdp y hy
  refine cut6 (lawC3 K a ns c zs ks D1 D2 W n1 n2 b1 b2 us1 us2 ws1 ws2) (fun B' hB' => ?_) ?_
  · -- handed
    refine ⟨_, rfl, D1, us1, rfl, .inl (SqL.of hD19), fun l1 hl1 => ?_⟩
    have m1 := Same.new hl1 (.lst us1)
    have f1 : upd H9 l1 (.lst us1) l1 = some (.lst us1) := upd_same
    generalize upd H9 l1 (.lst us1) = H10 at m1 f1
    refine ⟨_, rfl, D2, us2, rfl, .inl (SqL.of (m1 _ _ hD29)), fun l2 hl2 => ⟨(by show 2 ≤ sizeLine; decide), fun hd hhd => ?_⟩⟩
    have m2 := Same.new hl2 (.lst us2)
    have f2 : upd H10 l2 (.lst us2) l2 = some (.lst us2) := upd_same
    generalize upd H10 l2 (.lst us2) = H11 at m2 f2 hhd
    have m3 := Same.new hhd (.lst [.ref l1, .ref l2])
    have f3 : upd H11 hd (.lst [.ref l1, .ref l2]) hd = some (.lst [.ref l1, .ref l2]) := upd_same
    generalize upd H11 hd (.lst [.ref l1, .ref l2]) = H12 at m3 f3
    have m := m1.trans (m2.trans m3)
    have f1' := m3 _ _ (m2 _ _ f1)
    have f2' := m3 _ _ f2
    clear f1 f2
    refine ⟨_, rfl, hd, _, _, _, rfl, rfl, SqL.of f3, at0 _ _, _, rfl, ks, _, _, _, rfl, rfl, SqL.of (m _ _ hK9), at0 _ _, _, rfl, hd, _, _, _, rfl, rfl, SqL.of f3, at1 _ _ _, ?_⟩
    refine ⟨l1, l2, us1, us2, ws1, ws2, b1, rfl, f1', hW19.mono m.tup, f2', hW29.mono m.tup, by lia, by lia, hdp, ?_⟩
    rw [if_neg (by lia)]
    intro pt mt T ut H13 hT0 s13' hpt hmt hT hWT
    have m13 := m.trans s13'
    have hD13 := m13 _ _ hD19
    have hD23 := m13 _ _ hD29
    have hW13 := hW19.mono m13.tup
    have hW23 := hW29.mono m13.tup
    have hZ13 := m13 _ _ hZ9
    have hK13 := m13 _ _ hK9
    have hS13 := m13.seq hS9
    have g1 := s13' _ _ f1'
    have g2 := s13' _ _ f2'
    have g3 := s13' _ _ f3
    refine ⟨_, rfl, _, rfl, D2, rfl, ⟨us2, SqL.of hD23⟩, ?_⟩
    refine body_list (SqL.of hD23) (sz (by lia)) (fun i y H => ∃ x, ws2[i]? = some x ∧ WAt H (x.shift ws1.length b1) y) (fun _ _ _ _ st h => let ⟨x, a, b⟩ := h; ⟨x, a, b.mono st⟩) (fun i x H14 R' hx s14 hR => ?_) (fun O os H14 hO s14 hl14 hlen14 hG => ?_)
    · obtain ⟨wx, a1, a2⟩ := hW23.2 i x hx
      have hd := hdp wx (List.mem_of_getElem? a1)
      refine ⟨_, rfl, _, rfl, zs, _, _, _, rfl, rfl, SqL.of (s14 _ _ hZ13), at0 _ _, _, rfl, ks, _, _, _, rfl, rfl, SqL.of (s14 _ _ hK13), at0 _ _, x, wx, n1, b1, rfl, a2.mono s14.tup, hd, fun v' H' s' hv => hR _ _ s' ⟨wx, a1, ?_⟩⟩
      rw [lw1]
      exact hv
    refine ⟨D1, O, us1, os, rfl, rfl, s14 _ _ hD13, hl14, sz (by lia), fun U hU => ?_⟩
    have n15 := Same.new hU (.lst (us1 ++ os))
    have hU15 : upd H14 U (.lst (us1 ++ os)) U = some (.lst (us1 ++ os)) := upd_same
    generalize upd H14 U (.lst (us1 ++ os)) = H15 at n15 hU15
    have s15 := s14.trans n15
    have hWU : WsAt H15 (sideI ws1 ws2 b1) (us1 ++ os) := by
      refine ⟨by simp [sideI, lu1, hlen14, lu2], fun i y hy => ?_⟩
      by_cases ci : i < us1.length
      · rw [List.getElem?_append_left ci] at hy
        obtain ⟨x, a1, a2⟩ := hW13.2 i y hy
        exact ⟨x, by unfold sideI; rw [List.getElem?_append_left (by lia)]; exact a1, a2.mono s15.tup⟩
      · rw [List.getElem?_append_right (by lia)] at hy
        obtain ⟨x, a1, a2⟩ := hG _ y hy
        refine ⟨_, ?_, a2.mono n15.tup⟩
        unfold sideI
        rw [List.getElem?_append_right (by lia), List.getElem?_map, ← lu1, a1]
        rfl
    have gS : GoodD (wordsD (sideI ws1 ws2 b1)) := goodWords fun x hx => Nat.le_trans (depS x hx) (by decide)
    have gT := goodTwo dep1 hdp
    refine ⟨_, rfl, pt, _, _, _, rfl, rfl, SqT.of (s15 _ _ hpt), at1 _ _ _, (by show 0 ≤ sizeLine; decide), fun q1 hq1 => ?_⟩
    have n16 := Same.new hq1 (.lst [])
    refine eqD_of (emptyD_at (n16 _ _ (s15 _ _ hmt))) (emptyD_at upd_same) (goodNats _) (goodNats _) (eqD_refl (goodNats _)) ⟨_, rfl, iteFh rfl ?_⟩
    generalize upd H15 q1 (.lst []) = H16 at n16
    have s16 := s15.trans n16
    have hT16 := s16 _ _ hT
    refine ⟨_, rfl, pt, _, _, _, rfl, rfl, SqT.of (s16 _ _ hpt), at0 _ _, ?_⟩
    refine ⟨_, _, _, true, rfl, TyOf.lst hT16, rfl, _, rfl, iteFh rfl ?_⟩
    have hU16 := n16 _ _ hU15
    have hWU16 := hWU.mono n16.tup
    refine ⟨_, rfl, pt, _, _, _, rfl, rfl, SqT.of (s16 _ _ hpt), at0 _ _, _, rfl, eqD_of (wordsD_at (SqL.of hT16) (hWT.mono s16.tup)) (wordsD_at (SqL.of hU16) hWU16) gS gS (eqD_refl gS) ⟨_, rfl, iteFh rfl ?_⟩⟩
    refine ⟨_, rfl, _, rfl, _, rfl, (by show 2 ≤ sizeLine; decide), fun q2 hq2 => ?_⟩
    have n17 := Same.new hq2 (.lst [.ref D1, .ref D2])
    have s17 := s16.trans n17
    refine eqD_of (twoD_at (s17 _ _ g3) (s17 _ _ g1) (s17 _ _ g2) (hW13.mono s17.tup) (hW23.mono s17.tup)) (twoD_at upd_same (s17 _ _ hD13) (s17 _ _ hD23) (hW13.mono s17.tup) (hW23.mono s17.tup)) gT gT (eqD_refl gT) ⟨_, rfl, iteFh rfl ?_⟩
    generalize upd H16 q2 (.lst [.ref D1, .ref D2]) = H17 at n17 s17
    have hT17 := s17 _ _ hT
    refine ⟨_, rfl, pt, _, _, _, rfl, rfl, SqT.of (s17 _ _ hpt), at0 _ _, .inl ⟨rfl, _, SqL.of hT17⟩, (by show 1 ≤ sizeLine; decide), fun q3 hq3 => ?_⟩
    have n18 := Same.new hq3 (.tup [.str "on"])
    generalize upd H17 q3 (.tup [.str "on"]) = H18 at n18
    have s18 := s17.trans n18
    refine ⟨T, ut, .ref q3, rfl, rfl, s18 _ _ hT, small1000 (by rw [hWT.1]; simp [sideI]; lia), ?_⟩
    have s19 : Same H12 (upd H18 T (.lst (ut ++ [.ref q3]))) := (s13'.trans s18).updNew hT0
    have hUT : U ≠ T := fun z => by
      rw [z] at hU
      rw [s14 _ _ hT] at hU
      cases hU
    have hU19 : upd H18 T (.lst (ut ++ [.ref q3])) U = some (.lst (us1 ++ os)) := by
      rw [upd_ne hUT]
      exact n18 _ _ (n17 _ _ hU16)
    have t19 : TupLe H18 (upd H18 T (.lst (ut ++ [.ref q3]))) := tup_upd fun xs z => by
      rw [s18 _ _ hT] at z
      cases z
    generalize upd H18 T (.lst (ut ++ [.ref q3])) = H19 at s19 hU19 t19
    have hWU19 := ((hWU16.mono n17.tup).mono n18.tup).mono t19
    have m19 := m.trans s19
    have hD19' := m19 _ _ hD19
    have hD29' := m19 _ _ hD29
    have hW19' := hW19.mono m19.tup
    have hW29' := hW29.mono m19.tup
    have hK19 := m19 _ _ hK9
    have hZ19 := m19 _ _ hZ9
    have hS19 := m19.seq hS9
    have k1 := s19 _ _ f1'
    have k2 := s19 _ _ f2'
    have k3 := s19 _ _ f3
    clear hT17 hT16 hWT hpt hmt hT hD13 hD23 hW13 hW23 hZ13 hK13 hS13 g1 g2 g3 hU15 hWU hU16 hWU16 s18 s17 s16 n18 n17 n16 t19 hG hl14
    refine ⟨_, rfl, _, rfl, _, rfl, (by show 2 ≤ sizeLine; decide), fun q4 hq4 => ?_⟩
    have n20 := Same.new hq4 (.lst [.ref D1, .ref D2])
    refine eqD_of (twoD_at (n20 _ _ k3) (n20 _ _ k1) (n20 _ _ k2) (hW19'.mono n20.tup) (hW29'.mono n20.tup)) (twoD_at upd_same (n20 _ _ hD19') (n20 _ _ hD29') (hW19'.mono n20.tup) (hW29'.mono n20.tup)) gT gT (eqD_refl gT) ⟨_, rfl, iteFh rfl ?_⟩
    generalize upd H19 q4 (.lst [.ref D1, .ref D2]) = H20 at n20
    refine ⟨_, rfl, hd, _, _, _, rfl, rfl, SqL.of (n20 _ _ k3), at0 _ _, _, rfl, ks, _, _, _, rfl, rfl, SqL.of (n20 _ _ hK19), at0 _ _, _, rfl, hd, _, _, _, rfl, rfl, SqL.of (n20 _ _ k3), at1 _ _ _, ?_⟩
    refine ⟨l1, l2, us1, us2, ws1, ws2, b1, rfl, n20 _ _ k1, hW19'.mono n20.tup, n20 _ _ k2, hW29'.mono n20.tup, by lia, hdp, fun B ub H21 hB0 s21 hB hWB => ?_⟩
    have s21' := n20.trans s21
    refine ⟨_, rfl, eqD_of (wordsD_at (SqL.of hB) hWB) (wordsD_at (SqL.of (s21' _ _ hU19)) (hWU19.mono s21'.tup)) gS gS (eqD_refl gS) ⟨_, rfl, iteFh rfl ?_⟩⟩
    exact hB' _ _ ⟨hd, pt, U, _, rfl, s21'.seq hS19, s21' _ _ hZ19, s21' _ _ hK19, s21' _ _ hD19', s21' _ _ hD29', hW19'.mono s21'.tup, hW29'.mono s21'.tup, s21' _ _ hU19, hWU19.mono s21'.tup⟩
  rintro σ1 H21 ⟨hd, pt, U, ou, rfl, hSf, hZf, hKf, hD1f, hD2f, hW1f, hW2f, hU21, hWU21⟩
  clear hS9 hZ9 hK9 hD19 hD29 hW19 hW29
  refine cut3 (lawC4 a ns c zs ks D1 D2 W hd pt U n1 n2 b1 b2 us1 us2 ou ws1 ws2) (fun B' hB' => ?_) ?_
  · -- pressed
    refine ⟨_, rfl, a, ns, 1, rfl, hSf, by decide, _, rfl, ks, _, _, _, rfl, rfl, SqL.of hKf, at0 _ _, _, b1, rfl, by lia, fun P1 H22 s22 hP1 => ?_⟩
    refine ⟨_, rfl, a, ns, 2, rfl, s22.seq hSf, by decide, _, rfl, ks, _, _, _, rfl, rfl, SqL.of (s22 _ _ hKf), at1 _ _ _, _, b2, rfl, by lia, fun P2 H23 s23' hP2 => ⟨(by show 2 ≤ sizeLine; decide), fun pl hpl => ?_⟩⟩
    have n24 := Same.new hpl (.lst [.ref P1, .ref P2])
    have hPL : upd H23 pl (.lst [.ref P1, .ref P2]) pl = some (.lst [.ref P1, .ref P2]) := upd_same
    generalize upd H23 pl (.lst [.ref P1, .ref P2]) = H24 at n24 hPL
    have s24 := s22.trans (s23'.trans n24)
    have hP1 := n24 _ _ (s23' _ _ hP1)
    have hP2 := n24 _ _ hP2
    refine ⟨_, rfl, a, ns, 3, rfl, s24.seq hSf, by decide, _, rfl, zs, _, _, _, rfl, rfl, SqL.of (s24 _ _ hZf), at0 _ _, _, n1, rfl, by lia, fun S1 H25 s25 hS1 => ?_⟩
    refine ⟨_, rfl, a, ns, 4, rfl, (s24.trans s25).seq hSf, by decide, _, rfl, zs, _, _, _, rfl, rfl, SqL.of (s25 _ _ (s24 _ _ hZf)), at1 _ _ _, _, n2, rfl, by lia, fun S2 H26 s26' hS2 => ⟨(by show 2 ≤ sizeLine; decide), fun sl hsl => ?_⟩⟩
    have n27 := Same.new hsl (.lst [.ref S1, .ref S2])
    have hSL : upd H26 sl (.lst [.ref S1, .ref S2]) sl = some (.lst [.ref S1, .ref S2]) := upd_same
    generalize upd H26 sl (.lst [.ref S1, .ref S2]) = H27 at n27 hSL
    have s27' := s25.trans (s26'.trans n27)
    have s27 := s24.trans s27'
    have s27'' := s26'.trans n27
    refine ⟨(by show 0 ≤ sizeLine; decide), fun en hen => ?_⟩
    have n28 := Same.new hen (.lst [])
    have hE28 : upd H27 en (.lst []) en = some (.lst []) := upd_same
    generalize upd H27 en (.lst []) = H28 at n28 hE28
    have x := s27.trans n28
    have y := s27'.trans n28
    exact hB' _ _ ⟨P1, P2, pl, S1, S2, sl, en, rfl, x _ _ hD1f, x _ _ hD2f, hW1f.mono x.tup, hW2f.mono x.tup, x _ _ hU21, hWU21.mono x.tup, y _ _ hPL, n28 _ _ hSL, y _ _ hP1, y _ _ hP2, n28 _ _ (s27'' _ _ hS1), n28 _ _ (n27 _ _ hS2), hE28⟩
  rintro σ1 H27 ⟨P1, P2, pl, S1, S2, sl, en, rfl, hD1, hD2, hW1, hW2, hU, hWU, hPL, hSL, hP1, hP2, hS1, hS2, hE28⟩
  clear hSf hZf hKf hD1f hD2f hW1f hW2f hU21 hWU21
  have lp1 := bits_length (cellAt ns 1) b1
  have lp2 := bits_length (cellAt ns 2) b2
  have ls1 := bits_length (cellAt ns 3) n1
  have ls2 := bits_length (cellAt ns 4) n2
  generalize bitsOf (cellAt ns 1) b1 = p1 at lp1 hP1
  generalize bitsOf (cellAt ns 2) b2 = p2 at lp2 hP2
  generalize bitsOf (cellAt ns 3) n1 = st1 at ls1 hS1
  generalize bitsOf (cellAt ns 4) n2 = st2 at ls2 hS2
  have hB1 : Bd K H27 D1 P1 ws1 p1 := ⟨⟨us1, SqL.of hD1, hW1⟩, hP1, fun x hx => by have := ow1 x hx; rw [lw1, lp1]; exact ⟨this.1, by lia⟩, by lia⟩
  have hB2 : Bd K H27 D2 P2 ws2 p2 := ⟨⟨us2, SqL.of hD2, hW2⟩, hP2, fun x hx => by have := ow2 x hx; rw [lw2, lp2]; exact ⟨this.1, by lia⟩, by lia⟩
  have two : Two ws1 ws2 p1 p2 := ⟨fun x hx => by have := ow1 x hx; rw [lw1, lp1]; exact this.1, fun x hx => by have := ow2 x hx; rw [lw2, lp2]; exact this.1⟩
  have eSide : sideI ws1 ws2 b1 = side ws1 ws2 p1.length := by rw [lp1]; rfl
  rw [eSide] at hWU depS
  have lSide := side_len ws1 ws2 p1.length
  clear hP1 hP2 hD1 hD2 hW1 hW2 eSide
  have hP1 := hB1.p
  have hP2 := hB2.p
  have okS : ∀ x ∈ side ws1 ws2 p1.length, x.ok (side ws1 ws2 p1.length).length (p1 ++ p2).length ∧ x.depth ≤ 8 := fun x hx => ⟨two.ok x hx, depS x hx⟩
  have hBS : ∀ {H' : Hp} {Px : Addr}, Same H27 H' → BAt H' Px (p1 ++ p2) → Bd K H' U Px (side ws1 ws2 p1.length) (p1 ++ p2) := fun {H' Px} sx hx => ⟨⟨_, SqL.of (sx _ _ hU), hWU.mono sx.tup⟩, hx, okS, by lia⟩
  refine cut2 (lawC5 a c zs ks D1 D2 W hd pt U pl sl H27) (fun B' hB' => ?_) ?_
  · refine ⟨_, rfl, _, rfl, pl, _, _, _, rfl, rfl, SqL.of hPL, at0 _ _, D1, P1, ws1, p1, rfl, hB1, fun l1 ru1 H29 l10 s29 hl1 hR1 => ?_⟩
    have lr1 : ru1.length = (restsOf ws1 p1).length := (Paired.length hR1).symm
    have lR : ∀ (ws : List Wd) (pr : List Bool), ws.length ≤ 6 → (restsOf ws pr).length ≤ 64 := fun ws pr h => by
      have := stands_le (rests_nodup ws pr) fun x hx => (mem_restsOf.mp hx).1
      have := pow64 h
      lia
    have lR2 := lR ws2 p2 (by lia)
    have lC : ∀ i, (crossR ((restsOf ws1 p1).take i) (restsOf ws2 p2)).length ≤ 64 := fun i => by
      have hnd := cross_nodup (rests_nodup ws2 p2) ((rests_nodup ws1 p1).sublist (List.take_sublist i _)) fun a ha => (mem_restsOf.mp (List.mem_of_mem_take ha)).1
      have := stands_le (n := ws1.length + ws2.length) hnd fun x hx => by
        obtain ⟨a, ha, b, hb, rfl⟩ := mem_cross.mp hx
        have := (mem_restsOf.mp (List.mem_of_mem_take ha)).1
        have := (mem_restsOf.mp hb).1
        rw [List.length_append]
        lia
      have := pow64 (n := ws1.length + ws2.length) (by lia)
      lia
    refine ⟨l1, rfl, ⟨ru1, SqL.of hl1⟩, ?_⟩
    refine for_list (xs := ru1) (fun i σ H' => ∃ e eu o, σ = [some (.ref a), some (.int c), some (.ref zs), some (.ref ks), some (.ref D1), some (.ref D2), some (.ref W), some (.ref hd), some (.ref pt), some (.ref U), some (.ref pl), some (.ref sl), some (.ref e), o, none, none, none] ∧ Same H29 H' ∧ H' e = some (.lst eu) ∧ RowsAt' H' (crossR ((restsOf ws1 p1).take i) (restsOf ws2 p2)) eu)
      ⟨en, [], _, rfl, Same.refl _, s29 _ _ hE28, .nil⟩ ?_ ?_ ?_
    · rintro i σ H' _ ⟨e, eu, o, rfl, hs, _⟩
      exact SqL.of (hs _ _ hl1)
    · rintro i x σ H30 hx ⟨e, eu, o, rfl, s30, he, hRe⟩
      obtain ⟨lf, hlf, ad, rfl, had⟩ := paired_get hR1 hx
      have had30 := s30.tup _ _ had
      have t30 := s29.trans s30
      have leu : eu.length = (crossR ((restsOf ws1 p1).take i) (restsOf ws2 p2)).length := (Paired.length hRe).symm
      have lCi := lC i
      refine ⟨_, rfl, _, rfl, _, rfl, pl, _, _, _, rfl, rfl, SqL.of (t30 _ _ hPL), at1 _ _ _, D2, P2, ws2, p2, rfl, hB2.mono t30, fun l2 ru2 H31 l20 s31 hl2 hR2 => ?_⟩
      have lr2 : ru2.length = (restsOf ws2 p2).length := (Paired.length hR2).symm
      refine ⟨l2, rfl, ⟨ru2, SqL.of hl2⟩, ?_⟩
      refine body_list (SqL.of hl2) (sz (by lia)) (fun j y H => ∃ r, (restsOf ws2 p2)[j]? = some r ∧ ∃ b, y = .ref b ∧ BAt H b (lf ++ r)) (fun _ _ _ _ st h => let ⟨x, a, b, e, h⟩ := h; ⟨x, a, b, e, st _ _ h⟩) (fun j y H32 R' hy s32 hR => ?_) (fun O os H32 hO s32 hl32 hlen32 hG => ?_)
      · obtain ⟨rg, hrg, ad2, rfl, had2⟩ := paired_get hR2 hy
        refine ⟨_, rfl, _, rfl, ad, ad2, _, _, rfl, rfl, s32 _ _ (s31 _ _ had30), s32 _ _ had2, ?_, fun p5 H33 s33 h33 => hR _ _ s33 ⟨rg, hrg, p5, rfl, ?_⟩⟩
        · have h1 := (mem_restsOf.mp (List.mem_of_getElem? hlf)).1
          have h2 := (mem_restsOf.mp (List.mem_of_getElem? hrg)).1
          rw [List.length_map, List.length_map]
          exact sz (by lia)
        · unfold BAt
          rw [List.map_append]
          exact h33
      · refine ⟨e, O, eu, os, rfl, rfl, s32 _ _ (s31 _ _ he), hl32, sz (by lia), fun e2 he2 => ?_⟩
        have n33 := Same.new he2 (.lst (eu ++ os))
        refine ⟨e2, eu ++ os, _, rfl, s30.trans (s31.trans (s32.trans n33)), upd_same, ?_⟩
        have hi : i < (restsOf ws1 p1).length := (List.getElem?_eq_some_iff.mp hlf).1
        have ec : crossR ((restsOf ws1 p1).take (i + 1)) (restsOf ws2 p2) = crossR ((restsOf ws1 p1).take i) (restsOf ws2 p2) ++ (restsOf ws2 p2).map (lf ++ ·) := by
          unfold crossR
          rw [List.take_succ_eq_append_getElem hi, List.flatMap_append]
          congr 1
          rw [(List.getElem?_eq_some_iff.mp hlf).2]
          simp
        rw [ec]
        refine paired_append (hRe.mono (s31.trans (s32.trans n33)).tup) (paired_of_get (by rw [List.length_map]; lia) fun j x y hx hy => ?_)
        obtain ⟨r, a1, b, rfl, a2⟩ := hG j y hy
        rw [List.getElem?_map, a1] at hx
        cases hx
        exact ⟨b, rfl, n33 _ _ a2⟩
    rintro σ H30 ⟨e, eu, o, rfl, s30, he, hRe⟩
    rw [lr1, List.take_length] at hRe
    have t30 := s29.trans s30
    refine ⟨_, rfl, _, rfl, pl, _, _, _, rfl, rfl, SqL.of (t30 _ _ hPL), at0 _ _, _, rfl, pl, _, _, _, rfl, rfl, SqL.of (t30 _ _ hPL), at1 _ _ _, P1, P2, _, _, rfl, rfl, t30 _ _ hP1, t30 _ _ hP2, ?_, fun Pc H31 s31 hPc => ?_⟩
    · rw [List.length_map, List.length_map]
      exact sz (by lia)
    have hPc : BAt H31 Pc (p1 ++ p2) := by
      unfold BAt
      rw [List.map_append]
      exact hPc
    have t31 := t30.trans s31
    refine ⟨U, Pc, side ws1 ws2 p1.length, p1 ++ p2, rfl, hBS t31 hPc, fun l3 ru3 H32 l30 s32 hl3 hR3 => ?_⟩
    have lenS : ∀ x ∈ restsOf (side ws1 ws2 p1.length) (p1 ++ p2), x.length = ws1.length + ws2.length := fun x hx => by
      rw [(mem_restsOf.mp hx).1]
      exact lSide
    refine ⟨l3, ru3, _, ws1.length + ws2.length, rfl, SqL.of hl3, hR3, rests_nodup _ _, lenS, by lia, by have := lR (side ws1 ws2 p1.length) (p1 ++ p2) (by lia); lia, fun Da ua sa hDa pa wa ra => ?_⟩
    have n33 := Same.new hDa (.lst ua)
    have hA : upd H32 Da (.lst ua) Da = some (.lst ua) := upd_same
    generalize upd H32 Da (.lst ua) = H33 at n33 hA
    have t33 := s31.trans (s32.trans n33)
    refine ⟨_, rfl, e, eu, _, ws1.length + ws2.length, rfl, SqL.of (t33 _ _ he), hRe.mono t33.tup, cross_nodup (rests_nodup ws2 p2) (rests_nodup ws1 p1) fun a ha => (mem_restsOf.mp ha).1, fun x hx => ?_, by lia, ?_, fun Db ub sb hDb pb wb rb => ?_⟩
    · exact lenS x ((rests_perm two).mem_iff.mpr hx)
    · have h5 := (rests_perm two).length_eq
      have h6 := lR (side ws1 ws2 p1.length) (p1 ++ p2) (by lia)
      lia
    have n34 := Same.new hDb (.lst ub)
    have hBq : upd H33 Db (.lst ub) Db = some (.lst ub) := upd_same
    generalize upd H33 Db (.lst ub) = H34 at n34 hBq
    have eab : sa = sb := sorted_same (n := ws1.length + ws2.length) (pa.trans ((rests_perm two).trans pb.symm)) (fun x hx => lenS x (pa.mem_iff.mp hx)) wa wb
    subst eab
    refine eqD_of (rowsD_at (SqL.of (n34 _ _ hA)) (ra.mono (n33.trans n34).tup)) (rowsD_at (SqL.of hBq) (rb.mono n34.tup)) (goodRows _) (goodRows _) (eqD_refl (goodRows _)) ⟨_, rfl, iteFh rfl ?_⟩
    have t34 := t30.trans (t33.trans n34)
    exact hB' _ _ ⟨e, o, rfl, t34⟩
  rintro σ1 H34 ⟨e, o, rfl, t34⟩
  refine ⟨_, rfl, _, rfl, pl, _, _, _, rfl, rfl, SqL.of (t34 _ _ hPL), at0 _ _, _, rfl, sl, _, _, _, rfl, rfl, SqL.of (t34 _ _ hSL), at0 _ _, D1, P1, S1, ws1, p1, st1, rfl, hB1.mono t34, t34 _ _ hS1, by lia, fun j1 kd1 x1 y1 H35 s35' hj1 hT1 => ?_⟩
  have t35 := t34.trans s35'
  refine ⟨_, rfl, _, rfl, pl, _, _, _, rfl, rfl, SqL.of (t35 _ _ hPL), at1 _ _ _, _, rfl, sl, _, _, _, rfl, rfl, SqL.of (t35 _ _ hSL), at1 _ _ _, D2, P2, S2, ws2, p2, st2, rfl, hB2.mono t35, t35 _ _ hS2, by lia, fun j2 kd2 x2 y2 H36 s36' hj2 hT2 => ?_⟩
  have t36 := t35.trans s36'
  refine ⟨_, rfl, _, rfl, pl, _, _, _, rfl, rfl, SqL.of (t36 _ _ hPL), at0 _ _, _, rfl, pl, _, _, _, rfl, rfl, SqL.of (t36 _ _ hPL), at1 _ _ _, P1, P2, _, _, rfl, rfl, t36 _ _ hP1, t36 _ _ hP2, ?_, fun Pd H37 s37 hPd => ?_⟩
  · rw [List.length_map, List.length_map]
    exact sz (by lia)
  have hPd : BAt H37 Pd (p1 ++ p2) := by
    unfold BAt
    rw [List.map_append]
    exact hPd
  have t37 := t36.trans s37
  refine ⟨_, rfl, sl, _, _, _, rfl, rfl, SqL.of (t37 _ _ hSL), at0 _ _, _, rfl, sl, _, _, _, rfl, rfl, SqL.of (t37 _ _ hSL), at1 _ _ _, S1, S2, _, _, rfl, rfl, t37 _ _ hS1, t37 _ _ hS2, ?_, fun Sd H38 s38 hSd => ?_⟩
  · rw [List.length_map, List.length_map]
    exact sz (by lia)
  have hSd : BAt H38 Sd (st1 ++ st2) := by
    unfold BAt
    rw [List.map_append]
    exact hSd
  have t38 := t37.trans s38
  refine ⟨U, Pd, Sd, side ws1 ws2 p1.length, p1 ++ p2, st1 ++ st2, rfl, hBS t38 (s38 _ _ hPd), hSd, by rw [List.length_append]; lia, fun j3 kd3 x3 y3 H39 s39 hj3 hT3 => ?_⟩
  have r2 := s37.trans (s38.trans s39)
  have r1 := s36'.trans r2
  have hj1 := r1 _ _ hj1
  have hj2 := r2 _ _ hj2
  have other : kd3 ≠ "settles" → decide (V.str kd3 = V.str "settles") = false := fun z => decide_eq_false fun y => by injection y with y; exact z y
  have neg : (kd1 ≠ "settles" ∨ kd2 ≠ "settles") → decide (V.str kd3 = V.str "settles") = false := fun z => by
    rcases told_kind hT3 with ⟨_, r, N, _, _, _, hP⟩ | ⟨h, _⟩
    · have := each_settles two (by lia) (by lia) hP hT1 hT2
      rcases z with z | z
      · exact absurd this.1 z
      · exact absurd this.2 z
    · exact h
  have last : (kd1 ≠ "settles" ∨ kd2 ≠ "settles") → Q (.bl (!decide (V.str kd3 = V.str "settles"))) H39 := fun z => by
    rw [neg z]
    exact q H39
  rcases told_kind hT1 with ⟨c1, r1', N1, rfl, rfl, hc1, hPa⟩ | ⟨z1, z2⟩
  · refine ⟨_, rfl, j1, _, _, _, rfl, rfl, SqT.of hj1, at0 _ _, rfl, _, rfl, iteTh (by decide +kernel) ?_⟩
    rcases told_kind hT2 with ⟨c2, r2', N2, rfl, rfl, hc2, hPb⟩ | ⟨z1, z2⟩
    · refine ⟨_, rfl, j2, _, _, _, rfl, rfl, SqT.of hj2, at0 _ _, rfl, _, rfl, iteTh (by decide +kernel) ?_⟩
      obtain ⟨c3, rfl, rfl, hc3⟩ := both_settle two (by lia) (by lia) hPa hPb hT3
      refine ⟨_, rfl, j3, _, _, _, rfl, rfl, SqT.of hj3, at0 _ _, rfl, _, rfl, iteTh (by decide +kernel) ?_⟩
      refine ⟨_, rfl, j3, _, _, _, rfl, rfl, SqT.of hj3, at1 _ _ _, _, rfl, j1, _, _, _, rfl, rfl, SqT.of hj1, at1 _ _ _, _, rfl, j2, _, _, _, rfl, rfl, SqT.of hj2, at1 _ _ _, c1, c2, _, _, rfl, rfl, r1 _ _ hc1, r2 _ _ hc2, ?_, fun Rc H40 s40 hRc => ?_⟩
      · have a1 := hPa.has.len
        have a2 := hPb.has.len
        rw [List.length_map, List.length_map]
        exact sz (by lia)
      have hRc : BAt H40 Rc (r1' ++ r2') := by
        unfold BAt
        rw [List.map_append]
        exact hRc
      exact eqD_of (standD_at (s40 _ _ hc3)) (standD_at hRc) (goodStand _) (goodStand _) (eqD_refl (goodStand _)) (q H40)
    · refine ⟨_, rfl, j2, _, _, _, rfl, rfl, SqT.of hj2, at0 _ _, rfl, _, rfl, iteFh z1 ?_⟩
      exact ⟨_, rfl, j3, _, _, _, rfl, rfl, SqT.of hj3, at0 _ _, rfl, last (.inr z2)⟩
  · refine ⟨_, rfl, j1, _, _, _, rfl, rfl, SqT.of hj1, at0 _ _, rfl, _, rfl, iteFh z1 ?_⟩
    exact ⟨_, rfl, j3, _, _, _, rfl, rfl, SqT.of hj3, at0 _ _, rfl, last (.inl z2)⟩
end
theorem args_cons {us : List Value} {n : Nat} (h : us.length = n + 1) : ∃ a t, us = a :: t ∧ t.length = n := by
  cases us with
  | nil => cases h
  | cons a t => exact ⟨a, t, rfl, Nat.succ.inj h⟩
theorem args1 {us : List Value} (h : us.length = 1) : ∃ a, us = [a] := List.length_eq_one_iff.mp h
theorem args2 {us : List Value} (h : us.length = 2) : ∃ x0 x1, us = [x0, x1] := by
  obtain ⟨a, t, rfl, ht⟩ := args_cons h
  obtain ⟨x1, rfl⟩ := args1 ht
  exact ⟨a, x1, rfl⟩
theorem args3 {us : List Value} (h : us.length = 3) : ∃ x0 x1 x2, us = [x0, x1, x2] := by
  obtain ⟨a, t, rfl, ht⟩ := args_cons h
  obtain ⟨x1, x2, rfl⟩ := args2 ht
  exact ⟨a, x1, x2, rfl⟩
theorem args4 {us : List Value} (h : us.length = 4) : ∃ x0 x1 x2 x3, us = [x0, x1, x2, x3] := by
  obtain ⟨a, t, rfl, ht⟩ := args_cons h
  obtain ⟨x1, x2, x3, rfl⟩ := args3 ht
  exact ⟨a, x1, x2, x3, rfl⟩
theorem args5 {us : List Value} (h : us.length = 5) : ∃ x0 x1 x2 x3 x4, us = [x0, x1, x2, x3, x4] := by
  obtain ⟨a, t, rfl, ht⟩ := args_cons h
  obtain ⟨x1, x2, x3, x4, rfl⟩ := args4 ht
  exact ⟨a, x1, x2, x3, x4, rfl⟩
theorem all_mk {l : PySem.W.OpenLaw} {w : World} {K : PySem.W.Frag} {h : Heap} {mg : Str → Option Value} {fa f1 f2 f3 f4 f5 f6 f7 f8 f9 f10 f11 f12 f13 f14 f15 f16 f17 f18 f19 f20 f21 f22 f23 f24 f25 f26 f27 : Addr} {tk0 : Tok} {cc0 cc1 cc2 cc3 cc4 cc5 cc6 : Addr} (X : K.In h) (G : h.Ns mainGlobals mg) (hfa : mg "law" = some (.ref fa))
    {od1 an1 od2 an2 od3 an3 od4 an4 od5 an5 od6 an6 od7 an7 od8 an8 od9 an9 od10 an10 od11 an11 od12 an12 od13 an13 od14 an14 od15 an15 od16 an16 od17 an17 od18 an18 od19 an19 od20 an20 od21 an21 od22 an22 od23 an23 od24 an24 od25 an25 od26 an26 od27 an27 : Option Addr} {sl1 sl2 sl3 sl4 sl5 sl6 sl7 sl8 sl9 sl10 sl11 sl12 sl13 sl14 sl15 sl16 sl17 sl18 sl19 sl20 sl21 sl22 sl23 sl24 sl25 sl26 sl27 : Array (Option Value)} {oc1 kV1 dc1 pm1 cd1 ct1 oc2 kV2 dc2 pm2 cd2 ct2 oc3 kV3 dc3 pm3 cd3 ct3 oc4 kV4 dc4 pm4 cd4 ct4 oc5 kV5 dc5 pm5 cd5 ct5 oc6 kV6 dc6 pm6 cd6 ct6 oc7 kV7 dc7 pm7 cd7 ct7 oc8 kV8 dc8 pm8 cd8 ct8 oc9 kV9 dc9 pm9 cd9 ct9 oc10 kV10 dc10 pm10 cd10 ct10 oc11 kV11 dc11 pm11 cd11 ct11 oc12 kV12 dc12 pm12 cd12 ct12 oc13 kV13 dc13 pm13 cd13 ct13 oc14 kV14 dc14 pm14 cd14 ct14 oc15 kV15 dc15 pm15 cd15 ct15 oc16 kV16 dc16 pm16 cd16 ct16 oc17 kV17 dc17 pm17 cd17 ct17 oc18 kV18 dc18 pm18 cd18 ct18 oc19 kV19 dc19 pm19 cd19 ct19 oc20 kV20 dc20 pm20 cd20 ct20 oc21 kV21 dc21 pm21 cd21 ct21 oc22 kV22 dc22 pm22 cd22 ct22 oc23 kV23 dc23 pm23 cd23 ct23 oc24 kV24 dc24 pm24 cd24 ct24 oc25 kV25 dc25 pm25 cd25 ct25 oc26 kV26 dc26 pm26 cd26 ct26 oc27 kV27 dc27 pm27 cd27 ct27 : Value}
    (a1 : PySem.W.nsIn K mainGlobals "worth" = some (some (.ref f1))) (l1 : K.lookup f1 = some ⟨oc1, od1, .func (PySem.W.fnOf "worth" "worth" (defArgs sWorth) (defBody sWorth) (defScope sWorth) .none kV1 dc1 pm1 an1 cd1 ct1), sl1⟩) (c1 : PySem.W.codeIn K cd1 "worth" = true) (k1 : PySem.W.keepIn K (.ref f1) = true)
    (a2 : PySem.W.nsIn K mainGlobals "parts" = some (some (.ref f2))) (l2 : K.lookup f2 = some ⟨oc2, od2, .func (PySem.W.fnOf "parts" "parts" (defArgs sParts) (defBody sParts) (defScope sParts) .none kV2 dc2 pm2 an2 cd2 ct2), sl2⟩) (c2 : PySem.W.codeIn K cd2 "parts" = true) (k2 : PySem.W.keepIn K (.ref f2) = true)
    (a3 : PySem.W.nsIn K mainGlobals "all_rows" = some (some (.ref f3))) (l3 : K.lookup f3 = some ⟨oc3, od3, .func (PySem.W.fnOf "all_rows" "all_rows" (defArgs sAllRows) (defBody sAllRows) (defScope sAllRows) .none kV3 dc3 pm3 an3 cd3 ct3), sl3⟩) (c3 : PySem.W.codeIn K cd3 "all_rows" = true) (k3 : PySem.W.keepIn K (.ref f3) = true)
    (a4 : PySem.W.nsIn K mainGlobals "movable" = some (some (.ref f4))) (l4 : K.lookup f4 = some ⟨oc4, od4, .func (PySem.W.fnOf "movable" "movable" (defArgs sMovable) (defBody sMovable) (defScope sMovable) .none kV4 dc4 pm4 an4 cd4 ct4), sl4⟩) (c4 : PySem.W.codeIn K cd4 "movable" = true) (k4 : PySem.W.keepIn K (.ref f4) = true)
    (a5 : PySem.W.nsIn K mainGlobals "can_move" = some (some (.ref f5))) (l5 : K.lookup f5 = some ⟨oc5, od5, .func (PySem.W.fnOf "can_move" "can_move" (defArgs sCanMove) (defBody sCanMove) (defScope sCanMove) .none kV5 dc5 pm5 an5 cd5 ct5), sl5⟩) (c5 : PySem.W.codeIn K cd5 "can_move" = true) (k5 : PySem.W.keepIn K (.ref f5) = true)
    (a6 : PySem.W.nsIn K mainGlobals "moved" = some (some (.ref f6))) (l6 : K.lookup f6 = some ⟨oc6, od6, .func (PySem.W.fnOf "moved" "moved" (defArgs sMoved) (defBody sMoved) (defScope sMoved) .none kV6 dc6 pm6 an6 cd6 ct6), sl6⟩) (c6 : PySem.W.codeIn K cd6 "moved" = true) (k6 : PySem.W.keepIn K (.ref f6) = true)
    (a7 : PySem.W.nsIn K mainGlobals "rests" = some (some (.ref f7))) (l7 : K.lookup f7 = some ⟨oc7, od7, .func (PySem.W.fnOf "rests" "rests" (defArgs sRests) (defBody sRests) (defScope sRests) .none kV7 dc7 pm7 an7 cd7 ct7), sl7⟩) (c7 : PySem.W.codeIn K cd7 "rests" = true) (k7 : PySem.W.keepIn K (.ref f7) = true)
    (a8 : PySem.W.nsIn K mainGlobals "beside" = some (some (.ref f8))) (l8 : K.lookup f8 = some ⟨oc8, od8, .func (PySem.W.fnOf "beside" "beside" (defArgs sBeside) (defBody sBeside) (defScope sBeside) .none kV8 dc8 pm8 an8 cd8 ct8), sl8⟩) (c8 : PySem.W.codeIn K cd8 "beside" = true) (k8 : PySem.W.keepIn K (.ref f8) = true)
    (a9 : PySem.W.nsIn K mainGlobals "numbered_on" = some (some (.ref f9))) (l9 : K.lookup f9 = some ⟨oc9, od9, .func (PySem.W.fnOf "numbered_on" "numbered_on" (defArgs sNumberedOn) (defBody sNumberedOn) (defScope sNumberedOn) .none kV9 dc9 pm9 an9 cd9 ct9), sl9⟩) (c9 : PySem.W.codeIn K cd9 "numbered_on" = true) (k9 : PySem.W.keepIn K (.ref f9) = true)
    (a10 : PySem.W.nsIn K mainGlobals "judged" = some (some (.ref f10))) (l10 : K.lookup f10 = some ⟨oc10, od10, .func (PySem.W.fnOf "judged" "judged" (defArgs sJudged) (defBody sJudged) (defScope sJudged) .none kV10 dc10 pm10 an10 cd10 ct10), sl10⟩) (c10 : PySem.W.codeIn K cd10 "judged" = true) (k10 : PySem.W.keepIn K (.ref f10) = true)
    (a11 : PySem.W.nsIn K mainGlobals "steps_from" = some (some (.ref f11))) (l11 : K.lookup f11 = some ⟨oc11, od11, .func (PySem.W.fnOf "steps_from" "steps_from" (defArgs sStepsFrom) (defBody sStepsFrom) (defScope sStepsFrom) .none kV11 dc11 pm11 an11 cd11 ct11), sl11⟩) (c11 : PySem.W.codeIn K cd11 "steps_from" = true) (k11 : PySem.W.keepIn K (.ref f11) = true)
    (a12 : PySem.W.nsIn K mainGlobals "roads_along" = some (some (.ref f12))) (l12 : K.lookup f12 = some ⟨oc12, od12, .func (PySem.W.fnOf "roads_along" "roads_along" (defArgs sRoadsAlong) (defBody sRoadsAlong) (defScope sRoadsAlong) .none kV12 dc12 pm12 an12 cd12 ct12), sl12⟩) (c12 : PySem.W.codeIn K cd12 "roads_along" = true) (k12 : PySem.W.keepIn K (.ref f12) = true)
    (a13 : PySem.W.nsIn K mainGlobals "numbered" = some (some (.ref f13))) (l13 : K.lookup f13 = some ⟨oc13, od13, .func (PySem.W.fnOf "numbered" "numbered" (defArgs sNumbered) (defBody sNumbered) (defScope sNumbered) .none kV13 dc13 pm13 an13 cd13 ct13), sl13⟩) (c13 : PySem.W.codeIn K cd13 "numbered" = true) (k13 : PySem.W.keepIn K (.ref f13) = true)
    (a14 : PySem.W.nsIn K mainGlobals "on_a_ring" = some (some (.ref f14))) (l14 : K.lookup f14 = some ⟨oc14, od14, .func (PySem.W.fnOf "on_a_ring" "on_a_ring" (defArgs sOnARing) (defBody sOnARing) (defScope sOnARing) .none kV14 dc14 pm14 an14 cd14 ct14), sl14⟩) (c14 : PySem.W.codeIn K cd14 "on_a_ring" = true) (k14 : PySem.W.keepIn K (.ref f14) = true)
    (a15 : PySem.W.nsIn K mainGlobals "ring_from" = some (some (.ref f15))) (l15 : K.lookup f15 = some ⟨oc15, od15, .func (PySem.W.fnOf "ring_from" "ring_from" (defArgs sRingFrom) (defBody sRingFrom) (defScope sRingFrom) .none kV15 dc15 pm15 an15 cd15 ct15), sl15⟩) (c15 : PySem.W.codeIn K cd15 "ring_from" = true) (k15 : PySem.W.keepIn K (.ref f15) = true)
    (a16 : PySem.W.nsIn K mainGlobals "endless_step" = some (some (.ref f16))) (l16 : K.lookup f16 = some ⟨oc16, od16, .func (PySem.W.fnOf "endless_step" "endless_step" (defArgs sEndlessStep) (defBody sEndlessStep) (defScope sEndlessStep) .none kV16 dc16 pm16 an16 cd16 ct16), sl16⟩) (c16 : PySem.W.codeIn K cd16 "endless_step" = true) (k16 : PySem.W.keepIn K (.ref f16) = true)
    (a17 : PySem.W.nsIn K mainGlobals "_law_cell_at" = some (some (.ref f17))) (l17 : K.lookup f17 = some ⟨oc17, od17, .func (PySem.W.fnOf "_law_cell_at" "_law_cell_at" (defArgs sCell) (defBody sCell) (defScope sCell) .none kV17 dc17 pm17 an17 cd17 ct17), sl17⟩) (c17 : PySem.W.codeIn K cd17 "_law_cell_at" = true) (k17 : PySem.W.keepIn K (.ref f17) = true)
    (a18 : PySem.W.nsIn K mainGlobals "_law_pick" = some (some (.ref f18))) (l18 : K.lookup f18 = some ⟨oc18, od18, .func (PySem.W.fnOf "_law_pick" "_law_pick" (defArgs sPick) (defBody sPick) (defScope sPick) .none kV18 dc18 pm18 an18 cd18 ct18), sl18⟩) (c18 : PySem.W.codeIn K cd18 "_law_pick" = true) (k18 : PySem.W.keepIn K (.ref f18) = true)
    (a19 : PySem.W.nsIn K mainGlobals "_law_mix" = some (some (.ref f19))) (l19 : K.lookup f19 = some ⟨oc19, od19, .func (PySem.W.fnOf "_law_mix" "_law_mix" (defArgs sMix) (defBody sMix) (defScope sMix) .none kV19 dc19 pm19 an19 cd19 ct19), sl19⟩) (c19 : PySem.W.codeIn K cd19 "_law_mix" = true) (k19 : PySem.W.keepIn K (.ref f19) = true)
    (a20 : PySem.W.nsIn K mainGlobals "_law_leaf" = some (some (.ref f20))) (l20 : K.lookup f20 = some ⟨oc20, od20, .func (PySem.W.fnOf "_law_leaf" "_law_leaf" (defArgs sLeaf) (defBody sLeaf) (defScope sLeaf) .none kV20 dc20 pm20 an20 cd20 ct20), sl20⟩) (c20 : PySem.W.codeIn K cd20 "_law_leaf" = true) (k20 : PySem.W.keepIn K (.ref f20) = true)
    (a21 : PySem.W.nsIn K mainGlobals "_law_word" = some (some (.ref f21))) (l21 : K.lookup f21 = some ⟨oc21, od21, .func (PySem.W.fnOf "_law_word" "_law_word" (defArgs sWord) (defBody sWord) (defScope sWord) .none kV21 dc21 pm21 an21 cd21 ct21), sl21⟩) (c21 : PySem.W.codeIn K cd21 "_law_word" = true) (k21 : PySem.W.keepIn K (.ref f21) = true)
    (a22 : PySem.W.nsIn K mainGlobals "_law_board" = some (some (.ref f22))) (l22 : K.lookup f22 = some ⟨oc22, od22, .func (PySem.W.fnOf "_law_board" "_law_board" (defArgs sBoard) (defBody sBoard) (defScope sBoard) .none kV22 dc22 pm22 an22 cd22 ct22), sl22⟩) (c22 : PySem.W.codeIn K cd22 "_law_board" = true) (k22 : PySem.W.keepIn K (.ref f22) = true)
    (a23 : PySem.W.nsIn K mainGlobals "_law_bits" = some (some (.ref f23))) (l23 : K.lookup f23 = some ⟨oc23, od23, .func (PySem.W.fnOf "_law_bits" "_law_bits" (defArgs sBits) (defBody sBits) (defScope sBits) .none kV23 dc23 pm23 an23 cd23 ct23), sl23⟩) (c23 : PySem.W.codeIn K cd23 "_law_bits" = true) (k23 : PySem.W.keepIn K (.ref f23) = true)
    (a24 : PySem.W.nsIn K mainGlobals "_law_refused" = some (some (.ref f24))) (l24 : K.lookup f24 = some ⟨oc24, od24, .func (PySem.W.fnOf "_law_refused" "_law_refused" (defArgs sLRefused) (defBody sLRefused) (defScope sLRefused) .none kV24 dc24 pm24 an24 cd24 ct24), sl24⟩) (c24 : PySem.W.codeIn K cd24 "_law_refused" = true) (k24 : PySem.W.keepIn K (.ref f24) = true)
    (a25 : PySem.W.nsIn K mainGlobals "_law_told" = some (some (.ref f25))) (l25 : K.lookup f25 = some ⟨oc25, od25, .func (PySem.W.fnOf "_law_told" "_law_told" (defArgs sLTold) (defBody sLTold) (defScope sLTold) .none kV25 dc25 pm25 an25 cd25 ct25), sl25⟩) (c25 : PySem.W.codeIn K cd25 "_law_told" = true) (k25 : PySem.W.keepIn K (.ref f25) = true)
    (a26 : PySem.W.nsIn K mainGlobals "_law_on" = some (some (.ref f26))) (l26 : K.lookup f26 = some ⟨oc26, od26, .func (PySem.W.fnOf "_law_on" "_law_on" (defArgs sLOn) (defBody sLOn) (defScope sLOn) .none kV26 dc26 pm26 an26 cd26 ct26), sl26⟩) (c26 : PySem.W.codeIn K cd26 "_law_on" = true) (k26 : PySem.W.keepIn K (.ref f26) = true)
    (a27 : PySem.W.nsIn K mainGlobals "law" = some (some (.ref f27))) (l27 : K.lookup f27 = some ⟨oc27, od27, .func (PySem.W.fnOf "law" "law" (defArgs sLaw) (defBody sLaw) (defScope sLaw) .none kV27 dc27 pm27 an27 cd27 ct27), sl27⟩) (c27 : PySem.W.codeIn K cd27 "law" = true) (k27 : PySem.W.keepIn K (.ref f27) = true)
    (z1 : PySem.W.nsIn K mainGlobals "len" = some none)
    (z2 : PySem.W.nsIn K mainGlobals "range" = some none)
    (z3 : PySem.W.nsIn K mainGlobals "tuple" = some none)
    (z4 : PySem.W.nsIn K mainGlobals "isinstance" = some none)
    (z5 : PySem.W.nsIn K mainGlobals "all" = some none)
    (z6 : PySem.W.nsIn K mainGlobals "list" = some none)
    (z7 : PySem.W.nsIn K mainGlobals "max" = some none)
    (z8 : PySem.W.nsIn K mainGlobals "ValueError" = some none)
    (z9 : PySem.W.nsIn K mainGlobals "sorted" = some none)
    (xa0 : PySem.W.nsIn K mainGlobals "TooMany" = some (some (.ref cc0)))
    (xe0 : PySem.W.excIn K cc0 VErr "ValueError.__new__" = true)
    (xga0 : PySem.W.findIn K (.ref cc0) "__getattribute__" = some (some (.builtin "BaseException.__getattribute__")))
    (xgt0 : PySem.W.findIn K (.ref cc0) "__getattr__" = some none)
    (xcl0 : PySem.W.findIn K (.ref cc0) "__class__" = some (some (.builtin "object.__class__")))
    (xob0 : PySem.W.mroIn K cc0 (.type "object") = some true)
    (xbe0 : PySem.W.mroIn K cc0 (.type "BaseException") = some true)
    (xa1 : PySem.W.nsIn K mainGlobals "Deep" = some (some (.ref cc1)))
    (xe1 : PySem.W.excIn K cc1 VErr "ValueError.__new__" = true)
    (xga1 : PySem.W.findIn K (.ref cc1) "__getattribute__" = some (some (.builtin "BaseException.__getattribute__")))
    (xgt1 : PySem.W.findIn K (.ref cc1) "__getattr__" = some none)
    (xcl1 : PySem.W.findIn K (.ref cc1) "__class__" = some (some (.builtin "object.__class__")))
    (xob1 : PySem.W.mroIn K cc1 (.type "object") = some true)
    (xbe1 : PySem.W.mroIn K cc1 (.type "BaseException") = some true)
    (xa2 : PySem.W.nsIn K mainGlobals "NoContact" = some (some (.ref cc2)))
    (xe2 : PySem.W.excIn K cc2 VErr "ValueError.__new__" = true)
    (xga2 : PySem.W.findIn K (.ref cc2) "__getattribute__" = some (some (.builtin "BaseException.__getattribute__")))
    (xgt2 : PySem.W.findIn K (.ref cc2) "__getattr__" = some none)
    (xcl2 : PySem.W.findIn K (.ref cc2) "__class__" = some (some (.builtin "object.__class__")))
    (xob2 : PySem.W.mroIn K cc2 (.type "object") = some true)
    (xbe2 : PySem.W.mroIn K cc2 (.type "BaseException") = some true)
    (xa3 : PySem.W.nsIn K mainGlobals "NoRelay" = some (some (.ref cc3)))
    (xe3 : PySem.W.excIn K cc3 VErr "ValueError.__new__" = true)
    (xga3 : PySem.W.findIn K (.ref cc3) "__getattribute__" = some (some (.builtin "BaseException.__getattribute__")))
    (xgt3 : PySem.W.findIn K (.ref cc3) "__getattr__" = some none)
    (xcl3 : PySem.W.findIn K (.ref cc3) "__class__" = some (some (.builtin "object.__class__")))
    (xob3 : PySem.W.mroIn K cc3 (.type "object") = some true)
    (xbe3 : PySem.W.mroIn K cc3 (.type "BaseException") = some true)
    (xa4 : PySem.W.nsIn K mainGlobals "Still" = some (some (.ref cc4)))
    (xe4 : PySem.W.excIn K cc4 VErr "ValueError.__new__" = true)
    (xga4 : PySem.W.findIn K (.ref cc4) "__getattribute__" = some (some (.builtin "BaseException.__getattribute__")))
    (xgt4 : PySem.W.findIn K (.ref cc4) "__getattr__" = some none)
    (xcl4 : PySem.W.findIn K (.ref cc4) "__class__" = some (some (.builtin "object.__class__")))
    (xob4 : PySem.W.mroIn K cc4 (.type "object") = some true)
    (xbe4 : PySem.W.mroIn K cc4 (.type "BaseException") = some true)
    (xa5 : PySem.W.nsIn K mainGlobals "NoNote" = some (some (.ref cc5)))
    (xe5 : PySem.W.excIn K cc5 VErr "ValueError.__new__" = true)
    (xga5 : PySem.W.findIn K (.ref cc5) "__getattribute__" = some (some (.builtin "BaseException.__getattribute__")))
    (xgt5 : PySem.W.findIn K (.ref cc5) "__getattr__" = some none)
    (xcl5 : PySem.W.findIn K (.ref cc5) "__class__" = some (some (.builtin "object.__class__")))
    (xob5 : PySem.W.mroIn K cc5 (.type "object") = some true)
    (xbe5 : PySem.W.mroIn K cc5 (.type "BaseException") = some true)
    (xa6 : PySem.W.nsIn K mainGlobals "RoomError" = some (some (.ref cc6)))
    (xe6 : PySem.W.excIn K cc6 VErr "ValueError.__new__" = true)
    (xga6 : PySem.W.findIn K (.ref cc6) "__getattribute__" = some (some (.builtin "BaseException.__getattribute__")))
    (xgt6 : PySem.W.findIn K (.ref cc6) "__getattr__" = some none)
    (xcl6 : PySem.W.findIn K (.ref cc6) "__class__" = some (some (.builtin "object.__class__")))
    (xob6 : PySem.W.mroIn K cc6 (.type "object") = some true)
    (xbe6 : PySem.W.mroIn K cc6 (.type "BaseException") = some true)
    (xgg : PySem.W.specialIn K (.builtin "object.__class__") "__get__" = some (some (.builtin "getset_descriptor.__get__")))
    (xtk : PySem.W.takesIn K (.builtin "object.__class__") = some true)
    (xm0 : PySem.W.mroIn K cc0 (.ref cc6) = some true)
    (xj0_0 : PySem.W.kitOne K (.ref cc0) (.ref cc0) = some true)
    (xj0_1 : PySem.W.kitOne K (.ref cc0) (.ref cc1) = some false)
    (xj0_2 : PySem.W.kitOne K (.ref cc0) (.ref cc2) = some false)
    (xj0_3 : PySem.W.kitOne K (.ref cc0) (.ref cc3) = some false)
    (xj0_4 : PySem.W.kitOne K (.ref cc0) (.ref cc4) = some false)
    (xj0_5 : PySem.W.kitOne K (.ref cc0) (.ref cc5) = some false)
    (xv0 : PySem.W.kitOne K (.ref cc0) (.type "ValueError") = some true)
    (xc_MOST_RELAYS : PySem.W.nsIn K mainGlobals "MOST_RELAYS" = some (some (.int 6 tk0)))
    : ∃ fd : FuncData, (∀ (s : Shared) (v : Value), BindsTo s fd ⟨[v], []⟩ [("script", v)]) ∧ ∀ base : Heap, K.In base → base.Ns mainGlobals mg → FnOk l.prog w K mg base CX0 15 fa fd ["script"] (spLaw K) := by
  have e := hfa.symm.trans (PySem.W.mg_of X G a27)
  cases e
  have F1 := fun_mk (st := sWorth) l1 c1 k1
  have F2 := fun_mk (st := sParts) l2 c2 k2
  have F3 := fun_mk (st := sAllRows) l3 c3 k3
  have F4 := fun_mk (st := sMovable) l4 c4 k4
  have F5 := fun_mk (st := sCanMove) l5 c5 k5
  have F6 := fun_mk (st := sMoved) l6 c6 k6
  have F7 := fun_mk (st := sRests) l7 c7 k7
  have F8 := fun_mk (st := sBeside) l8 c8 k8
  have F9 := fun_mk (st := sNumberedOn) l9 c9 k9
  have F10 := fun_mk (st := sJudged) l10 c10 k10
  have F11 := fun_mk (st := sStepsFrom) l11 c11 k11
  have F12 := fun_mk (st := sRoadsAlong) l12 c12 k12
  have F13 := fun_mk (st := sNumbered) l13 c13 k13
  have F14 := fun_mk (st := sOnARing) l14 c14 k14
  have F15 := fun_mk (st := sRingFrom) l15 c15 k15
  have F16 := fun_mk (st := sEndlessStep) l16 c16 k16
  have F17 := fun_mk (st := sCell) l17 c17 k17
  have F18 := fun_mk (st := sPick) l18 c18 k18
  have F19 := fun_mk (st := sMix) l19 c19 k19
  have F20 := fun_mk (st := sLeaf) l20 c20 k20
  have F21 := fun_mk (st := sWord) l21 c21 k21
  have F22 := fun_mk (st := sBoard) l22 c22 k22
  have F23 := fun_mk (st := sBits) l23 c23 k23
  have F24 := fun_mk (st := sLRefused) l24 c24 k24
  have F25 := fun_mk (st := sLTold) l25 c25 k25
  have F26 := fun_mk (st := sLOn) l26 c26 k26
  have F27 := fun_mk (st := sLaw) l27 c27 k27
  have b1 := F1.binds (ps := ["word", "stand", "pressed"]) fun _ _ _ _ _ _ us hl => by obtain ⟨u0, u1, u2, rfl⟩ := args3 hl; rfl
  have m1 := PySem.W.mg_of X G a1
  have b2 := F2.binds (ps := ["word"]) fun _ _ _ _ _ _ us hl => by obtain ⟨u0, rfl⟩ := args1 hl; rfl
  have m2 := PySem.W.mg_of X G a2
  have b3 := F3.binds (ps := ["count"]) fun _ _ _ _ _ _ us hl => by obtain ⟨u0, rfl⟩ := args1 hl; rfl
  have m3 := PySem.W.mg_of X G a3
  have b4 := F4.binds (ps := ["board", "pressed", "stand"]) fun _ _ _ _ _ _ us hl => by obtain ⟨u0, u1, u2, rfl⟩ := args3 hl; rfl
  have m4 := PySem.W.mg_of X G a4
  have b5 := F5.binds (ps := ["board", "pressed", "stand", "relay"]) fun _ _ _ _ _ _ us hl => by obtain ⟨u0, u1, u2, u3, rfl⟩ := args4 hl; rfl
  have m5 := PySem.W.mg_of X G a5
  have b6 := F6.binds (ps := ["stand", "relay"]) fun _ _ _ _ _ _ us hl => by obtain ⟨u0, u1, rfl⟩ := args2 hl; rfl
  have m6 := PySem.W.mg_of X G a6
  have b7 := F7.binds (ps := ["board", "pressed"]) fun _ _ _ _ _ _ us hl => by obtain ⟨u0, u1, rfl⟩ := args2 hl; rfl
  have m7 := PySem.W.mg_of X G a7
  have b8 := F8.binds (ps := ["one", "buttons", "other"]) fun _ _ _ _ _ _ us hl => by obtain ⟨u0, u1, u2, rfl⟩ := args3 hl; rfl
  have m8 := PySem.W.mg_of X G a8
  have b9 := F9.binds (ps := ["word", "relays", "buttons"]) fun _ _ _ _ _ _ us hl => by obtain ⟨u0, u1, u2, rfl⟩ := args3 hl; rfl
  have m9 := PySem.W.mg_of X G a9
  have b10 := F10.binds (ps := ["board", "pressed", "stand"]) fun _ _ _ _ _ _ us hl => by obtain ⟨u0, u1, u2, rfl⟩ := args3 hl; rfl
  have m10 := PySem.W.mg_of X G a10
  have b11 := F11.binds (ps := ["board", "pressed", "stand"]) fun _ _ _ _ _ _ us hl => by obtain ⟨u0, u1, u2, rfl⟩ := args3 hl; rfl
  have m11 := PySem.W.mg_of X G a11
  have b12 := F12.binds (ps := ["steps", "stand"]) fun _ _ _ _ _ _ us hl => by obtain ⟨u0, u1, rfl⟩ := args2 hl; rfl
  have m12 := PySem.W.mg_of X G a12
  have b13 := F13.binds (ps := ["steps"]) fun _ _ _ _ _ _ us hl => by obtain ⟨u0, rfl⟩ := args1 hl; rfl
  have m13 := PySem.W.mg_of X G a13
  have b14 := F14.binds (ps := ["steps", "numbers"]) fun _ _ _ _ _ _ us hl => by obtain ⟨u0, u1, rfl⟩ := args2 hl; rfl
  have m14 := PySem.W.mg_of X G a14
  have b15 := F15.binds (ps := ["steps", "numbers", "stand"]) fun _ _ _ _ _ _ us hl => by obtain ⟨u0, u1, u2, rfl⟩ := args3 hl; rfl
  have m15 := PySem.W.mg_of X G a15
  have b16 := F16.binds (ps := ["steps", "numbers", "here"]) fun _ _ _ _ _ _ us hl => by obtain ⟨u0, u1, u2, rfl⟩ := args3 hl; rfl
  have m16 := PySem.W.mg_of X G a16
  have b17 := F17.binds (ps := ["script", "k"]) fun _ _ _ _ _ _ us hl => by obtain ⟨u0, u1, rfl⟩ := args2 hl; rfl
  have m17 := PySem.W.mg_of X G a17
  have b18 := F18.binds (ps := ["script", "k"]) fun _ _ _ _ _ _ us hl => by obtain ⟨u0, u1, rfl⟩ := args2 hl; rfl
  have m18 := PySem.W.mg_of X G a18
  have b19 := F19.binds (ps := ["cell", "k"]) fun _ _ _ _ _ _ us hl => by obtain ⟨u0, u1, rfl⟩ := args2 hl; rfl
  have m19 := PySem.W.mg_of X G a19
  have b20 := F20.binds (ps := ["mixed", "relays", "buttons"]) fun _ _ _ _ _ _ us hl => by obtain ⟨u0, u1, u2, rfl⟩ := args3 hl; rfl
  have m20 := PySem.W.mg_of X G a20
  have b21 := F21.binds (ps := ["cell", "k", "deep", "relays", "buttons"]) fun _ _ _ _ _ _ us hl => by obtain ⟨u0, u1, u2, u3, u4, rfl⟩ := args5 hl; rfl
  have m21 := PySem.W.mg_of X G a21
  have b22 := F22.binds (ps := ["script", "start", "relays", "buttons", "deep"]) fun _ _ _ _ _ _ us hl => by obtain ⟨u0, u1, u2, u3, u4, rfl⟩ := args5 hl; rfl
  have m22 := PySem.W.mg_of X G a22
  have b23 := F23.binds (ps := ["number", "size"]) fun _ _ _ _ _ _ us hl => by obtain ⟨u0, u1, rfl⟩ := args2 hl; rfl
  have m23 := PySem.W.mg_of X G a23
  have b24 := F24.binds (ps := ["marks", "which"]) fun _ _ _ _ _ _ us hl => by obtain ⟨u0, u1, rfl⟩ := args2 hl; rfl
  have m24 := PySem.W.mg_of X G a24
  have b25 := F25.binds (ps := ["one", "buttons", "other"]) fun _ _ _ _ _ _ us hl => by obtain ⟨u0, u1, u2, rfl⟩ := args3 hl; rfl
  have m25 := PySem.W.mg_of X G a25
  have b26 := F26.binds (ps := ["word", "relays", "buttons"]) fun _ _ _ _ _ _ us hl => by obtain ⟨u0, u1, u2, rfl⟩ := args3 hl; rfl
  have m26 := PySem.W.mg_of X G a26
  have b27 := F27.binds (ps := ["script"]) fun _ _ _ _ _ _ us hl => by obtain ⟨u0, rfl⟩ := args1 hl; rfl
  have m27 := PySem.W.mg_of X G a27
  have n_len := PySem.W.mg_none_of X G z1
  have n_range := PySem.W.mg_none_of X G z2
  have n_tuple := PySem.W.mg_none_of X G z3
  have n_isinstance := PySem.W.mg_none_of X G z4
  have n_all := PySem.W.mg_none_of X G z5
  have n_list := PySem.W.mg_none_of X G z6
  have n_max := PySem.W.mg_none_of X G z7
  have n_ValueError := PySem.W.mg_none_of X G z8
  have n_sorted := PySem.W.mg_none_of X G z9
  refine ⟨PySem.W.fnOf "law" "law" (defArgs sLaw) (defBody sLaw) (defScope sLaw) .none kV27 dc27 pm27 an27 cd27 ct27, fun s v => .of_eq rfl, fun base _ _ => ?_⟩
  have x_TooMany : ExcC K mg "TooMany" cc0 := ⟨PySem.W.mg_of X G xa0, xe0, ⟨xga0, xgt0, xcl0, xgg, xtk, xob0, xbe0⟩⟩
  have x_Deep : ExcC K mg "Deep" cc1 := ⟨PySem.W.mg_of X G xa1, xe1, ⟨xga1, xgt1, xcl1, xgg, xtk, xob1, xbe1⟩⟩
  have x_NoContact : ExcC K mg "NoContact" cc2 := ⟨PySem.W.mg_of X G xa2, xe2, ⟨xga2, xgt2, xcl2, xgg, xtk, xob2, xbe2⟩⟩
  have x_NoRelay : ExcC K mg "NoRelay" cc3 := ⟨PySem.W.mg_of X G xa3, xe3, ⟨xga3, xgt3, xcl3, xgg, xtk, xob3, xbe3⟩⟩
  have x_Still : ExcC K mg "Still" cc4 := ⟨PySem.W.mg_of X G xa4, xe4, ⟨xga4, xgt4, xcl4, xgg, xtk, xob4, xbe4⟩⟩
  have x_NoNote : ExcC K mg "NoNote" cc5 := ⟨PySem.W.mg_of X G xa5, xe5, ⟨xga5, xgt5, xcl5, xgg, xtk, xob5, xbe5⟩⟩
  have x_RoomError : ExcC K mg "RoomError" cc6 := ⟨PySem.W.mg_of X G xa6, xe6, ⟨xga6, xgt6, xcl6, xgg, xtk, xob6, xbe6⟩⟩
  have c_MOST_RELAYS := PySem.W.mg_of X G xc_MOST_RELAYS
  have km0 : MarkE K cc0 cc0 cc1 cc2 cc3 cc4 cc5 cc6 0 := ⟨xe0, x_TooMany.get, xm0, xj0_0, xj0_1, xj0_2, xj0_3, xj0_4, xj0_5, xv0⟩
  have C17 : Callee l.prog w K mg base "_law_cell_at" 1 ["script", "k"] (spCell K) := ⟨_, _, ok_cell F17 n_len, b17, k17, m17⟩
  have C18 : Callee l.prog w K mg base "_law_pick" 2 ["script", "k"] (spPick K) := ⟨_, _, ok_pick F18 C17 n_len, b18, k18, m18⟩
  have C19 : Callee l.prog w K mg base "_law_mix" 1 ["cell", "k"] spMix := ⟨_, _, ok_mix F19, b19, k19, m19⟩
  have C20 : Callee l.prog w K mg base "_law_leaf" 1 ["mixed", "relays", "buttons"] spLeaf := ⟨_, _, ok_leaf F20, b20, k20, m20⟩
  have C21 : Callee l.prog w K mg base "_law_word" 12 ["cell", "k", "deep", "relays", "buttons"] (spWord 10) := ⟨_, _, ok_word F21 b21 m21 C19 C20 10, b21, k21, m21⟩
  have C23 : Callee l.prog w K mg base "_law_bits" 1 ["number", "size"] spBits := ⟨_, _, ok_bits F23 n_range n_tuple, b23, k23, m23⟩
  have C22 : Callee l.prog w K mg base "_law_board" 13 ["script", "start", "relays", "buttons", "deep"] (spBoard K) := ⟨_, _, ok_board F22 n_range C18 C21, b22, k22, m22⟩
  have C1 : Callee l.prog w K mg base "worth" 9 ["word", "stand", "pressed"] (spWorth 8) := ⟨_, _, ok_worth F1 b1 m1 8, b1, k1, m1⟩
  have C2 : Callee l.prog w K mg base "parts" 1 ["word"] spParts := ⟨_, _, ok_parts F2, b2, k2, m2⟩
  have C5 : Callee l.prog w K mg base "can_move" 10 ["board", "pressed", "stand", "relay"] (spCan K) := ⟨_, _, ok_can F5 C1, b5, k5, m5⟩
  have C4 : Callee l.prog w K mg base "movable" 11 ["board", "pressed", "stand"] (spMovable K) := ⟨_, _, ok_movable F4 C5 n_len n_range, b4, k4, m4⟩
  have C6 : Callee l.prog w K mg base "moved" 1 ["stand", "relay"] spMoved := ⟨_, _, ok_moved F6, b6, k6, m6⟩
  have C3 : Callee l.prog w K mg base "all_rows" 1 ["count"] spAllRows := ⟨_, _, ok_allrows F3 n_range, b3, k3, m3⟩
  have C7 : Callee l.prog w K mg base "rests" 12 ["board", "pressed"] (spRests K) := ⟨_, _, ok_rests F7 C3 C4 n_len, b7, k7, m7⟩
  have C11 : Callee l.prog w K mg base "steps_from" 12 ["board", "pressed", "stand"] (spSteps K) := ⟨_, _, ok_steps F11 C4 C6, b11, k11, m11⟩
  have C12 : Callee l.prog w K mg base "roads_along" 1 ["steps", "stand"] spRoads := ⟨_, _, ok_roads F12, b12, k12, m12⟩
  have C13 : Callee l.prog w K mg base "numbered" 1 ["steps"] spNumbered := ⟨_, _, ok_numbered F13 n_all n_max, b13, k13, m13⟩
  have C16 : Callee l.prog w K mg base "endless_step" 1 ["steps", "numbers", "here"] spEndless := ⟨_, _, ok_endless F16, b16, k16, m16⟩
  have C14 : Callee l.prog w K mg base "on_a_ring" 2 ["steps", "numbers"] spOnRing := ⟨_, _, ok_onring F14 C16, b14, k14, m14⟩
  have C15 : Callee l.prog w K mg base "ring_from" 2 ["steps", "numbers", "stand"] spRing := ⟨_, _, ok_ring F15 C16, b15, k15, m15⟩
  have C10 : Callee l.prog w K mg base "judged" 13 ["board", "pressed", "stand"] (spJudged K) := ⟨_, _, ok_judged F10 C11 C12 C13 C14 C15 n_len, b10, k10, m10⟩
  have C9 : Callee l.prog w K mg base "numbered_on" 9 ["word", "relays", "buttons"] (spOn 8) := ⟨_, _, ok_non F9 b9 m9 C2 n_tuple 8, b9, k9, m9⟩
  have C8 : CalleeX l.prog w K mg base "beside" 10 ["one", "buttons", "other"] (spBeside cc0) := ⟨_, _, ok_beside F8 C9 n_len n_list c_MOST_RELAYS x_TooMany, b8, k8, m8⟩
  have C24 : Callee l.prog w K mg base "_law_refused" 1 ["marks", "which"] spRefused := ⟨_, _, ok_refused F24 n_range, b24, k24, m24⟩
  have C25 : Callee l.prog w K mg base "_law_told" 11 ["one", "buttons", "other"] spTold11 := ⟨_, _, ok_toldb F25 C8 n_isinstance n_ValueError x_TooMany x_Deep x_NoContact x_NoRelay x_Still x_NoNote x_RoomError km0, b25, k25, m25⟩
  have C26 : Callee l.prog w K mg base "_law_on" 9 ["word", "relays", "buttons"] (spOn 8) := ⟨_, _, ok_lon F26 b26 m26 n_tuple 8, b26, k26, m26⟩
  exact ok_law F27 C17 C22 C23 C24 C25 C26 ⟨_, _, beside_calm (ok_beside F8 C9 n_len n_list c_MOST_RELAYS x_TooMany), b8, k8, m8⟩ C7 C10 n_range n_list n_isinstance n_sorted
theorem walk {l : PySem.W.OpenLaw} {q : Program} {loose : List Str} {XP : (Str → Option Value) → Heap → Prop} {YP : World → Heap → Prop} {d : DefRec} {K : Params → PySem.W.Frag} (hn : l.most = some 63) (hdf : d.params.defaults = [])
    (hY : ∀ (w : World) (h : Heap), YP w h → (K w.params).In h)
    (F : ∀ (w : World) (mg : Str → Option Value) (fa : Addr) (h : Heap), (K w.params).In h → h.Ns mainGlobals mg → mg d.name = some (.ref fa) →
      ∃ fd : FuncData, (∀ (s : Shared) (u : Value), BindsTo s fd ⟨[u], []⟩ [("script", u)]) ∧ ∀ base : Heap, (K w.params).In base → base.Ns mainGlobals mg → FnOk l.prog w (K w.params) mg base CX0 15 fa fd ["script"] (spLaw (K w.params))) :
    PySem.W.WalkO q loose XP YP l.row.toRowW d [] (fun f vs => PySem.call f vs) :=
  L2.walk_of (n := 63) (k := 15) (x := "script") (CX := fun _ => CX0) (sp := fun w => spLaw (K w.params)) hn (by decide) hdf ⟨rfl, by decide, by decide⟩ hY F (fun _ _ a ns hl _ hS => ⟨a, ns, rfl, hS, hl, fun _ => rfl⟩) fun _ _ _ _ _ z => z
end RR
open PySem PySem.W PyProof.Rows
set_option maxRecDepth 100000 in
set_option maxHeartbeats 0 in
theorem PySem.Challenge.cw_relayroom_k11_whole_side_by_side_holds : PySem.Challenge.rw_relayroom_k11_whole_side_by_side.Holds := by
  w_on; o_law; k_head; (case hw => w_witness2)
  k_fill
  refine RR.walk (l := PySem.Challenge.rw_relayroom_k11_whole_side_by_side) rfl rfl (fun w h Y => PySem.W.kIn_of Y) ?F
  case F =>
    intro w mg fa h KX G hmg
    refine' RR.all_mk KX G hmg ?a1 ?l1 ?c1 ?k1 ?a2 ?l2 ?c2 ?k2 ?a3 ?l3 ?c3 ?k3 ?a4 ?l4 ?c4 ?k4 ?a5 ?l5 ?c5 ?k5 ?a6 ?l6 ?c6 ?k6 ?a7 ?l7 ?c7 ?k7 ?a8 ?l8 ?c8 ?k8 ?a9 ?l9 ?c9 ?k9 ?a10 ?l10 ?c10 ?k10 ?a11 ?l11 ?c11 ?k11 ?a12 ?l12 ?c12 ?k12 ?a13 ?l13 ?c13 ?k13 ?a14 ?l14 ?c14 ?k14 ?a15 ?l15 ?c15 ?k15 ?a16 ?l16 ?c16 ?k16 ?a17 ?l17 ?c17 ?k17 ?a18 ?l18 ?c18 ?k18 ?a19 ?l19 ?c19 ?k19 ?a20 ?l20 ?c20 ?k20 ?a21 ?l21 ?c21 ?k21 ?a22 ?l22 ?c22 ?k22 ?a23 ?l23 ?c23 ?k23 ?a24 ?l24 ?c24 ?k24 ?a25 ?l25 ?c25 ?k25 ?a26 ?l26 ?c26 ?k26 ?a27 ?l27 ?c27 ?k27 ?z1 ?z2 ?z3 ?z4 ?z5 ?z6 ?z7 ?z8 ?z9 ?xa0 ?xe0 ?xga0 ?xgt0 ?xcl0 ?xob0 ?xbe0 ?xa1 ?xe1 ?xga1 ?xgt1 ?xcl1 ?xob1 ?xbe1 ?xa2 ?xe2 ?xga2 ?xgt2 ?xcl2 ?xob2 ?xbe2 ?xa3 ?xe3 ?xga3 ?xgt3 ?xcl3 ?xob3 ?xbe3 ?xa4 ?xe4 ?xga4 ?xgt4 ?xcl4 ?xob4 ?xbe4 ?xa5 ?xe5 ?xga5 ?xgt5 ?xcl5 ?xob5 ?xbe5 ?xa6 ?xe6 ?xga6 ?xgt6 ?xcl6 ?xob6 ?xbe6 ?xgg ?xtk ?xm0 ?xj0_0 ?xj0_1 ?xj0_2 ?xj0_3 ?xj0_4 ?xj0_5 ?xv0 ?xc_MOST_RELAYS
    (case a1 => k_is); (case l1 => k_is); (case c1 => k_is); (case k1 => k_is)
    (case a2 => k_is); (case l2 => k_is); (case c2 => k_is); (case k2 => k_is)
    (case a3 => k_is); (case l3 => k_is); (case c3 => k_is); (case k3 => k_is)
    (case a4 => k_is); (case l4 => k_is); (case c4 => k_is); (case k4 => k_is)
    (case a5 => k_is); (case l5 => k_is); (case c5 => k_is); (case k5 => k_is)
    (case a6 => k_is); (case l6 => k_is); (case c6 => k_is); (case k6 => k_is)
    (case a7 => k_is); (case l7 => k_is); (case c7 => k_is); (case k7 => k_is)
    (case a8 => k_is); (case l8 => k_is); (case c8 => k_is); (case k8 => k_is)
    (case a9 => k_is); (case l9 => k_is); (case c9 => k_is); (case k9 => k_is)
    (case a10 => k_is); (case l10 => k_is); (case c10 => k_is); (case k10 => k_is)
    (case a11 => k_is); (case l11 => k_is); (case c11 => k_is); (case k11 => k_is)
    (case a12 => k_is); (case l12 => k_is); (case c12 => k_is); (case k12 => k_is)
    (case a13 => k_is); (case l13 => k_is); (case c13 => k_is); (case k13 => k_is)
    (case a14 => k_is); (case l14 => k_is); (case c14 => k_is); (case k14 => k_is)
    (case a15 => k_is); (case l15 => k_is); (case c15 => k_is); (case k15 => k_is)
    (case a16 => k_is); (case l16 => k_is); (case c16 => k_is); (case k16 => k_is)
    (case a17 => k_is); (case l17 => k_is); (case c17 => k_is); (case k17 => k_is)
    (case a18 => k_is); (case l18 => k_is); (case c18 => k_is); (case k18 => k_is)
    (case a19 => k_is); (case l19 => k_is); (case c19 => k_is); (case k19 => k_is)
    (case a20 => k_is); (case l20 => k_is); (case c20 => k_is); (case k20 => k_is)
    (case a21 => k_is); (case l21 => k_is); (case c21 => k_is); (case k21 => k_is)
    (case a22 => k_is); (case l22 => k_is); (case c22 => k_is); (case k22 => k_is)
    (case a23 => k_is); (case l23 => k_is); (case c23 => k_is); (case k23 => k_is)
    (case a24 => k_is); (case l24 => k_is); (case c24 => k_is); (case k24 => k_is)
    (case a25 => k_is); (case l25 => k_is); (case c25 => k_is); (case k25 => k_is)
    (case a26 => k_is); (case l26 => k_is); (case c26 => k_is); (case k26 => k_is)
    (case a27 => k_is); (case l27 => k_is); (case c27 => k_is); (case k27 => k_is)
    (case z1 => k_is)
    (case z2 => k_is)
    (case z3 => k_is)
    (case z4 => k_is)
    (case z5 => k_is)
    (case z6 => k_is)
    (case z7 => k_is)
    (case z8 => k_is)
    (case z9 => k_is)
    (case xa0 => k_is)
    (case xe0 => k_exc)
    (case xga0 => k_is)
    (case xgt0 => k_is)
    (case xcl0 => k_is)
    (case xob0 => k_is)
    (case xbe0 => k_is)
    (case xa1 => k_is)
    (case xe1 => k_exc)
    (case xga1 => k_is)
    (case xgt1 => k_is)
    (case xcl1 => k_is)
    (case xob1 => k_is)
    (case xbe1 => k_is)
    (case xa2 => k_is)
    (case xe2 => k_exc)
    (case xga2 => k_is)
    (case xgt2 => k_is)
    (case xcl2 => k_is)
    (case xob2 => k_is)
    (case xbe2 => k_is)
    (case xa3 => k_is)
    (case xe3 => k_exc)
    (case xga3 => k_is)
    (case xgt3 => k_is)
    (case xcl3 => k_is)
    (case xob3 => k_is)
    (case xbe3 => k_is)
    (case xa4 => k_is)
    (case xe4 => k_exc)
    (case xga4 => k_is)
    (case xgt4 => k_is)
    (case xcl4 => k_is)
    (case xob4 => k_is)
    (case xbe4 => k_is)
    (case xa5 => k_is)
    (case xe5 => k_exc)
    (case xga5 => k_is)
    (case xgt5 => k_is)
    (case xcl5 => k_is)
    (case xob5 => k_is)
    (case xbe5 => k_is)
    (case xa6 => k_is)
    (case xe6 => k_exc)
    (case xga6 => k_is)
    (case xgt6 => k_is)
    (case xcl6 => k_is)
    (case xob6 => k_is)
    (case xbe6 => k_is)
    (case xgg => k_is)
    (case xtk => k_is)
    (case xm0 => k_is)
    (case xj0_0 => kit_is)
    (case xj0_1 => kit_is)
    (case xj0_2 => kit_is)
    (case xj0_3 => kit_is)
    (case xj0_4 => kit_is)
    (case xj0_5 => kit_is)
    (case xv0 => kit_is)
    (case xc_MOST_RELAYS => k_is)


end
