import PyProof.Rows.All
import Wide.All
import OpenK.AllK
import Wide.FinOn
import Lean
import PyProof.EqAt
import PyProof.EqKinds
import PyProof.TupleCall
import PyProof.FString
import OpenK.KOwn
import KE.KTryMore
import PyProof.NsDelKeeps
import PyProof.StrBlock2
import PyProof.AutoListH
import KE.KIntText
import PyProof.Rows.StrIntSpec
import KE.KRevIter
import PyProof.StrWalks
import PyProof.CompUse
import PyProof.NeKinds
import PyProof.Rows.Range3
import PyProof.Rows.EnumRows
import PyProof.ConsumeWalk
import PyProof.Rows.SeqGen
import PyProof.StrLawsRepr
import PyProof.ZipIter
import PyProof.Rows.FactsT2
import PyProof.EnumMake
import PyProof.DictWalks
import PyProof.DictTruth
import PyProof.ListRange
import PyProof.ListStr
import PyProof.TupleOfGen
import PyProof.TupleOfSeq
import PyProof.MinMaxWalk
import PyProof.WalkInts
import KE.KSortAsk
import PyProof.MeetsSeq3
import KE.KRevSl
import PyProof.Rows.SeqMore
import PyProof.ListMulRoad
import PyProof.Rows.SumAny
import PyProof.SeqI3
import PyProof.AttrMissSeq
import KE.KDictOf
import PySem.Challenge.RW_cosetyard_k72_homes
-- CHANGE: your row's module here, as the last of these rows
set_option Elab.async false
set_option linter.all false
set_option maxRecDepth 100000
namespace L2
theorem goal_let {p : Prop} (h : let q : Prop := p; q) : p := h
end L2
namespace L2
open PySem PySem.Spec PyProof.Rows
abbrev Key := Sum Int Str
def keyIs : Key → Value → Bool
  | .inl k, v => Value.isInt k v
  | .inr x, v => Value.isStrOf x v
def keyH (w : World) : Key → Int
  | .inl k => hashInt k
  | .inr x => hashStr w x
theorem keyIs_shape : ∀ {k : Key} {v : Value}, keyIs k v = true → (∃ i t, k = Sum.inl i ∧ v = Value.int i t) ∨ (∃ x t, k = Sum.inr x ∧ v = Value.str x t)
  | .inl i, v, h => by
    obtain ⟨t, e⟩ := Value.isInt_shape (k := i) (v := v) h
    exact .inl ⟨i, t, rfl, e⟩
  | .inr x, v, h => by
    obtain ⟨t, e⟩ := Value.isStrOf_shape (x := x) (v := v) h
    exact .inr ⟨x, t, rfl, e⟩
theorem keyIs_int (i : Int) (t : Tok) : keyIs (.inl i) (.int i t) = true := by simp [keyIs, Value.isInt]
theorem keyIs_str (x : Str) (t : Tok) : keyIs (.inr x) (.str x t) = true := by simp [keyIs, Value.isStrOf]
theorem key_ll (a b : Int) : decide ((Sum.inl a : Key) = Sum.inl b) = (a == b) := by
  by_cases e : a = b
  · subst e; simp
  · have h : ¬ (Sum.inl a : Key) = Sum.inl b := fun q => e (Sum.inl.inj q)
    rw [decide_eq_false h]
    exact (beq_eq_false_iff_ne.mpr e).symm
theorem key_rr (a b : Str) : decide ((Sum.inr a : Key) = Sum.inr b) = decide (a = b) := by
  by_cases e : a = b
  · subst e; simp
  · have h : ¬ (Sum.inr a : Key) = Sum.inr b := fun q => e (Sum.inr.inj q)
    rw [decide_eq_false h, decide_eq_false e]
theorem key_lr (a : Int) (b : Str) : decide ((Sum.inl a : Key) = Sum.inr b) = false := decide_eq_false (fun q => nomatch q)
theorem key_rl (a : Str) (b : Int) : decide ((Sum.inr a : Key) = Sum.inl b) = false := decide_eq_false (fun q => nomatch q)
def mixKind (prog : Program) (w : World) : PySem.KeyKind prog w Key where
  is := keyIs
  hash := keyH w
  inj := fun v a b ha hb => by
    rcases keyIs_shape ha with ⟨i, t, rfl, rfl⟩ | ⟨x, t, rfl, rfl⟩
    · rcases keyIs_shape hb with ⟨j, u, rfl, e⟩ | ⟨y, u, rfl, e⟩
      · injection e with e1 _; rw [e1]
      · exact nomatch e
    · rcases keyIs_shape hb with ⟨j, u, rfl, e⟩ | ⟨y, u, rfl, e⟩
      · exact nomatch e
      · injection e with e1 _; rw [e1]
  byValue := fun k v h => by
    rcases keyIs_shape h with ⟨i, t, rfl, rfl⟩ | ⟨x, t, rfl, rfl⟩ <;> rfl
  pyHash := fun hv h => by
    rcases keyIs_shape hv with ⟨i, t, rfl, rfl⟩ | ⟨x, t, rfl, rfl⟩
    · exact wpAny_pyHash_int h
    · exact wpAny_pyHash_str h
  eqBool := fun hu hv h => by
    rcases keyIs_shape hu with ⟨i, t, rfl, rfl⟩ | ⟨x, t, rfl, rfl⟩
    · rcases keyIs_shape hv with ⟨j, u, rfl, rfl⟩ | ⟨y, u, rfl, rfl⟩
      · rw [key_ll] at h; exact wpAny_eqBool_int h
      · rw [key_lr] at h; exact SeqAt.EqAt.int_str i t y u _ _ _ _ h
    · rcases keyIs_shape hv with ⟨j, u, rfl, rfl⟩ | ⟨y, u, rfl, rfl⟩
      · rw [key_rl] at h; exact SeqAt.EqAt.str_int x t j u _ _ _ _ h
      · rw [key_rr] at h; exact wpAny_eqBool_str h
  «strs» := fun k x t v h => by
    rcases keyIs_shape h with ⟨i, u, rfl, e⟩ | ⟨y, u, rfl, e⟩
    · exact nomatch e
    · injection e with e1 _
      subst e1
      cases v <;> rfl
theorem mixKind_int (prog : Program) (w : World) (i : Int) (t : Tok) : (mixKind prog w).is (.inl i) (.int i t) = true := keyIs_int i t
theorem mixKind_str (prog : Program) (w : World) (x : Str) (t : Tok) : (mixKind prog w).is (.inr x) (.str x t) = true := keyIs_str x t
end L2
namespace L2
open PySem PySem.Spec PyProof.Rows
inductive V where
  | non | bl (b : Bool) | int (i : Int) | str (x : Str) | byt (b : Array UInt8) | flt (b : UInt64) | ref (a : Addr) | ty (n : String)
  deriving DecidableEq
def RelV : V → Value → Prop
  | .non, u => u = Value.none
  | .bl b, u => u = Value.bool b
  | .int i, u => ∃ t, u = Value.int i t
  | .str x, u => ∃ t, u = Value.str x t
  | .byt b, u => ∃ t, u = Value.bytes b t
  | .flt b, u => ∃ t, u = Value.float b t
  | .ref a, u => u = Value.ref a
  | .ty n, u => u = Value.type n
abbrev Vals : List V → List Value → Prop := Paired RelV
theorem Vals.length {xs : List V} {us : List Value} (r : Vals xs us) : xs.length = us.length := Paired.length r
theorem Vals.get : ∀ {xs : List V} {us : List Value} {i : Nat} {x : V}, Vals xs us → xs[i]? = some x → ∃ u, us[i]? = some u ∧ RelV x u
  | _, _, _, _, .nil, e => by simp at e
  | _, _, 0, _, .cons r _, e => by simp at e; subst e; exact ⟨_, rfl, r⟩
  | _, _, i + 1, x, .cons _ t, e => by
    obtain ⟨u, h1, h2⟩ := Vals.get (i := i) (x := x) t (by simpa using e)
    exact ⟨u, by simpa using h1, h2⟩
theorem Vals.set {x : V} {u : Value} (r : RelV x u) : ∀ {xs : List V} {us : List Value} (i : Nat), Vals xs us → Vals (xs.set i x) (us.set i u)
  | _, _, _, .nil => .nil
  | _, _, 0, .cons _ t => .cons r t
  | _, _, i + 1, .cons q t => .cons q (Vals.set r i t)
theorem Vals.append : ∀ {xs ys : List V} {us ws : List Value}, Vals xs us → Vals ys ws → Vals (xs ++ ys) (us ++ ws)
  | _, _, _, _, .nil, s => s
  | _, _, _, _, .cons r t, s => .cons r (Vals.append t s)
theorem Vals.take : ∀ {xs : List V} {us : List Value} (n : Nat), Vals xs us → Vals (xs.take n) (us.take n)
  | _, _, 0, _ => .nil
  | _, _, _ + 1, .nil => .nil
  | _, _, n + 1, .cons r t => .cons r (Vals.take n t)
theorem Vals.drop : ∀ {xs : List V} {us : List Value} (n : Nat), Vals xs us → Vals (xs.drop n) (us.drop n)
  | _, _, 0, r => r
  | _, _, _ + 1, .nil => .nil
  | _, _, n + 1, .cons _ t => Vals.drop n t
def RelO : Option V → Option Value → Prop
  | some v, some u => RelV v u
  | none, none => True
  | _, _ => False
def KV {κ : Type} : List (κ × V) → List (κ × Value) → Prop := Paired fun (p : κ × V) (q : κ × Value) => p.1 = q.1 ∧ RelV p.2 q.2
def kV : Key → V
  | .inl i => .int i
  | .inr x => .str x
inductive HO where
  /-- a list -/
  | lst (xs : List V)
  /-- a tuple (never changes) -/
  | tup (xs : List V)
  /-- a dict whose keys are ints and texts; one whose keys are tuples of ints and texts (the empty one is both) -/
  | dK (kvs : List (Key × V)) | dT (kvs : List (List Key × V))
  /-- a set of ints: its members, its size -/
  | set (S : Int → Bool) (n : Nat)
  /-- an instance of the class at C, its dict at dx, its attributes -/
  | ins (C dx : Addr) (fs : List (Str × V))
  /-- the dict of the instance at x -/
  | own (x : Addr)
  /-- the dict of an exception -/
  | xd (fs : List (Str × V))
  /-- a bound method, f of x -/
  | met (f x : Addr)
  /-- a range object lo, lo + 1, .. below hi -/
  | rng (lo hi : Int)
  /-- a thing that is known to the object (the script; a dict while a loop walks it): read, never written while it is so -/
  | frz (o : Obj) (u : HO)
  /-- a code object's table -/
  | tbl (ps : Array Value)
  /-- any other thing, by what is true of its one object (a def of one's own: SetO a S n := HO.ext fun h => ..) -/
  | ext (φ : Heap → Prop)
abbrev Hp := Addr → Option HO
def upd (H : Hp) (a : Addr) (o : HO) : Hp := fun b => if b = a then some o else H b
theorem upd_same {H : Hp} {a : Addr} {o : HO} : upd H a o a = some o := by unfold upd; rw [if_pos rfl]
theorem upd_ne {H : Hp} {a b : Addr} {o : HO} (h : b ≠ a) : upd H a o b = H b := by unfold upd; rw [if_neg h]
theorem ne_of {H : Hp} {a b : Addr} {o u : HO} (h : H a = some o) (h' : H b = some u) (d : o ≠ u) : a ≠ b := by
  intro e; subst e; rw [h] at h'; exact d (Option.some.inj h')
theorem ne_of_none {H : Hp} {a b : Addr} {o : HO} (h : H a = some o) (h' : H b = none) : a ≠ b := by
  intro e; subst e; rw [h] at h'; cases h'
section
variable (P : Program) (w : World)
def ObjOk (H : Hp) (h : Heap) (a : Addr) : HO → Prop
  | .lst xs => xs.length ≤ sizeLine ∧ ∃ (its : List Value) (n : Nat), Vals xs its ∧ h.get? a = some { cls := .type "list", data := .seq its.toArray n }
  | .tup xs => xs.length ≤ sizeLine ∧ ∃ its : List Value, Vals xs its ∧ IsTup h a its.toArray
  | .dK kvs => kvs.length ≤ sizeLine ∧ (a == sysModules) = false ∧ ∃ vs, KV kvs vs ∧ h.DictOf (mixKind P w) a vs
  | .dT kvs => kvs.length ≤ sizeLine ∧ (a == sysModules) = false ∧ ∃ xs : List (List Key × Addr × Value),
      Paired (fun (p : List Key × V) (q : List Key × Addr × Value) => p.1 = q.1 ∧ H q.2.1 = some (.tup (p.1.map kV)) ∧ RelV p.2 q.2.2) kvs xs ∧
      ∃ o es ep, h.get? a = some o ∧ o.ExactDict ∧ o.data = .dict es ep ∧ es.toList = xs.map (entryOfKey (tupleKind (mixKind P w))) ∧ (xs.map (·.1)).Nodup
  | .set S n => h.SetOf (intKind P w) a S n
  | .ins C dx fs => H dx = some (.own a) ∧ fs.length ≤ 1000 ∧ dx ≠ a ∧ h.get? a = some (PySem.W.instObj C dx) ∧
      ∃ mA, h.Ns1 dx mA ∧ (∀ f, RelO (fs.lookup f) (mA f)) ∧ PySem.Within mA (fs.map (·.1))
  | .own _ => ∃ o, h.get? a = some o
  | .xd fs => ∃ mA, h.Ns1 a mA ∧ ∀ f, RelO (fs.lookup f) (mA f)
  | .rng lo hi => ∃ t u v, h.get? a = some { cls := .type "range", data := .fields #[.int lo t, .int hi u, .int 1 v] }
  | .frz o u => h.get? a = some o ∧ ObjOk H h a u
  | .tbl ps => h.get? a = some { cls := .none, data := .fields ps }
  | .met f x => h.get? a = some (PySem.W.methodObj (.ref f) (.ref x))
  | .ext φ => φ h ∧ (∃ o, h.get? a = some o) ∧ ∀ h1 h2 : Heap, φ h1 → (∀ o, h1.get? a = some o → h2.get? a = some o) → φ h2
def HOk (H : Hp) (h : Heap) : Prop := ∀ a o, H a = some o → ObjOk P w H h a o
end
section
variable {P : Program} {w : World} {H H' : Hp} {h h' : Heap} {a : Addr} {o : HO}
theorem ObjOk.lt (x : ObjOk P w H h a o) : a < h.objs.size := by
  cases o with
  | lst xs => obtain ⟨_, _, _, _, e⟩ := x; exact Heap.lt_size e
  | tup xs => obtain ⟨_, _, _, p⟩ := x; exact p.lt
  | dK kvs => obtain ⟨_, _, _, _, o, _, _, e, _⟩ := x; exact Heap.lt_size e
  | dT kvs => obtain ⟨_, _, _, _, o, _, _, e, _⟩ := x; exact Heap.lt_size e
  | set S n => obtain ⟨o, _, _, _, e, _⟩ := x; exact Heap.lt_size e
  | ins C dx fs => obtain ⟨_, _, _, e, _⟩ := x; exact Heap.lt_size e
  | own y => obtain ⟨_, e⟩ := x; exact Heap.lt_size e
  | xd fs => obtain ⟨_, ⟨_, _, _, e, _⟩, _⟩ := x; exact Heap.lt_size e
  | rng lo hi => obtain ⟨_, _, _, e⟩ := x; exact Heap.lt_size e
  | frz ob u => obtain ⟨e, _⟩ := x; exact Heap.lt_size e
  | tbl ps => exact Heap.lt_size (show h.get? a = some _ from x)
  | met f y => exact Heap.lt_size (show h.get? a = some _ from x)
  | ext φ => obtain ⟨_, ⟨_, e⟩, _⟩ := x; exact Heap.lt_size e
theorem Paired.mapP {α β : Type} {F G : α → β → Prop} : ∀ {l₁ : List α} {l₂ : List β}, Paired F l₁ l₂ → (∀ a b, F a b → G a b) → Paired G l₁ l₂
  | _, _, .nil, _ => .nil
  | _, _, .cons r t, f => .cons (f _ _ r) (Paired.mapP t f)
theorem ObjOk.stay (x : ObjOk P w H h a o) (k : ∀ b u, (b = a ∨ H b = some (.own a)) → h.get? b = some u → h'.get? b = some u)
    (ho : ∀ b, H b = some (.own a) → H' b = some (.own a)) (ht : ∀ b xs, H b = some (.tup xs) → H' b = some (.tup xs)) : ObjOk P w H' h' a o := by
  induction o with
  | lst xs => obtain ⟨z, its, n, r, e⟩ := x; exact ⟨z, its, n, r, k _ _ (.inl rfl) e⟩
  | tup xs => obtain ⟨z, its, r, ob, e, c⟩ := x; exact ⟨z, its, r, ob, k _ _ (.inl rfl) e, c⟩
  | dK kvs => obtain ⟨z, y, vs, r, ob, es, ep, e, c⟩ := x; exact ⟨z, y, vs, r, ob, es, ep, k _ _ (.inl rfl) e, c⟩
  | dT kvs =>
    refine L2.goal_let ?_
    intro q_
    obtain ⟨z, y, xs, r, ob, es, ep, e, c⟩ := x
    dsimp only [q_]
    clear q_
    exact ⟨z, y, xs, Paired.mapP r fun p q z => ⟨z.1, ht _ _ z.2.1, z.2.2⟩, ob, es, ep, k _ _ (.inl rfl) e, c⟩
  | set S n => obtain ⟨ob, es, ep, t, e, c⟩ := x; exact ⟨ob, es, ep, t, k _ _ (.inl rfl) e, c⟩
  | ins C dx fs =>
    refine L2.goal_let ?_
    intro q_
    obtain ⟨d, z, ne, e, mA, ⟨od, es, ep, e2, c⟩, r⟩ := x
    dsimp only [q_]
    clear q_
    exact ⟨ho _ d, z, ne, k _ _ (.inl rfl) e, mA, ⟨od, es, ep, k _ _ (.inr d) e2, c⟩, r⟩
  | own y => obtain ⟨ob, e⟩ := x; exact ⟨ob, k _ _ (.inl rfl) e⟩
  | xd fs => obtain ⟨mA, ⟨od, es, ep, e, c⟩, r⟩ := x; exact ⟨mA, ⟨od, es, ep, k _ _ (.inl rfl) e, c⟩, r⟩
  | rng lo hi => obtain ⟨t, u, v, e⟩ := x; exact ⟨t, u, v, k _ _ (.inl rfl) e⟩
  | frz ob u ih => obtain ⟨e, q⟩ := x; exact ⟨k _ _ (.inl rfl) e, ih q⟩
  | tbl ps =>
    have e : h.get? a = some { cls := .none, data := .fields ps } := x
    show h'.get? a = some { cls := .none, data := .fields ps }
    exact k a _ (.inl rfl) e
  | met f y =>
    have e : h.get? a = some (PySem.W.methodObj (.ref f) (.ref y)) := x
    show h'.get? a = some (PySem.W.methodObj (.ref f) (.ref y))
    exact k a _ (.inl rfl) e
  | ext φ => obtain ⟨p, ⟨o, e⟩, st⟩ := x; exact ⟨st _ _ p fun o q => k _ _ (.inl rfl) q, ⟨o, k _ _ (.inl rfl) e⟩, st⟩
theorem HOk.lt (x : HOk P w H h) (e : H a = some o) : a < h.objs.size := (x a o e).lt
theorem HOk.fresh (x : HOk P w H h) (e : h.objs.size ≤ a) : H a = none := by
  cases q : H a with
  | none => rfl
  | some u => exact absurd (Nat.lt_of_lt_of_le (x.lt q) e) (Nat.lt_irrefl _)
theorem HOk.kept (x : HOk P w H h) (k : ∀ b u, h.get? b = some u → h'.get? b = some u) : HOk P w H h' := fun a o e =>
  (x a o e).stay (fun b u _ q => k b u q) (fun _ q => q) fun _ _ q => q
theorem HOk.laid (x : HOk P w H h) (k : ∀ b u, h.get? b = some u → h'.get? b = some u) (hp : h.objs.size ≤ a) (new : ObjOk P w (upd H a o) h' a o) : HOk P w (upd H a o) h' := fun b u e => by
  have hn := x.fresh hp
  by_cases hb : b = a
  · subst hb; rw [upd_same] at e; cases e; exact new
  · rw [upd_ne hb] at e
    exact (x b u e).stay (fun c v _ q => k c v q) (fun c q => by rw [upd_ne (ne_of_none q hn)]; exact q) fun c xs q => by rw [upd_ne (ne_of_none q hn)]; exact q
end
def Rd (H : Hp) (a : Addr) (u : HO) : Prop := H a = some u ∨ ∃ o, H a = some (.frz o u)
theorem Rd.ok {P : Program} {w : World} {H : Hp} {h : Heap} {a : Addr} {u : HO} (r : Rd H a u) (x : HOk P w H h) : ObjOk P w H h a u := by
  rcases r with r | ⟨o, r⟩
  · exact x a u r
  · obtain ⟨_, q⟩ := x a _ r
    exact q
def Mut : Option HO → Prop
  | some (.lst _) => True
  | some (.dK _) => True
  | some (.dT _) => True
  | some (.set _ _) => True
  | some (.ins _ _ _) => True
  | some (.ext _) => True
  | _ => False
section
variable {P : Program} {w : World} {H : Hp} {h h' : Heap} {x e : Addr} {o' : HO}
theorem HOk.write (ok : HOk P w H h) (mu : Mut (H x)) (he : e = x ∨ H e = some (.own x)) (k : ∀ b u, b ≠ e → h.get? b = some u → h'.get? b = some u) (heo : ∃ u, h'.get? e = some u)
    (new : ObjOk P w (upd H x o') h' x o') : HOk P w (upd H x o') h' := fun b u q => by
  have nown : ∀ c y, H c = some (.own y) → c ≠ x := fun c y r z => by subst z; rw [r] at mu; exact mu
  have ntup : ∀ c xs, H c = some (.tup xs) → c ≠ x := fun c xs r z => by subst z; rw [r] at mu; exact mu
  by_cases hb : b = x
  · subst hb; rw [upd_same] at q; cases q; exact new
  · rw [upd_ne hb] at q
    by_cases hbe : b = e
    · have q' : H b = some (.own x) := by
        rcases he with z | z
        · exact absurd (hbe.trans z) hb
        · rw [hbe]; exact z
      rw [q] at q'; cases q'
      obtain ⟨v, hv⟩ := heo
      exact ⟨v, by rw [hbe]; exact hv⟩
    · refine (ok b u q).stay (fun c v hc r => k c v ?_ r) (fun c r => by rw [upd_ne (nown c b r)]; exact r) fun c xs r => by rw [upd_ne (ntup c xs r)]; exact r
      rcases hc with rfl | hc
      · exact hbe
      · rintro rfl
        rcases he with z | z
        · exact nown c b hc z
        · rw [hc] at z; cases z; exact hb rfl
end
structure Un (fs ex : List Addr) (H H' : Hp) (h h' : Heap) : Prop where
  keep : ∀ b o, h.get? b = some o → H b = none → b ∉ fs → b ∉ ex → h'.get? b = some o
  slot : ∀ b o, h.get? b = some o → H b = none → b ∈ fs → b ∉ ex → ∃ sl, h'.get? b = some { o with slots := sl }
  free : ∀ b o, h.get? b = some o → H b = none → b ∉ ex → H' b = none
  there : ∀ b o, h.get? b = some o → b ∉ ex → ∃ o', h'.get? b = some o'
  tups : ∀ b xs, H b = some (.tup xs) → H' b = some (.tup xs)
  frzs : ∀ b o u, H b = some (.frz o u) → H' b = some (.frz o u)
  tbls : ∀ b ps, H b = some (.tbl ps) → ∃ more, H' b = some (.tbl (ps ++ more))
section
variable {fs fs' ex ex' : List Addr} {H H1 H2 : Hp} {h h1 h2 h' : Heap} {a x e : Addr} {o : HO}
theorem Un.any (u : Un fs ex H H1 h h1) {b : Addr} {ob : Obj} (q : h.get? b = some ob) (n : H b = none) (hx : b ∉ ex) : ∃ sl, h1.get? b = some { ob with slots := sl } := by
  by_cases hb : b ∈ fs
  · exact u.slot b ob q n hb hx
  · exact ⟨ob.slots, u.keep b ob q n hb hx⟩
theorem Un.kept (k : ∀ b u, h.get? b = some u → h'.get? b = some u) : Un fs ex H H h h' :=
  ⟨fun b ob q _ _ _ => k b ob q, fun b ob q _ _ _ => ⟨ob.slots, k b ob q⟩, fun _ _ _ n _ => n, fun b ob q _ => ⟨ob, k b ob q⟩, fun _ _ q => q, fun _ _ _ q => q, fun _ ps q => ⟨#[], by rw [q]; simp⟩⟩
theorem Un.refl : Un fs ex H H h h := Un.kept fun _ _ q => q
theorem Un.laid (k : ∀ b u, h.get? b = some u → h'.get? b = some u) (hp : h.objs.size ≤ a) (hn : H a = none) : Un fs ex H (upd H a o) h h' where
  keep := fun b u q _ _ _ => k b u q
  slot := fun b u q _ _ _ => ⟨u.slots, k b u q⟩
  free := fun b u q n _ => by rw [upd_ne (Nat.ne_of_lt (Nat.lt_of_lt_of_le (Heap.lt_size q) hp))]; exact n
  there := fun b u q _ => ⟨u, k b u q⟩
  tups := fun b xs q => by rw [upd_ne (ne_of_none q hn)]; exact q
  frzs := fun b u xs q => by rw [upd_ne (ne_of_none q hn)]; exact q
  tbls := fun b ps q => ⟨#[], by rw [upd_ne (ne_of_none q hn), q]; simp⟩
theorem Un.write (mu : Mut (H x)) (he : e = x ∨ H e = some (.own x)) (k : ∀ b u, b ≠ e → h.get? b = some u → h'.get? b = some u) (heo : ∃ u, h'.get? e = some u) : Un fs ex H (upd H x o) h h' := by
  have hx : ∀ b, H b = none → b ≠ x := fun b n z => by subst z; rw [n] at mu; exact mu
  have hb : ∀ b, H b = none → b ≠ e := fun b n z => by
    subst z
    rcases he with r | r
    · exact hx b n r
    · rw [n] at r; cases r
  have hm : ∀ b u, H b = some u → ¬ Mut (some u) → b ≠ x := fun b u q nm z => by subst z; rw [q] at mu; exact nm mu
  refine ⟨fun b u q n _ _ => k b u (hb b n) q, fun b u q n _ _ => ⟨u.slots, k b u (hb b n) q⟩, fun b u q n _ => by rw [upd_ne (hx b n)]; exact n, fun b u q _ => ?_,
    fun b xs q => by rw [upd_ne (hm b _ q fun z => z)]; exact q, fun b u xs q => by rw [upd_ne (hm b _ q fun z => z)]; exact q, fun b ps q => ⟨#[], by rw [upd_ne (hm b _ q fun z => z), q]; simp⟩⟩
  by_cases hbe : b = e
  · subst hbe; exact heo
  · exact ⟨u, k b u hbe q⟩
end
def trk (h : Heap) (H : Hp) : List Addr := (List.range h.objs.size).filter fun a => (H a).isSome
def hidT (h : Heap) (H : Hp) : Heap := PySem.W.hideAll h (trk h H)
theorem hidT_size (h : Heap) (H : Hp) : (hidT h H).objs.size = h.objs.size := PySem.W.hideAll_size _ _
theorem hidT_get {h : Heap} {H : Hp} {b : Addr} {o : Obj} (e : h.get? b = some o) (n : H b = none) : (hidT h H).get? b = some o :=
  PySem.W.hideAll_get _ e fun hm => by
    have q : (H b).isSome = true := (List.mem_filter.mp hm).2
    rw [n] at q; simp at q
theorem of_hidT {h : Heap} {H : Hp} {b : Addr} {o : Obj} (e : (hidT h H).get? b = some o) : h.get? b = some o ∧ H b = none := by
  have e' : h.get? b = some o := PySem.W.of_hideAll (trk h H) e
  refine ⟨e', ?_⟩
  cases q : H b with
  | none => rfl
  | some x =>
    have hm : b ∈ trk h H := List.mem_filter.mpr ⟨List.mem_range.mpr (Heap.lt_size e'), by simp [q]⟩
    have z : (hidT h H).get? b = none := PySem.W.hideAll_none (trk h H) hm
    rw [z] at e; cases e
def allNews (g h : Heap) (L : Addr) : List (Addr × Obj) := (List.range h.objs.size).filterMap fun a => if a = L ∨ (g.get? a).isSome = true then none else (h.get? a).map fun o => (a, o)
def rest (g h : Heap) (L d : Addr) : List (Addr × Obj) := (allNews g h L).filter fun p => decide (p.1 ≠ d)
end L2
namespace L2
open PySem PySem.Spec PyProof.Rows
structure Mod (K : PySem.W.Frag) (mg : Str → Option Value) (base : Heap) : Prop where
  kin : K.In base
  glob : base.Ns mainGlobals mg
  blt : ∃ mb, base.Ns builtinsNs mb ∧ ∀ x : Str, x ≠ "__name__" → mb x = bootBuiltins x
  nolimit : base.NoLimit
structure Cx where
  prog : Program
  w : World
  K : PySem.W.Frag
  mg : Str → Option Value
  base : Heap
  A : Around
  N : List Str
  s₀ : Shared
  H₀ : Hp
  env : Env
  outer : List Env
  stack : List Env
  ex : List Addr
  fn : Str → Bool
  calm : Bool
  pn : List (Addr × Obj)
  xe : Value → Shared → Prop
def frs (l : List Env) : List Addr := l.filterMap (·.frame)
abbrev Cx.fs (X : Cx) : List Addr := frs X.outer
def Vis (sc : Scope) (x : Str) : Prop := sc.names.lookup x = some .local ∨ sc.names.lookup x = some .cell ∨ sc.names.lookup x = some .free
def Loc (sc : Scope) (x : Str) : Prop := sc.names.lookup x = some .local ∨ sc.names.lookup x = some .cell
def Look (env : Env) (h : Heap) (m : Str → Option Value) (x : Str) (u : Value) : Prop :=
  (env.kindOf x = some .local ∧ m x = some u) ∨ ((env.kindOf x = some .cell ∨ env.kindOf x = some .free) ∧ ∃ c, env.cells.lookup x = some c ∧ h.IsCell c (some u))
structure Cx.Ok (X : Cx) : Prop where
  mod : Mod X.K X.mg X.base
  kind : X.env.scope.kind = .function
  glob : X.env.globals = mainGlobals
  blt : X.env.builtins = builtinsNs
  above : X.s₀.heap.objs.size ≤ X.env.locals
  inj : ∀ x y c, X.env.cells.lookup x = some c → X.env.cells.lookup y = some c → x = y
  has : ∀ x, (X.env.kindOf x = some .cell ∨ X.env.kindOf x = some .free) → ∃ c, X.env.cells.lookup x = some c
  cab : ∀ x c, X.fn x = true → X.env.cells.lookup x = some c → X.s₀.heap.objs.size ≤ c
  hd : X.calm = true → X.A.handled = none
  frames : X.A.frames = some X.stack
  stk : X.stack = X.outer ∨ (X.stack = X.env :: X.outer ∧ X.env.frame = some X.env.locals)
  exf : ∀ b ∈ X.ex, b ≠ X.env.locals ∧ ∀ x c, X.env.cells.lookup x = some c → c ≠ b
  bs : ∀ b o, X.base.get? b = some o → X.s₀.heap.get? b = some o ∧ X.H₀ b = none
  bsz : X.base.objs.size ≤ X.s₀.heap.objs.size
  noex : ∀ b o, X.base.get? b = some o → b ∉ X.ex
  exfs : ∀ b ∈ X.ex, b ∉ X.fs
  funs : X.s₀.heap.FunFrames X.base X.outer
  frf : ∀ b ∈ X.fs, X.H₀ b = none
structure Inv (X : Cx) (pins : List (Addr × Obj)) (σ : List (Option V)) (H : Hp) (s : Shared) : Prop where
  ok : X.Ok
  os : s.os = X.s₀.os
  bare : AllBare s.gens
  base : Un X.fs X.ex X.H₀ H X.s₀.heap s.heap
  loc : ∃ m, s.heap.Ns X.env.locals m ∧ ∀ (i : Nat) (x : Str) (v : V), X.N[i]? = some x → σ[i]? = some (some v) → Vis X.env.scope x → ∃ u, RelV v u ∧ Look X.env s.heap m x u
  cell : ∀ x c, X.env.cells.lookup x = some c → ∃ v, s.heap.IsCell c v
  free : H X.env.locals = none
  freeC : ∀ x c, X.env.cells.lookup x = some c → H c = none
  pin : ∀ p ∈ X.pn ++ pins, s.heap.get? p.1 = some p.2 ∧ H p.1 = none ∧ p.1 ≠ X.env.locals ∧ p.1 ∉ X.fs ∧ ∀ v, p.2.data ≠ .cell v
  hok : HOk X.prog X.w H s.heap
  len : σ.length = X.N.length
section
variable {X : Cx} {pins : List (Addr × Obj)} {σ : List (Option V)} {H H' : Hp} {s : Shared} {h' : Heap}
theorem Cx.Ok.nofr (ok : X.Ok) {b : Addr} {o : Obj} (e : X.base.get? b = some o) : b ∉ X.fs := fun hb => by
  have := (ok.funs.mem hb).1
  rw [e] at this; cases this
theorem Inv.bs (I : Inv X pins σ H s) : ∀ b o, X.base.get? b = some o → s.heap.get? b = some o ∧ H b = none := fun b o e =>
  ⟨I.base.keep b o (I.ok.bs b o e).1 (I.ok.bs b o e).2 (I.ok.nofr e) (I.ok.noex b o e), I.base.free b o (I.ok.bs b o e).1 (I.ok.bs b o e).2 (I.ok.noex b o e)⟩
theorem Inv.bk (I : Inv X pins σ H s) : ∀ b o, X.base.get? b = some o → s.heap.get? b = some o := fun b o e => (I.bs b o e).1
theorem Inv.mod (I : Inv X pins σ H s) : Mod X.K X.mg X.base := I.ok.mod
theorem Inv.kIn (I : Inv X pins σ H s) : X.K.In s.heap := I.ok.mod.kin.keeps I.bk
theorem Inv.lt (I : Inv X pins σ H s) : X.env.locals < s.heap.objs.size := let ⟨_, hn, _⟩ := I.loc; hn.lt
theorem Inv.sz (I : Inv X pins σ H s) : X.s₀.heap.objs.size ≤ s.heap.objs.size := Nat.le_trans I.ok.above (Nat.le_of_lt I.lt)
theorem Inv.nofs (I : Inv X pins σ H s) {a : Addr} (h : s.heap.objs.size ≤ a) : a ∉ X.fs := fun hb => by
  obtain ⟨_, o, ho, _⟩ := I.ok.funs.mem hb
  exact absurd (Nat.lt_of_lt_of_le (Heap.lt_size ho) (Nat.le_trans I.sz h)) (Nat.lt_irrefl _)
theorem Inv.cne (I : Inv X pins σ H s) : ∀ x c, X.env.cells.lookup x = some c → c ≠ X.env.locals := fun x c e z => by
  obtain ⟨v, o, ho, hd⟩ := I.cell x c e
  obtain ⟨m, ⟨o', es, ep, ho', hd', _⟩, _⟩ := I.loc
  rw [z, ho'] at ho; cases ho; rw [hd'] at hd; cases hd
theorem Inv.funs (I : Inv X pins σ H s) : s.heap.FunFrames X.base X.outer := by
  have all : ∀ (l : List Env), (∀ b ∈ frs l, b ∈ X.fs) → X.s₀.heap.FunFrames X.base l → s.heap.FunFrames X.base l := by
    intro l
    induction l with
    | nil => intro _ _; trivial
    | cons env r ih =>
      intro hs hl
      refine L2.goal_let ?_
      intro q_
      obtain ⟨hk, ⟨L, o, hf, hn, ho, hd⟩, hr⟩ := hl
      dsimp only [q_]
      clear q_
      have hL : L ∈ X.fs := hs L (by unfold frs; rw [List.filterMap_cons, hf]; exact List.mem_cons_self)
      obtain ⟨sl, e⟩ := I.base.slot L o ho (I.ok.frf L hL) hL fun z => I.ok.exfs L z hL
      exact ⟨hk, ⟨L, _, hf, hn, e, hd⟩, ih (fun b hb => hs b (by unfold frs; rw [List.filterMap_cons, hf]; exact List.mem_cons_of_mem _ hb)) hr⟩
  exact all X.outer (fun _ hb => hb) I.ok.funs
theorem Inv.stack (I : Inv X pins σ H s) : s.heap.FunFrames X.base X.stack := by
  rcases I.ok.stk with e | ⟨e, hf⟩
  · rw [e]; exact I.funs
  · rw [e]
    obtain ⟨m, hn, _⟩ := I.loc
    refine .cons (by rw [I.ok.kind]; decide) hf hn ?_ I.funs
    exact Heap.get?_none_of_le (Nat.le_trans I.ok.bsz I.ok.above)
theorem Inv.stkSub (I : Inv X pins σ H s) : ∀ b ∈ frs X.stack, b ∈ X.env.locals :: X.fs := fun b hb => by
  rcases I.ok.stk with e | ⟨e, hf⟩
  · rw [e] at hb; exact List.mem_cons_of_mem _ hb
  · rw [e] at hb
    unfold frs at hb
    rw [List.filterMap_cons, hf] at hb
    exact hb
theorem Inv.stkFree (I : Inv X pins σ H s) : ∀ b ∈ frs X.stack, H b = none := fun b hb => by
  rcases List.mem_cons.mp (I.stkSub b hb) with e | hb
  · rw [e]; exact I.free
  · obtain ⟨_, o, ho, _⟩ := I.ok.funs.mem hb
    exact I.base.free b o ho (I.ok.frf b hb) fun z => I.ok.exfs b z hb
theorem Inv.step {g' : Array GenState} {t' : Nat} {d' : Drawn} {ch : List Addr} (I : Inv X pins σ H s)
    (hch : ∀ b ∈ ch, (b ∈ X.ex ∨ X.s₀.heap.objs.size ≤ b) ∧ b ≠ X.env.locals ∧ (∀ x c, X.env.cells.lookup x = some c → c ≠ b) ∧ ∀ p ∈ X.pn ++ pins, p.1 ≠ b)
    (keep : ∀ b o, b ≠ X.env.locals → b ∉ X.fs → b ∉ ch → s.heap.get? b = some o → H b = none → h'.get? b = some o)
    (slot : ∀ b o, b ≠ X.env.locals → b ∈ X.fs → b ∉ ch → s.heap.get? b = some o → H b = none → ∃ sl, h'.get? b = some { o with slots := sl }) (free : ∀ b o, b ∉ ch → s.heap.get? b = some o → H b = none → H' b = none)
    (there : ∀ b o, b ∉ ch → s.heap.get? b = some o → ∃ o', h'.get? b = some o')
    (tups : ∀ b xs, H b = some (.tup xs) → H' b = some (.tup xs)) (frzs : ∀ b o u, H b = some (.frz o u) → H' b = some (.frz o u)) (tbls : ∀ b ps, H b = some (.tbl ps) → ∃ more, H' b = some (.tbl (ps ++ more)))
    (ns : ∀ m, s.heap.Ns X.env.locals m → h'.Ns X.env.locals m) (hok : HOk X.prog X.w H' h') (hg : AllBare g') :
    Inv X pins σ H' { s with heap := h', gens := g', drawn := d', toks := t' } := by
  have neL : ∀ b o, X.s₀.heap.get? b = some o → b ≠ X.env.locals := fun b o e => Nat.ne_of_lt (Nat.lt_of_lt_of_le (Heap.lt_size e) I.ok.above)
  have neC : ∀ b o, X.s₀.heap.get? b = some o → b ∉ X.ex → b ∉ ch := fun b o e hx hb => by
    rcases (hch b hb).1 with z | z
    · exact hx z
    · exact absurd (Nat.lt_of_lt_of_le (Heap.lt_size e) z) (Nat.lt_irrefl _)
  have cellK : ∀ x c, X.env.cells.lookup x = some c → ∀ v, s.heap.IsCell c v → h'.IsCell c v := fun x c e v ⟨o, ho, hd⟩ => by
    have nch : c ∉ ch := fun z => (hch c z).2.2.1 x c e rfl
    by_cases hc : c ∈ X.fs
    · obtain ⟨sl, q⟩ := slot c o (I.cne x c e) hc nch ho (I.freeC x c e)
      exact ⟨_, q, hd⟩
    · exact ⟨o, keep c o (I.cne x c e) hc nch ho (I.freeC x c e), hd⟩
  refine ⟨I.ok, I.os, hg, ⟨fun b o e n hb hx => ?_, fun b o e n hb hx => ?_, fun b o e n hx => ?_, fun b o e hx => ?_, fun b xs e => tups b xs (I.base.tups b xs e), fun b o xs e => frzs b o xs (I.base.frzs b o xs e), fun b ps e => ?_⟩, ?_, fun x c e => ?_, ?_, fun x c e => ?_, fun p hp => ?_, hok, I.len⟩
  · exact keep b o (neL b o e) hb (neC b o e hx) (I.base.keep b o e n hb hx) (I.base.free b o e n hx)
  · obtain ⟨sl, e1⟩ := I.base.slot b o e n hb hx
    obtain ⟨sl', e2⟩ := slot b _ (neL b o e) hb (neC b o e hx) e1 (I.base.free b o e n hx)
    exact ⟨sl', e2⟩
  · obtain ⟨o', e1⟩ := I.base.there b o e hx
    exact free b o' (neC b o e hx) e1 (I.base.free b o e n hx)
  · obtain ⟨o', e1⟩ := I.base.there b o e hx
    exact there b o' (neC b o e hx) e1
  · obtain ⟨m1, e1⟩ := I.base.tbls b ps e
    obtain ⟨m2, e2⟩ := tbls b _ e1
    exact ⟨m1 ++ m2, by rw [e2, Array.append_assoc]⟩
  · obtain ⟨m, hn, hl⟩ := I.loc
    refine ⟨m, ns m hn, fun i x v e1 e2 e3 => ?_⟩
    obtain ⟨u, r, l⟩ := hl i x v e1 e2 e3
    refine ⟨u, r, ?_⟩
    rcases l with l | ⟨k, c, e, z⟩
    · exact .inl l
    · exact .inr ⟨k, c, e, cellK x c e _ z⟩
  · obtain ⟨v, z⟩ := I.cell x c e
    exact ⟨v, cellK x c e v z⟩
  · obtain ⟨m, ⟨o, _, _, ho, _⟩, _⟩ := I.loc
    exact free _ o (fun z => (hch _ z).2.1 rfl) ho I.free
  · obtain ⟨v, o, ho, hd⟩ := I.cell x c e
    exact free c o (fun z => (hch c z).2.2.1 x c e rfl) ho (I.freeC x c e)
  · obtain ⟨e, n, ne, nf, d⟩ := I.pin p hp
    have nch : p.1 ∉ ch := fun z => (hch p.1 z).2.2.2 p hp rfl
    exact ⟨keep p.1 p.2 ne nf nch e n, free p.1 p.2 nch e n, ne, nf, d⟩
theorem Inv.un {t' : Nat} (I : Inv X pins σ H s) (u : Un X.fs [] H H' s.heap h') (hok : HOk X.prog X.w H' h') : Inv X pins σ H' { s with heap := h', toks := t' } := by
  obtain ⟨m, ⟨o, es, ep, ho, r⟩, _⟩ := id I.loc
  obtain ⟨sl, hL⟩ := u.any ho I.free (by simp)
  exact I.step (g' := s.gens) (d' := s.drawn) (ch := []) (fun _ z => nomatch z) (fun b o _ hb _ e n => u.keep b o e n hb (by simp)) (fun b o _ hb _ e n => u.slot b o e n hb (by simp)) (fun b o _ e n => u.free b o e n (by simp)) (fun b o _ e => u.there b o e (by simp)) u.tups u.frzs u.tbls (fun m' hm => by
    refine L2.goal_let ?_
    intro q_
    obtain ⟨o', es', ep', ho', r'⟩ := hm
    dsimp only [q_]
    clear q_
    rw [ho] at ho'; cases ho'
    exact ⟨_, es', ep', hL, r'⟩) hok I.bare
theorem Inv.call {g' : Array GenState} {t' : Nat} {d' : Drawn} {ch : List Addr} (I : Inv X pins σ H s) (u : Un (frs X.stack) ch H H' s.heap h') (hok : HOk X.prog X.w H' h') (hg : AllBare g')
    (hch : ∀ b ∈ ch, (b ∈ X.ex ∨ X.s₀.heap.objs.size ≤ b) ∧ b ≠ X.env.locals ∧ (∀ x c, X.env.cells.lookup x = some c → c ≠ b) ∧ ∀ p ∈ X.pn ++ pins, p.1 ≠ b) :
    Inv X pins σ H' { s with heap := h', gens := g', drawn := d', toks := t' } := by
  obtain ⟨m, ⟨o, es, ep, ho, r⟩, _⟩ := id I.loc
  obtain ⟨sl, hL⟩ := u.any ho I.free fun z => (hch _ z).2.1 rfl
  exact I.step (ch := ch) hch (fun b o hL hb hc e n => u.keep b o e n (fun z => (List.mem_cons.mp (I.stkSub b z)).elim hL hb) hc) (fun b o _ _ hc e n => u.any e n hc) (fun b o hc e n => u.free b o e n hc) (fun b o hc e => u.there b o e hc) u.tups u.frzs u.tbls (fun m' hm => by
    refine L2.goal_let ?_
    intro q_
    obtain ⟨o', es', ep', ho', r'⟩ := hm
    dsimp only [q_]
    clear q_
    rw [ho] at ho'; cases ho'
    exact ⟨_, es', ep', hL, r'⟩) hok hg
theorem Inv.turned {t' : Nat} {it : Addr} (I : Inv X pins σ H s) (k : ∀ b o, b ≠ it → s.heap.get? b = some o → h'.get? b = some o) (hn : H it = none) (hL : it ≠ X.env.locals)
    (h1 : it ∈ X.ex ∨ X.s₀.heap.objs.size ≤ it) (h2 : ∀ x c, X.env.cells.lookup x = some c → c ≠ it) (h3 : ∀ p ∈ X.pn ++ pins, p.1 ≠ it) : Inv X pins σ H { s with heap := h', toks := t' } := by
  have nit : ∀ b u, H b = some u → b ≠ it := fun b u e z => by rw [z, hn] at e; cases e
  refine I.step (g' := s.gens) (d' := s.drawn) (ch := [it]) (fun b hb => ?_) (fun b o _ _ hc e _ => k b o (fun z => hc (by simp [z])) e) (fun b o _ _ hc e _ => ⟨o.slots, k b o (fun z => hc (by simp [z])) e⟩) (fun _ _ _ _ n => n)
    (fun b o hc e => ⟨o, k b o (fun z => hc (by simp [z])) e⟩) (fun _ _ e => e) (fun _ _ _ e => e) (fun b ps e => ⟨#[], by rw [e]; simp⟩) (fun m hm => ?_) (fun b u e => ?_) I.bare
  · have e : b = it := by simpa using hb
    subst e
    exact ⟨h1, hL, h2, h3⟩
  · refine L2.goal_let ?_
    intro q_
    obtain ⟨o, es, ep, ho, r⟩ := hm
    dsimp only [q_]
    clear q_
    exact ⟨o, es, ep, k _ o (Ne.symm hL) ho, r⟩
  · refine (I.hok b u e).stay (fun c v hc q => k c v ?_ q) (fun _ q => q) fun _ _ q => q
    rcases hc with z | z
    · rw [z]; exact nit b u e
    · exact nit c _ z
theorem Inv.tok (I : Inv X pins σ H s) (t : Nat) : Inv X pins σ H { s with toks := t } := I.un (h' := s.heap) (t' := t) Un.refl I.hok
theorem Inv.kept {t' : Nat} (I : Inv X pins σ H s) (k : ∀ b u, s.heap.get? b = some u → h'.get? b = some u) : Inv X pins σ H { s with heap := h', toks := t' } := I.un (Un.kept k) (I.hok.kept k)
theorem Inv.laid {a : Addr} {o : HO} {t' : Nat} (I : Inv X pins σ H s) (k : ∀ b u, s.heap.get? b = some u → h'.get? b = some u) (hp : s.heap.objs.size ≤ a) (new : ObjOk X.prog X.w (upd H a o) h' a o) :
    Inv X pins σ (upd H a o) { s with heap := h', toks := t' } := I.un (Un.laid k hp (I.hok.fresh hp)) (I.hok.laid k hp new)
theorem Inv.write {x e : Addr} {o : HO} {t' : Nat} (I : Inv X pins σ H s) (mu : Mut (H x)) (he : e = x ∨ H e = some (.own x)) (k : ∀ b u, b ≠ e → s.heap.get? b = some u → h'.get? b = some u) (heo : ∃ u, h'.get? e = some u)
    (new : ObjOk X.prog X.w (upd H x o) h' x o) : Inv X pins σ (upd H x o) { s with heap := h', toks := t' } := I.un (Un.write mu he k heo) (I.hok.write mu he k heo new)
theorem Inv.pins_of {pins' : List (Addr × Obj)} (I : Inv X pins σ H s) (h : ∀ p ∈ pins', s.heap.get? p.1 = some p.2 ∧ H p.1 = none ∧ p.1 ≠ X.env.locals ∧ p.1 ∉ X.fs ∧ ∀ v, p.2.data ≠ .cell v) : Inv X pins' σ H s :=
  ⟨I.ok, I.os, I.bare, I.base, I.loc, I.cell, I.free, I.freeC, fun p hp => (List.mem_append.mp hp).elim (fun z => I.pin p (List.mem_append_left _ z)) (h p), I.hok, I.len⟩
theorem nodup_ix {N : List Str} (hN : N.Nodup) {i j : Nat} {x : Str} (a : N[i]? = some x) (b : N[j]? = some x) : i = j := by
  obtain ⟨h1, e1⟩ := List.getElem?_eq_some_iff.mp a
  obtain ⟨h2, e2⟩ := List.getElem?_eq_some_iff.mp b
  exact (List.getElem_inj hN).mp (e1.trans e2.symm)
theorem store_ok2 {M : Model} {A : Around} {E : Value → Shared → Prop} {i : Nat} {x : Str} {v : V} {u : Value} {Q : Unit → Shared → Prop} (I : Inv X pins σ H s) (hN : X.N.Nodup) (hi : X.N[i]? = some x) (hx : Loc X.env.scope x) (r : RelV v u)
    (h : ∀ s', Inv X pins (σ.set i (some v)) H s' → (∃ a, Heap.SameBut a s.heap s'.heap ∧ (a = X.env.locals ∨ X.env.cells.lookup x = some a)) → Q () s') (hf : X.fn x = true ∨ X.env.scope.names.lookup x = some .local := by first | exact .inl rfl | exact .inr rfl | assumption) : wpAny M A (storeName X.env x u) Q E s := by
  obtain ⟨m, hn, hl⟩ := id I.loc
  have hcls : (X.env.scope.kind == .class || (X.env.scope.kind == .module && X.env.locals != X.env.globals)) = false := by rw [I.ok.kind]; rfl
  have hiσ : i < σ.length := by rw [I.len]; exact (List.getElem?_eq_some_iff.mp hi).1
  have cne := I.cne
  have tracked : ∀ {a : Addr} {h' : Heap}, (∃ o, s.heap.get? a = some o ∧ H a = none) → Heap.SameBut a s.heap h' → HOk X.prog X.w H h' := fun {a h'} ha hs b ob e => by
    obtain ⟨_, _, hfree⟩ := ha
    refine (I.hok b ob e).stay (fun c w' hc q => (hs.2 c ?_).trans q) (fun _ q => q) fun _ _ q => q
    rintro rfl
    rcases hc with rfl | hc
    · rw [hfree] at e; cases e
    · rw [hfree] at hc; cases hc
  rcases hx with hk | hk
  · refine wpAny_storeName_local hk hn (fun h' hn' hs => ?_) hcls
    obtain ⟨oL, _, _, hoL, _⟩ := id hn
    refine h _ ⟨I.ok, I.os, I.bare, ⟨fun b o e n hb hx => ?_, fun b o e n hb hx => ?_, I.base.free, fun b o e hx => ?_, I.base.tups, I.base.frzs, I.base.tbls⟩, ⟨_, hn', fun j y v' e1 e2 e3 => ?_⟩, fun y c e => ?_, I.free, I.freeC, fun p hp => ?_, tracked ⟨oL, hoL, I.free⟩ hs, by simpa using I.len⟩ ⟨_, hs, .inl rfl⟩
    · exact (hs.2 b (Nat.ne_of_lt (Nat.lt_of_lt_of_le (Heap.lt_size e) I.ok.above))).trans (I.base.keep b o e n hb hx)
    · obtain ⟨sl, e1⟩ := I.base.slot b o e n hb hx
      exact ⟨sl, (hs.2 b (Nat.ne_of_lt (Nat.lt_of_lt_of_le (Heap.lt_size e) I.ok.above))).trans e1⟩
    · obtain ⟨o', e1⟩ := I.base.there b o e hx
      exact ⟨o', (hs.2 b (Nat.ne_of_lt (Nat.lt_of_lt_of_le (Heap.lt_size e) I.ok.above))).trans e1⟩
    · by_cases hj : j = i
      · subst hj
        rw [hi] at e1; cases e1
        rw [List.getElem?_set_self hiσ] at e2
        cases e2
        exact ⟨u, r, .inl ⟨hk, by simp⟩⟩
      · rw [List.getElem?_set_ne (Ne.symm hj)] at e2
        obtain ⟨u', r', q⟩ := hl j y v' e1 e2 e3
        refine ⟨u', r', ?_⟩
        rcases q with ⟨k, e⟩ | ⟨k, c, e, z⟩
        · refine .inl ⟨k, ?_⟩
          have : y ≠ x := fun e => hj (nodup_ix hN e1 (e ▸ hi))
          simp [this, e]
        · exact .inr ⟨k, c, e, z.sameBut hs (cne y c e)⟩
    · obtain ⟨w', z⟩ := I.cell y c e
      exact ⟨w', z.sameBut hs (cne y c e)⟩
    · obtain ⟨e, n, ne, nf, d⟩ := I.pin p hp
      exact ⟨(hs.2 p.1 ne).trans e, n, ne, nf, d⟩
  · have hfn : X.fn x = true := by
      rcases hf with z | z
      · exact z
      · rw [z] at hk; cases hk
    obtain ⟨c, hc⟩ := I.ok.has x (.inl hk)
    obtain ⟨w', z⟩ := I.cell x c hc
    refine wpAny_storeName_cell I.ok.kind hk hc z (fun h' hc' hs => ?_)
    obtain ⟨oc, hoc, hocd⟩ := id z
    refine h { s with heap := h' } ⟨I.ok, I.os, I.bare, ⟨fun b o e n hb hx => ?_, fun b o e n hb hx => ?_, I.base.free, fun b o e hx => ?_, I.base.tups, I.base.frzs, I.base.tbls⟩, ⟨m, hn.sameBut hs (Ne.symm (cne x c hc)), fun j y v' e1 e2 e3 => ?_⟩, fun y c' e => ?_, I.free, I.freeC, fun p hp => ?_, tracked ⟨oc, hoc, I.freeC x c hc⟩ hs, by simpa using I.len⟩ ⟨c, hs, .inr hc⟩
    · exact (hs.2 b (Nat.ne_of_lt (Nat.lt_of_lt_of_le (Heap.lt_size e) (I.ok.cab x c hfn hc)))).trans (I.base.keep b o e n hb hx)
    · obtain ⟨sl, e1⟩ := I.base.slot b o e n hb hx
      exact ⟨sl, (hs.2 b (Nat.ne_of_lt (Nat.lt_of_lt_of_le (Heap.lt_size e) (I.ok.cab x c hfn hc)))).trans e1⟩
    · obtain ⟨o', e1⟩ := I.base.there b o e hx
      exact ⟨o', (hs.2 b (Nat.ne_of_lt (Nat.lt_of_lt_of_le (Heap.lt_size e) (I.ok.cab x c hfn hc)))).trans e1⟩
    · by_cases hj : j = i
      · subst hj
        rw [hi] at e1; cases e1
        rw [List.getElem?_set_self hiσ] at e2
        cases e2
        exact ⟨u, r, .inr ⟨.inl hk, c, hc, hc'⟩⟩
      · rw [List.getElem?_set_ne (Ne.symm hj)] at e2
        obtain ⟨u', r', q⟩ := hl j y v' e1 e2 e3
        refine ⟨u', r', ?_⟩
        rcases q with q | ⟨k, c', e, z'⟩
        · exact .inl q
        · refine .inr ⟨k, c', e, z'.sameBut hs ?_⟩
          rintro rfl
          exact hj (nodup_ix hN e1 (I.ok.inj _ _ _ e hc ▸ hi))
    · by_cases hcc : c' = c
      · subst hcc; exact ⟨_, hc'⟩
      · obtain ⟨w2, z2⟩ := I.cell y c' e
        exact ⟨w2, z2.sameBut hs hcc⟩
    · obtain ⟨e, n, ne, nf, d⟩ := I.pin p hp
      refine ⟨(hs.2 p.1 ?_).trans e, n, ne, nf, d⟩
      intro q
      rw [q, hoc] at e
      have q' : oc = p.2 := Option.some.inj e
      exact d w' (by rw [← q']; exact hocd)
theorem store_ok {M : Model} {A : Around} {E : Value → Shared → Prop} {i : Nat} {x : Str} {v : V} {u : Value} {Q : Unit → Shared → Prop} (I : Inv X pins σ H s) (hN : X.N.Nodup) (hi : X.N[i]? = some x) (hx : Loc X.env.scope x) (r : RelV v u)
    (h : ∀ s', Inv X pins (σ.set i (some v)) H s' → Q () s') (hf : X.fn x = true ∨ X.env.scope.names.lookup x = some .local := by first | exact .inl rfl | exact .inr rfl | assumption) : wpAny M A (storeName X.env x u) Q E s :=
  store_ok2 I hN hi hx r (fun s' I' _ => h s' I') hf
theorem Inv.call' {s' : Shared} {ch : List Addr} (I : Inv X pins σ H s) (ho : s'.os = s.os) (u : Un (frs X.stack) ch H H' s.heap s'.heap) (hok : HOk X.prog X.w H' s'.heap) (hg : AllBare s'.gens)
    (hch : ∀ b ∈ ch, (b ∈ X.ex ∨ X.s₀.heap.objs.size ≤ b) ∧ b ≠ X.env.locals ∧ (∀ x c, X.env.cells.lookup x = some c → c ≠ b) ∧ ∀ p ∈ X.pn ++ pins, p.1 ≠ b) : Inv X pins σ H' s' := by
  refine L2.goal_let ?_
  intro q_
  obtain ⟨h', g', d', t', o'⟩ := s'
  dsimp only [q_]
  clear q_
  have e : o' = s.os := ho
  subst e
  exact I.call (g' := g') (t' := t') (d' := d') u hok hg hch
end
abbrev XK := Value → Option Addr → Hp → Prop
abbrev St := List (Option V)
abbrev VK := V → Hp → Prop
abbrev TE := St → Hp → VK → Prop
abbrev TT := St → Hp → (Bool → Hp → Prop) → Prop
abbrev TA := St → Hp → (List V → Hp → Prop) → Prop
structure Ends where
  nx : St → Hp → Prop
  rt : VK
  bk : St → Hp → Prop := fun _ _ => False
  ct : St → Hp → Prop := fun _ _ => False
abbrev TS := Ends → St → Hp → Prop
def EP (X : Cx) (pins : List (Addr × Obj)) (σ : St) (Q : VK) (u : Value) (s' : Shared) : Prop := ∃ v H', Inv X pins σ H' s' ∧ RelV v u ∧ Q v H'
def TP (X : Cx) (pins : List (Addr × Obj)) (σ : St) (Q : Bool → Hp → Prop) (b : Bool) (s' : Shared) : Prop := ∃ H', Inv X pins σ H' s' ∧ Q b H'
def AP (X : Cx) (pins : List (Addr × Obj)) (σ : St) (Q : List V → Hp → Prop) (us : List Value) (s' : Shared) : Prop := ∃ vs H', Inv X pins σ H' s' ∧ Vals vs us ∧ Q vs H'
def SP (X : Cx) (pins : List (Addr × Obj)) (D : Ends) (f : Flow) (s' : Shared) : Prop :=
  match f with
  | .next => ∃ σ' H', Inv X pins σ' H' s' ∧ D.nx σ' H'
  | .brk => ∃ σ' H', Inv X pins σ' H' s' ∧ D.bk σ' H'
  | .cont => ∃ σ' H', Inv X pins σ' H' s' ∧ D.ct σ' H'
  | .ret u => ∃ v σ' H', Inv X pins σ' H' s' ∧ RelV v u ∧ D.rt v H'
def PE (X : Cx) (e : Expr) (t : TE) : Prop :=
  ∀ (pins : List (Addr × Obj)) (s : Shared) (σ : St) (H : Hp) (Q : VK), Inv X pins σ H s → t σ H Q → wpAny (model X.prog X.w) X.A (eval e X.env) (EP X pins σ Q) X.xe s
def PT (X : Cx) (e : Expr) (t : TT) : Prop :=
  ∀ (pins : List (Addr × Obj)) (s : Shared) (σ : St) (H : Hp) (Q : Bool → Hp → Prop), Inv X pins σ H s → t σ H Q → wpAny (model X.prog X.w) X.A (isTrue e X.env (eval e X.env)) (TP X pins σ Q) X.xe s
def PW (X : Cx) (e : Expr) (t : TT) : Prop :=
  ∀ (whole : Sem Value) (pins : List (Addr × Obj)) (s : Shared) (σ : St) (H : Hp) (Q : Bool → Hp → Prop), Inv X pins σ H s → t σ H Q → wpAny (model X.prog X.w) X.A (isTrue e X.env whole) (TP X pins σ Q) X.xe s
theorem PW.pt {X : Cx} {e : Expr} {t : TT} (h : PW X e t) : PT X e t := h _
def PA (X : Cx) (es : List Expr) (t : TA) : Prop :=
  ∀ (pos : Pos) (pins : List (Addr × Obj)) (s : Shared) (σ : St) (H : Hp) (Q : List V → Hp → Prop), Inv X pins σ H s → t σ H Q → wpAny (model X.prog X.w) X.A (spliced (backTo pos (starEach es X.env))) (AP X pins σ Q) X.xe s
def PS (X : Cx) (st : Stmt) (t : TS) : Prop :=
  ∀ (pins : List (Addr × Obj)) (s : Shared) (σ : St) (H : Hp) (D : Ends), Inv X pins σ H s → t D σ H → wpAny (model X.prog X.w) X.A (exec st X.env) (SP X pins D) X.xe s
def PSs (X : Cx) (st : List Stmt) (t : TS) : Prop :=
  ∀ (pins : List (Addr × Obj)) (s : Shared) (σ : St) (H : Hp) (D : Ends), Inv X pins σ H s → t D σ H → wpAny (model X.prog X.w) X.A (execs st X.env) (SP X pins D) X.xe s
theorem thn {α : Type} {t : Sem α} {Q Q' : α → Shared → Prop} {M : Model} {A : Around} {E : Value → Shared → Prop} {s : Shared} (h : wpAny M A t Q E s) (hQ : ∀ a s, Q a s → Q' a s) : wpAny M A t Q' E s := wpAny_mono h hQ fun _ _ x => x
end L2
namespace L2
open PySem PySem.Spec PyProof.Rows
section
variable {X : Cx}
def tVar (i : Nat) : TE := fun σ H Q => ∃ v, σ[i]? = some (some v) ∧ Q v H
def tC (v : V) : TE := fun _ H Q => Q v H
theorem pe_var {i : Nat} {x : Str} {pos : Pos} (hN : X.N[i]? = some x) (hv : Vis X.env.scope x) (hd : (x == ("__debug__" : Str)) = false := by decide) (hcd : (x == ("__classdict__" : Str)) = false := by decide) : PE X (.Name x pos) (tVar i) := by
  intro pins s σ H Q I h
  obtain ⟨v, e, h⟩ := h
  obtain ⟨m, hn, hl⟩ := I.loc
  obtain ⟨u, r, l⟩ := hl i x v hN e hv
  have fin : EP X pins σ Q u s := ⟨v, H, I, r, h⟩
  rcases l with ⟨hk, hm⟩ | ⟨hk, c, hc, hcell⟩
  · exact wpAny_Name (wpAny_loadName_local I.ok.kind hk hn hm fin) hd
  · rcases hk with hk | hk
    · exact wpAny_Name (wpAny_loadName_cell I.ok.kind hk hc hcell fin) hd
    · exact wpAny_Name (wpAny_loadName_free I.ok.kind hk hc hcell fin hcd) hd
theorem pe_int {i j pos} : PE X (.Constant (.int i) j pos) (tC (.int i)) := fun _ _ _ H _ I h => wpAny_Constant_int ⟨.int i, H, I.tok _, ⟨_, rfl⟩, h⟩
theorem pe_bl {b j pos} : PE X (.Constant (.bool b) j pos) (tC (.bl b)) := fun _ _ _ H _ I h => Constant_bool ⟨.bl b, H, I, rfl, h⟩
theorem pe_non {j pos} : PE X (.Constant .none j pos) (tC .non) := fun _ _ _ H _ I h => Constant_none ⟨.non, H, I, rfl, h⟩
theorem pe_str {x j pos} : PE X (.Constant (.str x) j pos) (tC (.str x)) := fun _ _ _ H _ I h => Calls.Constant_str ⟨.str x, H, I.tok _, ⟨_, rfl⟩, h⟩
def Gl (X : Cx) (x : Str) : Prop := X.env.kindOf x = some .globalImplicit
theorem ld_glob {E : Value → Shared → Prop} {pins : List (Addr × Obj)} {s : Shared} {σ : St} {H : Hp} {x : Str} {u : Value} {pos : Pos} {Q : Value → Shared → Prop} (I : Inv X pins σ H s) (hg : Gl X x) (hm : X.mg x = some u) (h : Q u s)
    (hd : (x == ("__debug__" : Str)) = false := by decide) : wpAny (model X.prog X.w) X.A (eval (.Name x pos) X.env) Q E s :=
  Calls.Name_function_global I.ok.kind hg (Calls.loadGlobal_global (by rw [I.ok.glob]; exact I.mod.glob.keeps I.bk) hm h) hd
theorem ld_blt {E : Value → Shared → Prop} {pins : List (Addr × Obj)} {s : Shared} {σ : St} {H : Hp} {x : Str} {u : Value} {pos : Pos} {Q : Value → Shared → Prop} (I : Inv X pins σ H s) (hg : Gl X x) (hm : X.mg x = none) (hv : bootBuiltins x = some u) (h : Q u s)
    (hn : x ≠ "__name__" := by decide) (hd : (x == ("__debug__" : Str)) = false := by decide) : wpAny (model X.prog X.w) X.A (eval (.Name x pos) X.env) Q E s := by
  obtain ⟨mb, h1, h2⟩ := I.mod.blt
  exact Calls.Name_function_global I.ok.kind hg (Calls.loadGlobal_builtin (by rw [I.ok.glob]; exact I.mod.glob.keeps I.bk) hm (by rw [I.ok.blt]; exact h1.keeps I.bk) ((h2 x hn).trans hv) h) hd
theorem pe_glob {x : Str} {v : V} {u : Value} {pos : Pos} (hg : Gl X x) (hm : X.mg x = some u) (r : RelV v u) (hd : (x == ("__debug__" : Str)) = false := by decide) : PE X (.Name x pos) (tC v) :=
  fun _ _ _ H _ I h => ld_glob I hg hm ⟨v, H, I, r, h⟩ hd
theorem pe_bltn {x : Str} {v : V} {u : Value} {pos : Pos} (hg : Gl X x) (hm : X.mg x = none) (hv : bootBuiltins x = some u) (r : RelV v u) (hn : x ≠ "__name__" := by decide) (hd : (x == ("__debug__" : Str)) = false := by decide) : PE X (.Name x pos) (tC v) :=
  fun _ _ _ H _ I h => ld_blt I hg hm hv ⟨v, H, I, r, h⟩ hn hd
variable {a b : Expr} {ta tb : TE} {pos : Pos}
def PC (X : Cx) (op : CmpOp) (a b : Expr) (t : TE) : Prop :=
  ∀ (pins : List (Addr × Obj)) (s : Shared) (σ : St) (H : Hp) (Q : VK), Inv X pins σ H s → t σ H Q →
    wpAny (model X.prog X.w) X.A (eval a X.env) (fun v s₁ => wpAny (model X.prog X.w) X.A (eval b X.env) (fun u s₂ => wpAny (model X.prog X.w) X.A (compareOp op v u) (EP X pins σ Q) X.xe s₂) X.xe s₁) X.xe s
theorem nobehind (b : Expr) {op : CmpOp} (h : op ≠ .In) (h2 : op ≠ .NotIn) : behindInMarks op b = false := by
  have e1 : (op == CmpOp.In) = false := by cases op <;> first | rfl | exact absurd rfl h
  have e2 : (op == CmpOp.NotIn) = false := by cases op <;> first | rfl | exact absurd rfl h2
  cases b <;> simp [behindInMarks, e1, e2]
def tB (t : TE) : TT := fun σ H Q => t σ H fun x H1 => ∃ c, x = .bl c ∧ Q c H1
theorem pt_cmp {op : CmpOp} {t : TE} (h : PC X op a b t) (h1 : behindInMarks op b = false := by first | exact nobehind _ (by decide) (by decide) | rfl) : PT X (.Compare a [op] [b] pos) (tB t) := by
  intro pins s σ H Q I hw
  refine wpAny_isTrue_Compare1 (thn (h pins s σ H _ I hw) fun v s1 h1 => thn h1 fun u s2 h2 => thn h2 fun c s3 ⟨x, H1, I1, r1, q1⟩ => ?_) h1
  obtain ⟨d, rfl, q⟩ := q1
  cases r1
  exact wpAny_truthy_bool ⟨H1, I1, q⟩
theorem pt_val {e : Expr} {t : TE} (h : PE X e t) (he : ∀ whole, isTrue e X.env whole = (do let v ← whole; standAt e.pos; holding [v] (truthy v)) := by intro _; rfl) : PT X e (tB t) := by
  intro pins s σ H Q I hw
  refine isTrue_plain (thn (h pins s σ H _ I hw) fun v s1 ⟨x, H1, I1, r1, q1⟩ => ?_) (he _)
  obtain ⟨d, rfl, q⟩ := q1
  cases r1
  exact wpAny_truthy_bool ⟨H1, I1, q⟩
variable {tA tB' : TT} {rest : List Expr}
def tAnd (t u : TT) : TT := fun σ H Q => t σ H fun c H1 => if c = true then u σ H1 Q else Q false H1
def tOr (t u : TT) : TT := fun σ H Q => t σ H fun c H1 => if c = true then Q true H1 else u σ H1 Q
def tNot (t : TT) : TT := fun σ H Q => t σ H fun c H1 => Q (!c) H1
theorem pw_and1 (ha : PT X a tA) : PW X (.BoolOp .And [a] pos) tA := by
  intro wh pins s σ H Q I h
  refine isTrue_and (thn (ha pins s σ H Q I h) fun c s1 e => ?_)
  cases c with
  | true => exact isTrue_and_nil e
  | false => exact e
theorem pw_or1 (ha : PT X a tA) : PW X (.BoolOp .Or [a] pos) tA := by
  intro wh pins s σ H Q I h
  refine isTrue_or (thn (ha pins s σ H Q I h) fun c s1 e => ?_)
  cases c with
  | false => exact isTrue_or_nil e
  | true => exact e
theorem pw_and (ha : PT X a tA) (hb : PW X (.BoolOp .And (b :: rest) pos) tB') : PW X (.BoolOp .And (a :: b :: rest) pos) (tAnd tA tB') := by
  intro wh pins s σ H Q I h
  refine isTrue_and (thn (ha pins s σ H _ I h) fun c s1 hh_ => ?_)
  refine L2.goal_let ?_
  intro q_
  obtain ⟨H1, I1, q1⟩ := hh_
  dsimp only [q_]
  clear q_
  cases c with
  | true => exact hb wh pins s1 σ H1 Q I1 q1
  | false => exact ⟨H1, I1, q1⟩
theorem pw_or (ha : PT X a tA) (hb : PW X (.BoolOp .Or (b :: rest) pos) tB') : PW X (.BoolOp .Or (a :: b :: rest) pos) (tOr tA tB') := by
  intro wh pins s σ H Q I h
  refine isTrue_or (thn (ha pins s σ H _ I h) fun c s1 hh_ => ?_)
  refine L2.goal_let ?_
  intro q_
  obtain ⟨H1, I1, q1⟩ := hh_
  dsimp only [q_]
  clear q_
  cases c with
  | true => exact ⟨H1, I1, q1⟩
  | false => exact hb wh pins s1 σ H1 Q I1 q1
theorem pt_not (ha : PT X a tA) : PT X (.UnaryOp .Not a pos) (tNot tA) := by
  intro pins s σ H Q I h
  exact isTrue_not (ha pins s σ H (fun c H1 => Q (!c) H1) I h)
def tAndV (ta tb : TE) : TE := fun σ H Q => ta σ H fun x H1 => ∃ c, x = .bl c ∧ if c = true then tb σ H1 Q else Q (.bl false) H1
theorem pe_one {op} {t : TE} (h : PE X a t) : PE X (.BoolOp op [a] pos) t := fun pins s σ H Q I hw => BoolOp_one (h pins s σ H Q I hw)
theorem pe_and (ha : PE X a ta) (hb : PE X (.BoolOp .And (b :: rest) pos) tb) : PE X (.BoolOp .And (a :: b :: rest) pos) (tAndV ta tb) := by
  intro pins s σ H Q I h
  refine BoolOp_and (thn (ha pins s σ H _ I h) fun v s1 hh_ => ?_)
  refine L2.goal_let ?_
  intro q_
  obtain ⟨x, H1, I1, r1, q1⟩ := hh_
  dsimp only [q_]
  clear q_
  obtain ⟨c, rfl, q1⟩ := q1
  cases r1
  refine wpAny_truthy_bool ?_
  cases c with
  | true => exact hb pins s1 σ H1 Q I1 q1
  | false => exact ⟨.bl false, H1, I1, rfl, q1⟩
end
end L2
namespace L2
open PySem PySem.Spec PyProof.Rows
def SqL (K : PySem.W.Frag) (H : Hp) (a : Addr) (xs : List V) : Prop :=
  Rd H a (.lst xs) ∨
    ∃ (o : Obj) (its : Array Value) (n : Nat), K.lookup a = some o ∧ o.cls = .type "list" ∧ o.dict = none ∧ o.data = .seq its n ∧ its.size ≤ sizeLine ∧ Vals xs its.toList
def SqT (K : PySem.W.Frag) (H : Hp) (a : Addr) (xs : List V) : Prop :=
  Rd H a (.tup xs) ∨
    ∃ (o : Obj) (its : Array Value) (n : Nat), K.lookup a = some o ∧ o.cls = .type "tuple" ∧ o.data = .seq its n ∧ its.size ≤ sizeLine ∧ Vals xs its.toList
def absV : Value → Option V
  | .none => some .non
  | .bool b => some (.bl b)
  | .int i _ => some (.int i)
  | .str x _ => some (.str x)
  | .bytes b _ => some (.byt b)
  | .float b _ => some (.flt b)
  | .ref a => some (.ref a)
  | .type n => some (.ty n)
  | _ => none
theorem RelV.abs {x : V} {u : Value} (r : RelV x u) : absV u = some x := by
  cases x with
  | non => cases r; rfl
  | bl _ => cases r; rfl
  | int _ => obtain ⟨t, rfl⟩ := r; rfl
  | str _ => obtain ⟨t, rfl⟩ := r; rfl
  | byt _ => obtain ⟨t, rfl⟩ := r; rfl
  | flt _ => obtain ⟨t, rfl⟩ := r; rfl
  | ref _ => cases r; rfl
  | ty _ => cases r; rfl
theorem RelV.inj {x y : V} {u : Value} (r : RelV x u) (q : RelV y u) : x = y := Option.some.inj (r.abs.symm.trans q.abs)
theorem Vals.inj : ∀ {xs ys : List V} {us : List Value}, Vals xs us → Vals ys us → xs = ys
  | _, _, _, .nil, .nil => rfl
  | _, _, _, .cons r t, .cons r' t' => by rw [r.inj r', Vals.inj t t']
section
variable {X : Cx} {pins : List (Addr × Obj)} {σ : St} {H : Hp} {s : Shared} {a : Addr} {xs ys : List V}
theorem SqL.of {K : PySem.W.Frag} (h : H a = some (.lst xs)) : SqL K H a xs := .inl (.inl h)
theorem SqT.of {K : PySem.W.Frag} (h : H a = some (.tup xs)) : SqT K H a xs := .inl (.inl h)
theorem Inv.list (I : Inv X pins σ H s) (h : SqL X.K H a xs) : ∃ its : List Value, Vals xs its ∧ PlainL s.heap a its.toArray ∧ xs.length ≤ sizeLine := by
  rcases h with h | ⟨o, its, n, hk, hc, hd, hs, hz, r⟩
  · obtain ⟨z, its, n, r, e⟩ := h.ok I.hok
    exact ⟨its, r, ⟨_, n, e, rfl, rfl, rfl⟩, z⟩
  · refine ⟨its.toList, r, ⟨o, n, I.kIn a o hk, hc, hd, by simpa using hs⟩, ?_⟩
    have e := r.length
    simp only [Array.length_toList] at e
    omega
theorem Inv.tuple (I : Inv X pins σ H s) (h : SqT X.K H a xs) : ∃ its : List Value, Vals xs its ∧ IsTup s.heap a its.toArray ∧ xs.length ≤ sizeLine := by
  rcases h with h | ⟨o, its, n, hk, hc, hs, hz, r⟩
  · obtain ⟨z, its, r, p⟩ := h.ok I.hok
    exact ⟨its, r, p, z⟩
  · refine ⟨its.toList, r, ⟨o, I.kIn a o hk, hc, n, by simpa using hs⟩, ?_⟩
    have e := r.length
    simp only [Array.length_toList] at e
    omega
theorem Inv.list_inj (I : Inv X pins σ H s) (h : SqL X.K H a xs) (h' : SqL X.K H a ys) : xs = ys := by
  obtain ⟨its, r, ⟨o, n, e, _, _, d⟩, _⟩ := I.list h
  obtain ⟨its', r', ⟨o', n', e', _, _, d'⟩, _⟩ := I.list h'
  rw [e] at e'; cases e'
  rw [d] at d'
  injection d' with d1 _
  have : its = its' := by simpa using congrArg Array.toList d1
  subst this
  exact r.inj r'
theorem Inv.tuple_inj (I : Inv X pins σ H s) (h : SqT X.K H a xs) (h' : SqT X.K H a ys) : xs = ys := by
  obtain ⟨its, r, ⟨o, e, _, n, d⟩, _⟩ := I.tuple h
  obtain ⟨its', r', ⟨o', e', _, n', d'⟩, _⟩ := I.tuple h'
  rw [e] at e'; cases e'
  rw [d] at d'
  injection d' with d1 _
  have : its = its' := by simpa using congrArg Array.toList d1
  subst this
  exact r.inj r'
end
abbrev Cx.wish (X : Cx) (E : Value → Shared → Prop) : Cx := { X with xe := E }
abbrev Cx.nox (X : Cx) : Cx := X.wish fun _ _ => False
theorem Cx.Ok.wish {X : Cx} (ok : X.Ok) (E : Value → Shared → Prop) : (X.wish E).Ok :=
  ⟨ok.mod, ok.kind, ok.glob, ok.blt, ok.above, ok.inj, ok.has, ok.cab, ok.hd, ok.frames, ok.stk, ok.exf, ok.bs, ok.bsz, ok.noex, ok.exfs, ok.funs, ok.frf⟩
theorem Cx.Ok.unwish {X : Cx} {E : Value → Shared → Prop} (ok : (X.wish E).Ok) : X.Ok :=
  ⟨ok.mod, ok.kind, ok.glob, ok.blt, ok.above, ok.inj, ok.has, ok.cab, ok.hd, ok.frames, ok.stk, ok.exf, ok.bs, ok.bsz, ok.noex, ok.exfs, ok.funs, ok.frf⟩
section
variable {X : Cx} {pins : List (Addr × Obj)} {σ : St} {H : Hp} {s : Shared} {E : Value → Shared → Prop}
theorem Inv.wish (I : Inv X pins σ H s) (E : Value → Shared → Prop) : Inv (X.wish E) pins σ H s := ⟨I.ok.wish E, I.os, I.bare, I.base, I.loc, I.cell, I.free, I.freeC, I.pin, I.hok, I.len⟩
theorem Inv.unwish (I : Inv (X.wish E) pins σ H s) : Inv X pins σ H s := ⟨I.ok.unwish, I.os, I.bare, I.base, I.loc, I.cell, I.free, I.freeC, I.pin, I.hok, I.len⟩
theorem SP.unwish {D : Ends} {f : Flow} {s' : Shared} (h : SP (X.wish E) pins D f s') : SP X pins D f s' := by
  cases f with
  | next => obtain ⟨σ', H', I, q⟩ := h; exact ⟨σ', H', I.unwish, q⟩
  | brk => obtain ⟨σ', H', I, q⟩ := h; exact ⟨σ', H', I.unwish, q⟩
  | cont => obtain ⟨σ', H', I, q⟩ := h; exact ⟨σ', H', I.unwish, q⟩
  | ret u => obtain ⟨v, σ', H', I, r, q⟩ := h; exact ⟨v, σ', H', I.unwish, r, q⟩
theorem PSs.nox {st : List Stmt} {t : TS} (h : PSs X.nox st t) : PSs X st t := fun pins s σ H D I hw =>
  wpAny_mono (h pins s σ H D (I.wish _) hw) (fun _ _ q => q.unwish) fun _ _ z => False.elim z
end
section
variable {X : Cx} {st : Stmt} {rest : List Stmt} {t u : TS} {e : Expr} {te : TE} {pos : Pos}
def tNext : TS := fun D σ H => D.nx σ H
def tSeq (t u : TS) : TS := fun D σ H => t { D with nx := u D } σ H
theorem pss_nil : PSs X [] tNext := fun _ _ σ H _ I h => wpAny_execs_nil ⟨σ, H, I, h⟩
theorem pss_cons (h1 : PS X st t) (h2 : PSs X rest u) : PSs X (st :: rest) (tSeq t u) := by
  intro pins s σ H D I h
  refine wpAny_execs_cons (thn (h1 pins s σ H { D with nx := u D } I h) fun f s1 q => ?_)
  cases f with
  | next =>
    obtain ⟨σ', H', I', q⟩ := q
    exact h2 pins s1 σ' H' D I' q
  | ret v => exact q
  | brk => exact q
  | cont => exact q
theorem pss_one (h1 : PS X st t) : PSs X [st] t := by
  intro pins s σ H D I h
  refine wpAny_execs_cons (thn (h1 pins s σ H D I h) fun f s1 q => ?_)
  cases f with
  | next => exact wpAny_execs_nil q
  | ret v => exact q
  | brk => exact q
  | cont => exact q
theorem Inv.quiet {pins : List (Addr × Obj)} {σ : St} {H : Hp} {s : Shared} (I : Inv X pins σ H s) : interactive X.env = false := by simp [interactive, I.ok.kind]
def tDrop (te : TE) : TS := fun D σ H => te σ H fun _ H1 => D.nx σ H1
theorem ps_expr (he : PE X e te) (hs : swapsWith e none pos.line X.env = pure false := by rfl) : PS X (.Expr e pos) (tDrop te) := by
  intro pins s σ H D I h
  exact wpAny_Expr_any (thn (he pins s σ H _ I h) fun v s1 ⟨x, H1, I1, r1, q1⟩ => ⟨σ, H1, I1, q1⟩) I.quiet hs
def tRet (te : TE) : TS := fun D σ H => te σ H D.rt
theorem ps_ret (he : PE X e te) : PS X (.Return (some e) pos) (tRet te) := by
  intro pins s σ H D I h
  exact wpAny_Return_some (thn (he pins s σ H _ I h) fun v s1 ⟨x, H1, I1, r1, q1⟩ => ⟨x, σ, H1, I1, r1, q1⟩)
def tIfS (c : TT) (t u : TS) : TS := fun D σ H => c σ H fun b H1 => if b = true then t D σ H1 else u D σ H1
theorem ps_if {c : Expr} {a b : List Stmt} {tc : TT} (hc : PT X c tc) (ha : PSs X a t) (hb : PSs X b u) : PS X (.If c a b pos) (tIfS tc t u) := by
  intro pins s σ H D I h
  refine wpAny_If (thn (hc pins s σ H _ I h) fun d s1 hh_ => ?_)
  refine L2.goal_let ?_
  intro q_
  obtain ⟨H1, I1, q1⟩ := hh_
  dsimp only [q_]
  clear q_
  cases d with
  | true => exact ha pins s1 σ H1 D I1 q1
  | false => exact hb pins s1 σ H1 D I1 q1
end
abbrev TG := V → St → Hp → (St → Hp → Prop) → Prop
abbrev TGs := List V → St → Hp → (St → Hp → Prop) → Prop
def PG (X : Cx) (target : Expr) (t : TG) : Prop :=
  ∀ (pins : List (Addr × Obj)) (s : Shared) (σ : St) (H : Hp) (v : V) (u : Value) (Q : St → Hp → Prop), Inv X pins σ H s → RelV v u → t v σ H Q →
    wpAny (model X.prog X.w) X.A (assign target X.env u) (fun _ s' => ∃ σ' H', Inv X pins σ' H' s' ∧ Q σ' H') X.xe s
def PGs (X : Cx) (ts : List Expr) (t : TGs) : Prop :=
  ∀ (pins : List (Addr × Obj)) (s : Shared) (σ : St) (H : Hp) (vs : List V) (us : List Value) (Q : St → Hp → Prop), Inv X pins σ H s → Vals vs us → t vs σ H Q →
    wpAny (model X.prog X.w) X.A (assignInOrder ((assignEach ts X.env).map (·.2)) us) (fun _ s' => ∃ σ' H', Inv X pins σ' H' s' ∧ Q σ' H') X.xe s
abbrev TSet := V → V → V → Hp → (Hp → Prop) → Prop
def PSet (X : Cx) (t : TSet) : Prop :=
  ∀ (pins : List (Addr × Obj)) (s : Shared) (σ : St) (H : Hp) (o i v : V) (ov iv u : Value) (Q : Hp → Prop), Inv X pins σ H s → RelV o ov → RelV i iv → RelV v u → t o i v H Q →
    wpAny (model X.prog X.w) X.A (setItem ov iv u) (fun _ s' => ∃ H', Inv X pins σ H' s' ∧ Q H') X.xe s
section
variable {X : Cx} {pos : Pos}
def gName (i : Nat) : TG := fun v σ H Q => Q (σ.set i (some v)) H
theorem pg_name {i : Nat} {x : Str} (hN : X.N.Nodup) (hi : X.N[i]? = some x) (hx : Loc X.env.scope x) (hf : X.fn x = true ∨ X.env.scope.names.lookup x = some .local := by first | exact .inl rfl | exact .inr rfl | assumption) : PG X (.Name x pos) (gName i) := by
  intro pins s σ H v u Q I r h
  exact wpAny_assign_Name (store_ok I hN hi hx r (fun s' I' => ⟨_, H, I', h⟩) hf)
def gNil : TGs := fun vs σ H Q => vs = [] ∧ Q σ H
def gCons (t : TG) (u : TGs) : TGs := fun vs σ H Q => ∃ v r, vs = v :: r ∧ t v σ H fun σ' H' => u r σ' H' Q
theorem pgs_nil : PGs X [] gNil := by
  intro pins s σ H vs us Q I r h
  obtain ⟨e, h⟩ := h
  subst e
  cases r
  exact assignInOrder_nil ⟨σ, H, I, h⟩
theorem pgs_cons {e : Expr} {es : List Expr} {t : TG} {u : TGs} (h1 : PG X e t) (h2 : PGs X es u)
    (hs : (assignEach (e :: es) X.env).map (·.2) = assign e X.env :: (assignEach es X.env).map (·.2) := by rfl) : PGs X (e :: es) (gCons t u) := by
  intro pins s σ H vs us Q I r h
  obtain ⟨v, vr, e1, h⟩ := h
  subst e1
  cases r with
  | cons r rr =>
    rw [hs]
    refine assignInOrder_cons (thn (h1 pins s σ H _ _ _ I r h) fun _ s1 hh_ => ?_)
    refine L2.goal_let ?_
    intro q_
    obtain ⟨σ1, H1, I1, q1⟩ := hh_
    dsimp only [q_]
    clear q_
    exact h2 pins s1 σ1 H1 _ _ Q I1 rr q1
def gTup (K : PySem.W.Frag) (n : Nat) (t : TGs) : TG := fun v σ H Q => ∃ a xs, v = .ref a ∧ SqT K H a xs ∧ xs.length = n ∧ t xs σ H Q
theorem pg_tup {es : List Expr} {k : Nat} {t : TGs} {n : Nat} (hc : X.calm = true) (h : PGs X es t)
    (hn : (assignEach es X.env).length = n := by rfl) (hst : (assignEach es X.env).findIdx? (·.1) = none := by rfl) : PG X (.Tuple es k pos) (gTup X.K n t) := by
  intro pins s σ H v u Q I r hw
  refine L2.goal_let ?_
  intro q_
  obtain ⟨a, xs, e1, hq, hl, hw⟩ := hw
  dsimp only [q_]
  clear q_
  subst e1
  cases r
  obtain ⟨its, rv, ht, hz⟩ := I.tuple hq
  refine assign_Tuple_tuple (I.ok.hd hc) ht (by simp [hn, ← hl, rv.length]) hst fun h' hx => ?_
  have I1 : Inv X pins σ H { s with heap := h' } := I.kept (t' := s.toks) fun b o e => hx b o (Nat.ne_of_lt (Heap.lt_size e)) e
  exact h pins _ σ H xs _ Q I1 (by simpa using rv) hw
def gSub (to ti : TE) (t : TSet) : TG := fun v σ H Q => to σ H fun o H1 => ti σ H1 fun i H2 => t o i v H2 fun H3 => Q σ H3
theorem pg_sub {o i : Expr} {to ti : TE} {t : TSet} (ho : PE X o to) (hi : PE X i ti) (hs : PSet X t)
    (ha : ∀ v, assign (.Subscript o i pos) X.env v = (do
      let ov ← holding [v] (eval o X.env)
      let iv ← holding [v, ov] (eval i X.env)
      standAt pos
      holding [v, ov, iv] (setItem ov iv v)
      release [v, ov, iv] []) := by intro _; rfl) : PG X (.Subscript o i pos) (gSub to ti t) := by
  intro pins s σ H v u Q I r h
  rw [ha]
  refine wpAny_bind (wpAny_holding (thn (ho pins s σ H _ I h) fun ov s1 hh_ => ?_))
  refine L2.goal_let ?_
  intro q_
  obtain ⟨x, H1, I1, r1, q1⟩ := hh_
  dsimp only [q_]
  clear q_
  refine wpAny_bind (wpAny_holding (thn (hi pins s1 σ H1 _ I1 q1) fun iv s2 hh_ => ?_))
  refine L2.goal_let ?_
  intro q_
  obtain ⟨y, H2, I2, r2, q2⟩ := hh_
  dsimp only [q_]
  clear q_
  refine wpAny_bind (wpAny_standAt (wpAny_bind (wpAny_holding (thn (hs pins s2 σ H2 x y v ov iv u _ I2 r1 r2 r q2) fun _ s3 hh_ => ?_))))
  refine L2.goal_let ?_
  intro q_
  obtain ⟨H3, I3, q3⟩ := hh_
  dsimp only [q_]
  clear q_
  exact wpAny_release ⟨σ, H3, I3, q3⟩
def tAsg (te : TE) (g : TG) : TS := fun D σ H => te σ H fun x H1 => g x σ H1 D.nx
theorem ps_asg {tg e : Expr} {te : TE} {g : TG} (he : PE X e te) (hg : PG X tg g) (hs : swapsWithSole [tg] e pos.line X.env = pure false := by rfl) (hw : swappedStores [tg] e X.env = pure none := by rfl)
    (h1 : (assignEach [tg] X.env).map (·.2) = [assign tg X.env] := by rfl) : PS X (.Assign [tg] e pos) (tAsg te g) := by
  intro pins s σ H D I h
  refine wpAny_Assign_stores (thn (he pins s σ H _ I h) fun v s1 ⟨x, H1, I1, r1, q1⟩ => ?_) hs hw
  rw [h1]
  exact thn (hg pins s1 σ H1 x v _ I1 r1 q1) fun _ s2 q => q
theorem ps_set {i : Nat} {x : Str} {e : Expr} {te : TE} {pos' : Pos} (hN : X.N.Nodup) (hi : X.N[i]? = some x) (hx : Loc X.env.scope x) (he : PE X e te) (hs : swapsWith e (some (.Name x pos')) pos.line X.env = pure false := by rfl) (hf : X.fn x = true ∨ X.env.scope.names.lookup x = some .local := by first | exact .inl rfl | exact .inr rfl | assumption) :
    PS X (.Assign [.Name x pos'] e pos) (tAsg te (gName i)) := by
  intro pins s σ H D I h
  refine wpAny_Assign_Name (thn (he pins s σ H _ I h) fun v s1 ⟨y, H1, I1, r1, q1⟩ => ?_) hs
  exact store_ok I1 hN hi hx r1 (fun s2 I2 => ⟨_, H1, I2, q1⟩) hf
end
section
variable {X : Cx} {pos : Pos}
def tWhile (c : TT) (tb : TS) : TS := fun D σ H => ∃ W : Nat → St → Hp → Prop, (∃ m, W m σ H) ∧ ∀ m σ H, W m σ H →
  c σ H fun b H1 => if b = true then ∃ N : St → Hp → Prop, (∀ σ' H', N σ' H' → ∃ m', m' < m ∧ W m' σ' H') ∧ tb { D with nx := N, ct := N, bk := D.nx } σ H1 else D.nx σ H1
theorem ps_while {c : Expr} {body : List Stmt} {tc : TT} {tb : TS} (hp : PassesOwn (model X.prog X.w) X.A X.env X.xe) (hc : PT X c tc) (hb : PSs X body tb) : PS X (.While c body [] pos) (tWhile tc tb) := by
  intro pins s σ H D I h
  obtain ⟨W, ⟨m0, w0⟩, turn⟩ := h
  refine wpAny_While (codeAny_whileLoop (fun n s' => ∃ σ' H', Inv X pins σ' H' s' ∧ W n σ' H') ?_ m0 ⟨σ, H, I, w0⟩)
  rintro n s1 ⟨σ1, H1, I1, w1⟩
  refine wpAny_passesOwn hp (thn (hc pins s1 σ1 H1 _ I1 (turn n σ1 H1 w1)) fun b s2 hh_ => ?_)
  refine L2.goal_let ?_
  intro q_
  obtain ⟨H2, I2, q2⟩ := hh_
  dsimp only [q_]
  clear q_
  cases b with
  | true =>
    obtain ⟨N, hN, q2⟩ := q2
    rw [if_pos rfl]
    refine wpAny_passesOwn hp (thn (hb pins s2 σ1 H2 _ I2 q2) fun f s3 q3 => ?_)
    cases f with
    | next =>
      obtain ⟨σ3, H3, I3, n3⟩ := q3
      obtain ⟨m', hm, w3⟩ := hN σ3 H3 n3
      exact ⟨m', hm, σ3, H3, I3, w3⟩
    | cont =>
      obtain ⟨σ3, H3, I3, n3⟩ := q3
      obtain ⟨m', hm, w3⟩ := hN σ3 H3 n3
      exact ⟨m', hm, σ3, H3, I3, w3⟩
    | brk => exact q3
    | ret v => exact q3
  | false =>
    rw [if_neg Bool.false_ne_true]
    exact wpAny_execs_nil ⟨σ1, H2, I2, q2⟩
end
structure It where
  go : Nat → Hp → Prop
  yld : Nat → Hp → V → Hp → Prop
  stop : Nat → Hp → Prop
def FpOk (X : Cx) (pins : List (Addr × Obj)) (H : Hp) (b : Addr) : Prop :=
  H b = none ∧ b ≠ X.env.locals ∧ b ∉ X.fs ∧ (b ∈ X.ex ∨ X.s₀.heap.objs.size ≤ b) ∧ (∀ x c, X.env.cells.lookup x = some c → c ≠ b) ∧ ∀ p ∈ X.pn ++ pins, p.1 ≠ b
theorem Inv.fpOk {X : Cx} {pins : List (Addr × Obj)} {σ : St} {H H' : Hp} {s : Shared} {b : Addr} (I : Inv X pins σ H s) (hb : s.heap.objs.size ≤ b) (hn : H' b = none) : FpOk X pins H' b := by
  refine ⟨hn, Nat.ne_of_gt (Nat.lt_of_lt_of_le I.lt hb), I.nofs hb, .inr (Nat.le_trans I.sz hb), fun x c e z => ?_, fun p hp z => ?_⟩
  · obtain ⟨v, q⟩ := I.cell x c e
    exact absurd (Nat.lt_of_lt_of_le q.lt (by rw [z]; exact hb)) (Nat.lt_irrefl _)
  · exact absurd (Nat.lt_of_lt_of_le (Heap.lt_size (I.pin p hp).1) (by rw [z]; exact hb)) (Nat.lt_irrefl _)
structure Turn (P : Program) (w : World) (K : PySem.W.Frag) (tg : Expr) (J : It) (fp : List Addr) (it : Addr) (tn : Nat → Heap → Prop) : Prop where
  mem : it ∈ fp
  obj : ∀ i h, tn i h → ∀ b ∈ fp, ∃ o, h.get? b = some o ∧ ∀ v, o.data ≠ .cell v
  keep : ∀ i h h', tn i h → (∀ b ∈ fp, ∀ o, h.get? b = some o → h'.get? b = some o) → tn i h'
  item : ∀ (X : Cx), X.prog = P → X.w = w → X.K = K → X.calm = true → ∀ (i : Nat) (pins : List (Addr × Obj)) (s : Shared) (σ : St) (H : Hp) (E : Value → Shared → Prop), Inv X pins σ H s → (∀ b ∈ fp, FpOk X pins H b) → tn i s.heap → J.go i H →
    wpAny (model P w) X.A (pyNext (.ref it)) (fun r s1 => ∃ u, r = some u ∧
      wpAny (model P w) X.A (letOwnedTupleGo tg (.ref it) u) (fun _ s2 => ∃ x H', Inv X pins σ H' s2 ∧ RelV x u ∧ J.yld i H x H' ∧ tn (i + 1) s2.heap ∧ ∀ b ∈ fp, H' b = none) E s1) E s
  done : ∀ (X : Cx), X.prog = P → X.w = w → X.K = K → X.calm = true → ∀ (i : Nat) (pins : List (Addr × Obj)) (s : Shared) (σ : St) (H : Hp) (E : Value → Shared → Prop), Inv X pins σ H s → (∀ b ∈ fp, FpOk X pins H b) → tn i s.heap → J.stop i H →
    wpAny (model P w) X.A (pyNext (.ref it)) (fun r s1 => r = none ∧ Inv X pins σ H s1) E s
  self : ∀ (A : Around) (i : Nat) (s : Shared) (Q : Value → Shared → Prop) (E : Value → Shared → Prop), tn i s.heap → Q (.ref it) s → wpAny (model P w) A (pyIter (.ref it)) Q E s
abbrev TI := St → Hp → (It → Hp → Prop) → Prop
def PIE (X : Cx) (pins : List (Addr × Obj)) (σ : St) (tg : Expr) (R : It → Hp → Prop) (itv : Value) (s2 : Shared) : Prop :=
  ∃ (it : Addr) (fp : List Addr) (tn : Nat → Heap → Prop) (J : It) (H' : Hp), itv = .ref it ∧ Inv X pins σ H' s2 ∧ Turn X.prog X.w X.K tg J fp it tn ∧ tn 0 s2.heap ∧ (∀ b ∈ fp, FpOk X pins H' b) ∧ R J H'
def PI (X : Cx) (tg iter : Expr) (wi : TI) : Prop :=
  ∀ (pins : List (Addr × Obj)) (s : Shared) (σ : St) (H : Hp) (R : It → Hp → Prop), Inv X pins σ H s → wi σ H R →
    wpAny (model X.prog X.w) X.A (eval iter X.env) (fun v s1 => wpAny (model X.prog X.w) X.A (pyIter v) (PIE X pins σ tg R) X.xe s1) X.xe s
theorem go_of {M : Model} {A : Around} {E : Value → Shared → Prop} {s : Shared} {tg : Expr} {it : Addr} {u : Value} {o : Obj} {n : String} {vs : Array Value} {Q : Unit → Shared → Prop} (ho : s.heap.get? it = some o) (hc : o.cls = .type n) (hd : o.data = .fields vs)
    (hn : ["enumerate", "zip", "dict_itemiterator", "dict_reverseitemiterator", "odict_iterator", "itertools.zip_longest", "itertools.pairwise"].contains n = false) (hQ : Q () s) : wpAny M A (letOwnedTupleGo tg (.ref it) u) Q E s := by
  unfold letOwnedTupleGo
  cases tg <;> first
    | exact wpAny_pure hQ
    | (cases u <;> first
        | exact wpAny_pure hQ
        | (refine wpAny_bind (wpAny_load ho ?_)
           rw [hc, hd]
           show wpAny M A (if (["enumerate", "zip", "dict_itemiterator", "dict_reverseitemiterator", "odict_iterator", "itertools.zip_longest", "itertools.pairwise"].contains n && vs[0]? == some (rawInt _)) = true then _ else _) Q E s
           rw [if_neg (by intro h; rw [hn, Bool.false_and] at h; cases h)]
           exact wpAny_pure hQ))
def Itl (K : PySem.W.Frag) (a : Addr) : It :=
  ⟨fun i H => ∃ xs x, SqL K H a xs ∧ xs[i]? = some x, fun i H x H' => H' = H ∧ ∀ xs, SqL K H a xs → xs[i]? = some x, fun i H => ∃ xs, SqL K H a xs ∧ xs.length ≤ i⟩
def Itt (K : PySem.W.Frag) (a : Addr) : It :=
  ⟨fun i H => ∃ xs x, SqT K H a xs ∧ xs[i]? = some x, fun i H x H' => H' = H ∧ ∀ xs, SqT K H a xs → xs[i]? = some x, fun i H => ∃ xs, SqT K H a xs ∧ xs.length ≤ i⟩
def Itr (lo : Int) (n : Nat) : It := ⟨fun i _ => i < n, fun i H x H' => H' = H ∧ x = .int (lo + i), fun i _ => n ≤ i⟩
theorem turn_list {P : Program} {w : World} {K : PySem.W.Frag} {tg : Expr} (a it : Addr) : Turn P w K tg (Itl K a) [it] it (fun i h => h.IsListIter it a i) where
  mem := by simp
  obj := fun i h st b hb => by
    have e : b = it := by simpa using hb
    subst e
    obtain ⟨o, e, c, d⟩ := st
    exact ⟨o, e, fun v z => by rw [d] at z; cases z⟩
  keep := fun i h h' st k => st.at fun o e => k it (by simp) o e
  item := by
    intro X hP hw hK hc i pins s σ H E I hf st hg
    subst hP hw hK
    obtain ⟨xs, x, hq, hx⟩ := hg
    obtain ⟨its, rv, p, hz⟩ := I.list hq
    obtain ⟨u, hu, ru⟩ := rv.get hx
    obtain ⟨f0, f1, f2, f3, f4, f5⟩ := hf it (by simp)
    refine wpAny_pyNext_list_item st p.isList (x := u) (by simpa using hu) fun h' st' sb => ?_
    have I1 : Inv X pins σ H { s with heap := h' } := I.turned (t' := s.toks) (fun b o hb e => (sb.2 b hb).trans e) f0 f1 f3 f4 f5
    obtain ⟨o, e, c, d⟩ := id st'
    exact ⟨u, rfl, go_of (s := { s with heap := h' }) e c d (by decide) ⟨x, H, I1, ru, ⟨rfl, fun ys hy => by rw [I.list_inj hy hq]; exact hx⟩, st', fun b hb => (hf b hb).1⟩⟩
  done := by
    intro X hP hw hK hc i pins s σ H E I hf st hg
    subst hP hw hK
    obtain ⟨xs, hq, hx⟩ := hg
    obtain ⟨its, rv, p, hz⟩ := I.list hq
    obtain ⟨f0, f1, f2, f3, f4, f5⟩ := hf it (by simp)
    have hl := rv.length
    exact wpAny_pyNext_list_end (I.ok.hd hc) st p.isList (by simp; omega) fun h' eb => ⟨rfl, I.turned (t' := s.toks) (fun b o hb e => eb b o hb e) f0 f1 f3 f4 f5⟩
  self := fun _ _ _ _ _ st h => wpAny_pyIter_listiter st h
theorem turn_tuple {P : Program} {w : World} {K : PySem.W.Frag} {tg : Expr} (a it : Addr) : Turn P w K tg (Itt K a) [it] it (fun i h => h.IsTupleIter it a i) where
  mem := by simp
  obj := fun i h st b hb => by
    have e : b = it := by simpa using hb
    subst e
    obtain ⟨o, e, c, d⟩ := st
    exact ⟨o, e, fun v z => by rw [d] at z; cases z⟩
  keep := fun i h h' st k => st.at fun o e => k it (by simp) o e
  item := by
    intro X hP hw hK hc i pins s σ H E I hf st hg
    subst hP hw hK
    obtain ⟨xs, x, hq, hx⟩ := hg
    obtain ⟨its, rv, p, hz⟩ := I.tuple hq
    obtain ⟨u, hu, ru⟩ := rv.get hx
    obtain ⟨f0, f1, f2, f3, f4, f5⟩ := hf it (by simp)
    refine wpAny_pyNext_tuple_item st (show s.heap.IsTuple a its.toArray from p) (x := u) (by simpa using hu) fun h' st' sb => ?_
    have I1 : Inv X pins σ H { s with heap := h' } := I.turned (t' := s.toks) (fun b o hb e => (sb.2 b hb).trans e) f0 f1 f3 f4 f5
    obtain ⟨o, e, c, d⟩ := id st'
    exact ⟨u, rfl, go_of (s := { s with heap := h' }) e c d (by decide) ⟨x, H, I1, ru, ⟨rfl, fun ys hy => by rw [I.tuple_inj hy hq]; exact hx⟩, st', fun b hb => (hf b hb).1⟩⟩
  done := by
    intro X hP hw hK hc i pins s σ H E I hf st hg
    subst hP hw hK
    obtain ⟨xs, hq, hx⟩ := hg
    obtain ⟨its, rv, p, hz⟩ := I.tuple hq
    obtain ⟨f0, f1, f2, f3, f4, f5⟩ := hf it (by simp)
    have hl := rv.length
    exact wpAny_pyNext_tuple_end (I.ok.hd hc) st (show s.heap.IsTuple a its.toArray from p) (by simp; omega) fun h' eb => ⟨rfl, I.turned (t' := s.toks) (fun b o hb e => eb b o hb e) f0 f1 f3 f4 f5⟩
  self := fun _ _ _ _ _ st h => wpAny_pyIter_tupleiter st h
theorem turn_range {P : Program} {w : World} {K : PySem.W.Frag} {tg : Expr} (it : Addr) (lo : Int) (n : Nat) : Turn P w K tg (Itr lo n) [it] it (fun i h => IsRangeIter h it (lo + (i : Nat) * 1) ((n : Int) - (i : Nat)) 1) where
  mem := by simp
  obj := fun i h st b hb => by
    have e : b = it := by simpa using hb
    subst e
    exact ⟨_, st, fun v z => by
      have z' : Data.fields _ = Data.cell v := z
      cases z'⟩
  keep := fun i h h' st k => k it (by simp) _ st
  item := by
    intro X hP hw hK hc i pins s σ H E I hf st hg
    subst hP hw hK
    obtain ⟨f0, f1, f2, f3, f4, f5⟩ := hf it (by simp)
    have W := Walks.range (prog := X.prog) (w := X.w) (I.ok.hd hc) it lo 1 n
    refine W.item i s _ _ hg st fun v h' tk hv st' kk => ?_
    obtain ⟨t, rfl⟩ := hv
    have I1 : Inv X pins σ H { s with heap := h', toks := tk } := I.turned (fun b o hb e => kk b o (by simpa using hb) e) f0 f1 f3 f4 f5
    refine ⟨_, rfl, go_of (s := { s with heap := h', toks := tk }) (n := "range_iterator") st' rfl rfl (by decide) ⟨.int (lo + i), H, I1, ⟨t, ?_⟩, ⟨rfl, rfl⟩, st', fun b hb => (hf b hb).1⟩⟩
    rw [Int.mul_one]
  done := by
    intro X hP hw hK hc i pins s σ H E I hf st hg
    subst hP hw hK
    obtain ⟨f0, f1, f2, f3, f4, f5⟩ := hf it (by simp)
    exact wpAny_pyNext_range_end (I.ok.hd hc) st (by have : n ≤ i := hg; omega) fun h' eb => ⟨rfl, I.turned (t' := s.toks) (fun b o hb e => eb b o hb e) f0 f1 f3 f4 f5⟩
  self := fun _ _ _ _ _ st h => wpAny_pyIter_rangeiter st h
end L2
namespace L2
open PySem PySem.Spec PyProof.Rows
section
variable {X : Cx} {tg : Expr}
def iList (K : PySem.W.Frag) (tl : TE) : TI := fun σ H R => tl σ H fun x H1 => ∃ a, x = .ref a ∧ (∃ xs, SqL K H1 a xs) ∧ R (Itl K a) H1
def iTup (K : PySem.W.Frag) (tl : TE) : TI := fun σ H R => tl σ H fun x H1 => ∃ a, x = .ref a ∧ (∃ xs, SqT K H1 a xs) ∧ R (Itt K a) H1
theorem pi_list {l : Expr} {tl : TE} (hl : PE X l tl) : PI X tg l (iList X.K tl) := by
  intro pins s σ H R I h
  refine thn (hl pins s σ H _ I h) fun v s1 hh_ => ?_
  refine L2.goal_let ?_
  intro q_
  obtain ⟨x, H1, I1, r1, q1⟩ := hh_
  dsimp only [q_]
  clear q_
  refine L2.goal_let ?_
  intro q_
  obtain ⟨a, e, ⟨xs, hq⟩, q⟩ := q1
  dsimp only [q_]
  clear q_
  subst e
  cases r1
  obtain ⟨its, rv, p, hz⟩ := I1.list hq
  refine wpAny_pyIter_list p.isList ?_
  refine ⟨s1.heap.objs.size, [s1.heap.objs.size], _, _, H1, rfl, I1.kept (t' := s1.toks) fun b o e => Heap.get?_push_of_some _ e, turn_list a _, ⟨_, Heap.get?_push_size _ rfl, rfl, rfl⟩, fun b hb => ?_, q⟩
  have e : b = s1.heap.objs.size := by simpa using hb
  subst e
  exact I1.fpOk (Nat.le_refl _) (I1.hok.fresh (Nat.le_refl _))
theorem pi_tup {l : Expr} {tl : TE} (hl : PE X l tl) : PI X tg l (iTup X.K tl) := by
  intro pins s σ H R I h
  refine thn (hl pins s σ H _ I h) fun v s1 hh_ => ?_
  refine L2.goal_let ?_
  intro q_
  obtain ⟨x, H1, I1, r1, q1⟩ := hh_
  dsimp only [q_]
  clear q_
  refine L2.goal_let ?_
  intro q_
  obtain ⟨a, e, ⟨xs, hq⟩, q⟩ := q1
  dsimp only [q_]
  clear q_
  subst e
  cases r1
  obtain ⟨its, rv, p, hz⟩ := I1.tuple hq
  refine wpAny_pyIter_tuple (show s1.heap.IsTuple a its.toArray from p) ?_
  refine ⟨s1.heap.objs.size, [s1.heap.objs.size], _, _, H1, rfl, I1.kept (t' := s1.toks) fun b o e => Heap.get?_push_of_some _ e, turn_tuple a _, ⟨_, Heap.get?_push_size _ rfl, rfl, rfl⟩, fun b hb => ?_, q⟩
  have e : b = s1.heap.objs.size := by simpa using hb
  subst e
  exact I1.fpOk (Nat.le_refl _) (I1.hok.fresh (Nat.le_refl _))
theorem range_it {pins : List (Addr × Obj)} {σ : St} {H : Hp} {s : Shared} {R : It → Hp → Prop} {E : Value → Shared → Prop} {lo hi : Int} {t u v : Tok} {tk : Nat} (I : Inv X pins σ H s) (h1 : -(2 ^ 62) ≤ lo) (h2 : lo < 2 ^ 62) (h3 : -(2 ^ 62) ≤ hi) (h4 : hi < 2 ^ 62)
    (q : R (Itr lo (hi - lo).toNat) H) : wpAny (model X.prog X.w) X.A (pyIter (.ref s.heap.objs.size)) (PIE X pins σ tg R) E { s with heap := s.heap.push { cls := .type "range", data := .fields #[.int lo t, .int hi u, .int 1 v] }, toks := tk } := by
  refine wpAny_pyIter_range (IsRange.new ..) (small_one h1 h2 h3 h4) ?_
  have I1 : Inv X pins σ H { s with heap := s.heap.push { cls := .type "range", data := .fields #[.int lo t, .int hi u, .int 1 v] }, toks := tk } := I.kept fun b o e => Heap.get?_push_of_some _ e
  refine ⟨(s.heap.push { cls := .type "range", data := .fields #[.int lo t, .int hi u, .int 1 v] }).objs.size, [(s.heap.push { cls := .type "range", data := .fields #[.int lo t, .int hi u, .int 1 v] }).objs.size], _, _, H, rfl,
    I1.kept (t' := tk) fun b o e => Heap.get?_push_of_some _ e, turn_range _ lo (hi - lo).toNat, ?_, fun b hb => ?_, q⟩
  · have e1 : lo + ((0 : Nat) : Int) * 1 = lo := by simp
    have e2 : (((hi - lo).toNat : Nat) : Int) - ((0 : Nat) : Int) = Builtin.Range.rangeSize lo hi 1 := by rw [rangeSize_one]; split <;> omega
    show IsRangeIter _ _ (lo + ((0 : Nat) : Int) * 1) ((((hi - lo).toNat : Nat) : Int) - ((0 : Nat) : Int)) 1
    rw [e1, e2]
    exact Heap.get?_push_size _ rfl
  · have e : b = (s.heap.push { cls := .type "range", data := .fields #[.int lo t, .int hi u, .int 1 v] }).objs.size := by simpa using hb
    subst e
    exact I1.fpOk (Nat.le_refl _) (I1.hok.fresh (Nat.le_refl _))
def iRng1 (ta : TA) : TI := fun σ H R => ta σ H fun vs H1 => ∃ j : Int, vs = [.int j] ∧ -(2 ^ 62) ≤ j ∧ j < 2 ^ 62 ∧ R (Itr 0 j.toNat) H1
def iRng2 (ta : TA) : TI := fun σ H R => ta σ H fun vs H1 => ∃ i j : Int, vs = [.int i, .int j] ∧ (-(2 ^ 62) ≤ i ∧ i < 2 ^ 62 ∧ -(2 ^ 62) ≤ j ∧ j < 2 ^ 62) ∧ R (Itr i (j - i).toNat) H1
theorem pi_range1 {a : Expr} {ta : TA} {p pos : Pos} (hg : Gl X "range") (hm : X.mg "range" = none) (ha : PA X [a] ta) (hs : starEach [a] X.env = [(false, eval a X.env)] := by rfl) : PI X tg (.Call (.Name "range" p) [a] [] pos) (iRng1 ta) := by
  intro pins s σ H R I h
  refine Call_ (ld_blt I hg hm boot_range (PyProof.Rows.callWith_type1 (thn (ha pos pins s σ H _ I h) fun us s1 ⟨vs, H1, I1, r1, q1⟩ => ?_) hs rfl))
  refine L2.goal_let ?_
  intro q_
  obtain ⟨j, e, q1, q2, q⟩ := q1
  dsimp only [q_]
  clear q_
  subst e
  cases r1 with
  | cons r rr =>
    cases rr
    obtain ⟨t, rfl⟩ := r
    exact call_range_1 (range_it I1 (by omega) (by omega) q1 q2 (by simpa using q))
theorem pi_range2 {a b : Expr} {ta : TA} {p pos : Pos} (hg : Gl X "range") (hm : X.mg "range" = none) (ha : PA X [a, b] ta) (hs : starEach [a, b] X.env = [(false, eval a X.env), (false, eval b X.env)] := by rfl) (hs2 : starEach [b] X.env = [(false, eval b X.env)] := by rfl) :
    PI X tg (.Call (.Name "range" p) [a, b] [] pos) (iRng2 ta) := by
  intro pins s σ H R I h
  refine Call_ (ld_blt I hg hm boot_range (PyProof.Rows.callWith_type1 (thn (ha pos pins s σ H _ I h) fun us s1 ⟨vs, H1, I1, r1, q1⟩ => ?_) (by rw [hs, hs2]) (by rw [hs2]; rfl)))
  refine L2.goal_let ?_
  intro q_
  obtain ⟨i, j, e, ⟨q1, q2, q3, q4⟩, q⟩ := q1
  dsimp only [q_]
  clear q_
  subst e
  cases r1 with
  | cons r rr =>
    cases rr with
    | cons r' rr =>
      cases rr
      obtain ⟨t, rfl⟩ := r
      obtain ⟨t', rfl⟩ := r'
      exact call_range_2 (range_it I1 q1 q2 q3 q4 q)
def tFor (wi : TI) (g : TG) (tb : TS) : TS := fun D σ H => wi σ H fun J H1 => ∃ W : Nat → Nat → St → Hp → Prop, (∃ m, W 0 m σ H1) ∧ ∀ i m σ H, W i m σ H →
  (J.stop i H ∧ D.nx σ H) ∨ (J.go i H ∧ ∃ N : St → Hp → Prop, (∀ σ' H', N σ' H' → ∃ m', m' < m ∧ W (i + 1) m' σ' H') ∧ ∀ x H', J.yld i H x H' → g x σ H' fun σ2 H2 => tb { D with nx := N, ct := N, bk := D.nx } σ2 H2)
def pinsAt (fp : List Addr) (h : Heap) : List (Addr × Obj) := fp.filterMap fun b => (h.get? b).map fun o => (b, o)
theorem mem_pinsAt {fp : List Addr} {h : Heap} {b : Addr} {o : Obj} (hb : b ∈ fp) (e : h.get? b = some o) : (b, o) ∈ pinsAt fp h := List.mem_filterMap.mpr ⟨b, hb, by rw [e]; rfl⟩
theorem of_pinsAt {fp : List Addr} {h : Heap} {p : Addr × Obj} (hp : p ∈ pinsAt fp h) : p.1 ∈ fp ∧ h.get? p.1 = some p.2 := by
  obtain ⟨b, hb, e⟩ := List.mem_filterMap.mp hp
  cases q : h.get? b with
  | none => rw [q] at e; cases e
  | some o =>
    rw [q] at e
    have e' : (b, o) = p := Option.some.inj e
    subst e'
    exact ⟨hb, q⟩
theorem Inv.pinned {pins : List (Addr × Obj)} {σ : St} {H : Hp} {s : Shared} {fp : List Addr} (I : Inv X pins σ H s) (hf : ∀ b ∈ fp, FpOk X pins H b) (ho : ∀ b ∈ fp, ∃ o, s.heap.get? b = some o ∧ ∀ v, o.data ≠ .cell v) : Inv X (pins ++ pinsAt fp s.heap) σ H s :=
  I.pins_of fun p hp => (List.mem_append.mp hp).elim (fun z => I.pin p (List.mem_append_right _ z)) fun z => by
    obtain ⟨hb, e⟩ := of_pinsAt z
    obtain ⟨f0, f1, f2, _⟩ := hf p.1 hb
    obtain ⟨o, e', d⟩ := ho p.1 hb
    rw [e] at e'; cases e'
    exact ⟨e, f0, f1, f2, d⟩
theorem Inv.unpinned {pins pl : List (Addr × Obj)} {σ : St} {H : Hp} {s : Shared} (I : Inv X (pins ++ pl) σ H s) : Inv X pins σ H s := I.pins_of fun p hp => I.pin p (List.mem_append_right _ (List.mem_append_left _ hp))
theorem ps_for {iter : Expr} {body : List Stmt} {wi : TI} {g : TG} {tb : TS} {pos : Pos} (hp : PassesOwn (model X.prog X.w) X.A X.env X.xe) (hc : X.calm = true) (hi : PI X tg iter wi) (hg : PG X tg g) (hb : PSs X body tb)
    (hs : ∀ x, foldedSetIterable iter X.env x = pure x := by intro _; rfl) : PS X (.For tg iter body [] pos) (tFor wi g tb) := by
  intro pins s σ H D I h
  refine wpAny_For (thn (hi pins s σ H _ I h) fun v s1 h1 => thn h1 fun itv s2 h2 => ?_) hs
  refine L2.goal_let ?_
  intro q_
  obtain ⟨it, fp, tn, J, H2, e, I2, T, st2, f2, W, ⟨m0, w0⟩, turn⟩ := h2
  dsimp only [q_]
  clear q_
  subst e
  -- what stays true of the iterator's objects through the loop
  have stat : ∀ {H' : Hp}, (∀ b ∈ fp, H' b = none) → ∀ b ∈ fp, FpOk X pins H' b := fun hn b hb => ⟨hn b hb, (f2 b hb).2⟩
  refine codeAny_forLoop_any (fun n s' => ∃ i σ' H', Inv X pins σ' H' s' ∧ tn i s'.heap ∧ (∀ b ∈ fp, H' b = none) ∧ W i n σ' H') ?_ m0 ⟨0, σ, H2, I2, st2, fun b hb => (f2 b hb).1, w0⟩
  intro n s3 hh_
  refine L2.goal_let ?_
  intro q_
  obtain ⟨i, σ3, H3, I3, st3, fr3, w3⟩ := hh_
  dsimp only [q_]
  clear q_
  rcases turn i n σ3 H3 w3 with ⟨stop, qn⟩ | ⟨go, N, hN, step⟩
  · refine wpAny_passesOwn hp (thn (T.done X rfl rfl rfl hc i pins s3 σ3 H3 X.xe I3 (stat fr3) st3 stop) fun r s4 hh_ => ?_)
    refine L2.goal_let ?_
    intro q_
    obtain ⟨hr, I4⟩ := hh_
    dsimp only [q_]
    clear q_
    subst hr
    exact wpAny_execs_nil ⟨σ3, H3, I4, qn⟩
  · refine wpAny_passesOwn hp (thn (T.item X rfl rfl rfl hc i pins s3 σ3 H3 X.xe I3 (stat fr3) st3 go) fun r s4 hh_ => ?_)
    refine L2.goal_let ?_
    intro q_
    obtain ⟨u, hr, h4⟩ := hh_
    dsimp only [q_]
    clear q_
    subst hr
    refine wpAny_passesOwn hp (thn h4 fun _ s5 hh_ => ?_)
    refine L2.goal_let ?_
    intro q_
    obtain ⟨x, H5, I5, r5, y5, st5, fr5⟩ := hh_
    dsimp only [q_]
    clear q_
    have I5' := I5.pinned (stat fr5) (T.obj _ _ st5)
    refine wpAny_passesOwn hp (thn (hg _ s5 σ3 H5 x u _ I5' r5 (step x H5 y5)) fun _ s6 hh_ => ?_)
    refine L2.goal_let ?_
    intro q_
    obtain ⟨σ6, H6, I6, q6⟩ := hh_
    dsimp only [q_]
    clear q_
    refine wpAny_passesOwn hp (thn (hb _ s6 σ6 H6 _ I6 q6) fun f s7 q7 => ?_)
    have again : ∀ {σ7 : St} {H7 : Hp}, Inv X (pins ++ pinsAt fp s5.heap) σ7 H7 s7 → N σ7 H7 → ∃ m, m < n ∧ ∃ i σ' H', Inv X pins σ' H' s7 ∧ tn i s7.heap ∧ (∀ b ∈ fp, H' b = none) ∧ W i m σ' H' := fun {σ7 H7} I7 n7 => by
      obtain ⟨m', hm, w7⟩ := hN σ7 H7 n7
      refine ⟨m', hm, i + 1, σ7, H7, I7.unpinned, T.keep _ _ _ st5 fun b hb o e => (I7.pin (b, o) (List.mem_append_right _ (List.mem_append_right _ (mem_pinsAt hb e)))).1, fun b hb => ?_, w7⟩
      obtain ⟨o, e, d⟩ := T.obj _ _ st5 b hb
      exact (I7.pin (b, o) (List.mem_append_right _ (List.mem_append_right _ (mem_pinsAt hb e)))).2.1
    cases f with
    | next => obtain ⟨σ7, H7, I7, n7⟩ := q7; exact again I7 n7
    | cont => obtain ⟨σ7, H7, I7, n7⟩ := q7; exact again I7 n7
    | brk => obtain ⟨σ7, H7, I7, q7⟩ := q7; exact ⟨σ7, H7, I7.unpinned, q7⟩
    | ret v => obtain ⟨x7, σ7, H7, I7, r7, q7⟩ := q7; exact ⟨x7, σ7, H7, I7.unpinned, r7, q7⟩
end
theorem for_list {K : PySem.W.Frag} {a : Addr} {xs : List V} {g : TG} {tb : TS} {D : Ends} {σ : St} {H : Hp} (Pv : Nat → St → Hp → Prop) (h0 : Pv 0 σ H) (hl : ∀ i σ H, i ≤ xs.length → Pv i σ H → SqL K H a xs)
    (hs : ∀ i x σ H, xs[i]? = some x → Pv i σ H → g x σ H fun σ2 H2 => tb { D with nx := Pv (i + 1), ct := Pv (i + 1), bk := D.nx } σ2 H2) (hd : ∀ σ H, Pv xs.length σ H → D.nx σ H) :
    ∃ W : Nat → Nat → St → Hp → Prop, (∃ m, W 0 m σ H) ∧ ∀ i m σ H, W i m σ H →
      ((Itl K a).stop i H ∧ D.nx σ H) ∨ ((Itl K a).go i H ∧ ∃ N : St → Hp → Prop, (∀ σ' H', N σ' H' → ∃ m', m' < m ∧ W (i + 1) m' σ' H') ∧ ∀ x H', (Itl K a).yld i H x H' → g x σ H' fun σ2 H2 => tb { D with nx := N, ct := N, bk := D.nx } σ2 H2) := by
  refine ⟨fun i m σ H => m = xs.length - i ∧ i ≤ xs.length ∧ Pv i σ H, ⟨xs.length, by simp, Nat.zero_le _, h0⟩, ?_⟩
  rintro i m σ H ⟨rfl, hi, p⟩
  have q := hl i σ H hi p
  by_cases hlt : i < xs.length
  · refine .inr ⟨⟨xs, xs[i], q, by simp [hlt]⟩, Pv (i + 1), fun σ' H' p' => ⟨xs.length - (i + 1), by omega, rfl, hlt, p'⟩, fun x H' y => ?_⟩
    obtain ⟨e, y⟩ := y
    subst e
    exact hs i x σ _ (y xs q) p
  · have e : i = xs.length := by omega
    subst e
    exact .inl ⟨⟨xs, q, Nat.le_refl _⟩, hd σ H p⟩
theorem for_tup {K : PySem.W.Frag} {a : Addr} {xs : List V} {g : TG} {tb : TS} {D : Ends} {σ : St} {H : Hp} (Pv : Nat → St → Hp → Prop) (h0 : Pv 0 σ H) (hl : ∀ i σ H, i ≤ xs.length → Pv i σ H → SqT K H a xs)
    (hs : ∀ i x σ H, xs[i]? = some x → Pv i σ H → g x σ H fun σ2 H2 => tb { D with nx := Pv (i + 1), ct := Pv (i + 1), bk := D.nx } σ2 H2) (hd : ∀ σ H, Pv xs.length σ H → D.nx σ H) :
    ∃ W : Nat → Nat → St → Hp → Prop, (∃ m, W 0 m σ H) ∧ ∀ i m σ H, W i m σ H →
      ((Itt K a).stop i H ∧ D.nx σ H) ∨ ((Itt K a).go i H ∧ ∃ N : St → Hp → Prop, (∀ σ' H', N σ' H' → ∃ m', m' < m ∧ W (i + 1) m' σ' H') ∧ ∀ x H', (Itt K a).yld i H x H' → g x σ H' fun σ2 H2 => tb { D with nx := N, ct := N, bk := D.nx } σ2 H2) := by
  refine ⟨fun i m σ H => m = xs.length - i ∧ i ≤ xs.length ∧ Pv i σ H, ⟨xs.length, by simp, Nat.zero_le _, h0⟩, ?_⟩
  rintro i m σ H ⟨rfl, hi, p⟩
  have q := hl i σ H hi p
  by_cases hlt : i < xs.length
  · refine .inr ⟨⟨xs, xs[i], q, by simp [hlt]⟩, Pv (i + 1), fun σ' H' p' => ⟨xs.length - (i + 1), by omega, rfl, hlt, p'⟩, fun x H' y => ?_⟩
    obtain ⟨e, y⟩ := y
    subst e
    exact hs i x σ _ (y xs q) p
  · have e : i = xs.length := by omega
    subst e
    exact .inl ⟨⟨xs, q, Nat.le_refl _⟩, hd σ H p⟩
theorem for_range {lo : Int} {n : Nat} {g : TG} {tb : TS} {D : Ends} {σ : St} {H : Hp} (Pv : Nat → St → Hp → Prop) (h0 : Pv 0 σ H)
    (hs : ∀ i σ H, i < n → Pv i σ H → g (.int (lo + i)) σ H fun σ2 H2 => tb { D with nx := Pv (i + 1), ct := Pv (i + 1), bk := D.nx } σ2 H2) (hd : ∀ σ H, Pv n σ H → D.nx σ H) :
    ∃ W : Nat → Nat → St → Hp → Prop, (∃ m, W 0 m σ H) ∧ ∀ i m σ H, W i m σ H →
      ((Itr lo n).stop i H ∧ D.nx σ H) ∨ ((Itr lo n).go i H ∧ ∃ N : St → Hp → Prop, (∀ σ' H', N σ' H' → ∃ m', m' < m ∧ W (i + 1) m' σ' H') ∧ ∀ x H', (Itr lo n).yld i H x H' → g x σ H' fun σ2 H2 => tb { D with nx := N, ct := N, bk := D.nx } σ2 H2) := by
  refine ⟨fun i m σ H => m = n - i ∧ i ≤ n ∧ Pv i σ H, ⟨n, by simp, Nat.zero_le _, h0⟩, ?_⟩
  rintro i m σ H ⟨rfl, hi, p⟩
  by_cases hlt : i < n
  · refine .inr ⟨hlt, Pv (i + 1), fun σ' H' p' => ⟨n - (i + 1), by omega, rfl, hlt, p'⟩, fun x H' y => ?_⟩
    obtain ⟨e, y⟩ := y
    subst e y
    exact hs i σ _ hlt p
  · have e : i = n := by omega
    subst e
    exact .inl ⟨Nat.le_refl _, hd σ H p⟩
end L2
namespace L2
open PySem PySem.Spec PyProof.Rows
abbrev R2 := V → V → Hp → VK → Prop
def OpR (X : Cx) (f : Value → Value → Sem Value) (r : R2) : Prop :=
  ∀ (pins : List (Addr × Obj)) (s : Shared) (σ : St) (H : Hp) (x y : V) (v u : Value) (Q : VK), Inv X pins σ H s → RelV x v → RelV y u → r x y H Q →
    wpAny (model X.prog X.w) X.A (f v u) (EP X pins σ Q) X.xe s
def UnR (X : Cx) (f : Value → Sem Value) (r : V → Hp → VK → Prop) : Prop :=
  ∀ (pins : List (Addr × Obj)) (s : Shared) (σ : St) (H : Hp) (x : V) (v : Value) (Q : VK), Inv X pins σ H s → RelV x v → r x H Q →
    wpAny (model X.prog X.w) X.A (f v) (EP X pins σ Q) X.xe s
def CallR (X : Cx) (f : Value) (r : List V → Hp → VK → Prop) : Prop :=
  ∀ (pins : List (Addr × Obj)) (s : Shared) (σ : St) (H : Hp) (xs : List V) (us : List Value) (Q : VK), Inv X pins σ H s → Vals xs us → r xs H Q →
    wpAny (model X.prog X.w) X.A (call f us) (EP X pins σ Q) X.xe s
def tOp (r : R2) (ta tb : TE) : TE := fun σ H Q => ta σ H fun x H1 => tb σ H1 fun y H2 => r x y H2 Q
def tUn (r : V → Hp → VK → Prop) (ta : TE) : TE := fun σ H Q => ta σ H fun x H1 => r x H1 Q
def rI (C : Int → Int → Prop) (g : Int → Int → V) : R2 := fun x y H Q => ∃ i j, x = .int i ∧ y = .int j ∧ C i j ∧ Q (g i j) H
def rI0 (g : Int → Int → V) : R2 := fun x y H Q => ∃ i j, x = .int i ∧ y = .int j ∧ Q (g i j) H
def rU (g : Int → V) : V → Hp → VK → Prop := fun x H Q => ∃ i, x = .int i ∧ Q (g i) H
section
variable {X : Cx} {a b c : Expr} {ta tb tc : TE} {pos : Pos}
theorem binT (ha : PE X a ta) (hb : PE X b tb) {pins : List (Addr × Obj)} {s : Shared} {σ : St} {H : Hp} {R : V → V → Hp → Prop} (I : Inv X pins σ H s)
    (h : ta σ H fun x H1 => tb σ H1 fun y H2 => R x y H2) {Q : Value → Shared → Prop} {f : Value → Value → Sem Value}
    (hf : ∀ v u s2 x y H2, Inv X pins σ H2 s2 → RelV x v → RelV y u → R x y H2 → wpAny (model X.prog X.w) X.A (f v u) Q X.xe s2) :
    wpAny (model X.prog X.w) X.A (eval a X.env) (fun v s₁ => wpAny (model X.prog X.w) X.A (eval b X.env) (fun u s₂ => wpAny (model X.prog X.w) X.A (f v u) Q X.xe s₂) X.xe s₁) X.xe s := by
  refine thn (ha pins s σ H _ I h) fun v s1 hh_ => ?_
  refine L2.goal_let ?_
  intro q_
  obtain ⟨x, H1, I1, r1, q1⟩ := hh_
  dsimp only [q_]
  clear q_
  refine thn (hb pins s1 σ H1 _ I1 q1) fun u s2 hh_ => ?_
  refine L2.goal_let ?_
  intro q_
  obtain ⟨y, H2, I2, r2, q2⟩ := hh_
  dsimp only [q_]
  clear q_
  exact hf v u s2 x y H2 I2 r1 r2 q2
theorem pe_op {op : Operator} {r : R2} (ho : OpR X (binaryOp op) r) (ha : PE X a ta) (hb : PE X b tb) : PE X (.BinOp a op b pos) (tOp r ta tb) := by
  intro pins s σ H Q I h
  exact wpAny_BinOp (binT ha hb I h fun v u s2 x y H2 I2 rx ry q => ho pins s2 σ H2 x y v u Q I2 rx ry q)
theorem pe_un {op : UnaryOp} {r : V → Hp → VK → Prop} (ho : UnR X (unaryOp op) r) (ha : PE X a ta) : PE X (.UnaryOp op a pos) (tUn r ta) := by
  intro pins s σ H Q I h
  exact UnaryOp_ (thn (ha pins s σ H _ I h) fun v s1 ⟨x, H1, I1, r1, q1⟩ => ho pins s1 σ H1 x v Q I1 r1 q1)
theorem opI {f : Value → Value → Sem Value} {C : Int → Int → Prop} {g : Int → Int → Int}
    (rule : ∀ (i j : Int) (t u : Tok) (s : Shared) (Q : Value → Shared → Prop) (E : Value → Shared → Prop), C i j → Q (.int (g i j) s.toks) { s with toks := s.toks + 1 } → wpAny (model X.prog X.w) X.A (f (.int i t) (.int j u)) Q E s) :
    OpR X f (rI C fun i j => .int (g i j)) := by
  intro pins s σ H x y v u Q I rx ry h
  refine L2.goal_let ?_
  intro q_
  obtain ⟨i, j, rfl, rfl, hc, q⟩ := h
  dsimp only [q_]
  clear q_
  obtain ⟨t, rfl⟩ := rx
  obtain ⟨t', rfl⟩ := ry
  exact rule i j t t' s _ _ hc ⟨.int (g i j), H, I.tok _, ⟨_, rfl⟩, q⟩
theorem opI0 {f : Value → Value → Sem Value} {g : Int → Int → Int}
    (rule : ∀ (i j : Int) (t u : Tok) (s : Shared) (Q : Value → Shared → Prop) (E : Value → Shared → Prop), Q (.int (g i j) s.toks) { s with toks := s.toks + 1 } → wpAny (model X.prog X.w) X.A (f (.int i t) (.int j u)) Q E s) :
    OpR X f (rI0 fun i j => .int (g i j)) := by
  intro pins s σ H x y v u Q I rx ry h
  refine L2.goal_let ?_
  intro q_
  obtain ⟨i, j, rfl, rfl, q⟩ := h
  dsimp only [q_]
  clear q_
  obtain ⟨t, rfl⟩ := rx
  obtain ⟨t', rfl⟩ := ry
  exact rule i j t t' s _ _ ⟨.int (g i j), H, I.tok _, ⟨_, rfl⟩, q⟩
theorem opB0 {f : Value → Value → Sem Value} {g : Int → Int → Bool}
    (rule : ∀ (i j : Int) (t u : Tok) (s : Shared) (Q : Value → Shared → Prop) (E : Value → Shared → Prop), Q (.bool (g i j)) s → wpAny (model X.prog X.w) X.A (f (.int i t) (.int j u)) Q E s) :
    OpR X f (rI0 fun i j => .bl (g i j)) := by
  intro pins s σ H x y v u Q I rx ry h
  refine L2.goal_let ?_
  intro q_
  obtain ⟨i, j, rfl, rfl, q⟩ := h
  dsimp only [q_]
  clear q_
  obtain ⟨t, rfl⟩ := rx
  obtain ⟨t', rfl⟩ := ry
  exact rule i j t t' s _ _ ⟨.bl (g i j), H, I, rfl, q⟩
def CDiv (i j : Int) : Prop := 0 < j ∧ j < 1073741824
def CMul (i j : Int) : Prop := (-(2 ^ 64) < i ∧ i < 2 ^ 64) ∨ (-(2 ^ 64) < j ∧ j < 2 ^ 64)
theorem CMul.ok {i j : Int} (h : CMul i j) : IntMulOk i j := by
  rcases h with ⟨h1, h2⟩ | ⟨h1, h2⟩
  · exact .of_left (intBits_le_64 h1 h2)
  · exact .of_right (intBits_le_64 h1 h2)
theorem op_add : OpR X (binaryOp .Add) (rI0 fun i j => .int (i + j)) := opI0 fun _ _ _ _ _ _ _ q => add_int q
theorem op_sub : OpR X (binaryOp .Sub) (rI0 fun i j => .int (i - j)) := opI0 fun _ _ _ _ _ _ _ q => sub_int q
theorem op_mul : OpR X (binaryOp .Mult) (rI CMul fun i j => .int (i * j)) := opI fun _ _ _ _ _ _ _ hc q => mul_int q hc.ok
theorem op_fdiv : OpR X (binaryOp .FloorDiv) (rI CDiv fun i j => .int (i / j)) := opI fun i j _ _ _ _ _ hc q => by
  have h1 : (0 : Int) < j := hc.1
  have h2 : j < 1073741824 := hc.2
  exact floordiv_int (by omega) (by rw [Int.fdiv_eq_ediv_of_nonneg i (by omega)]; exact q) (.inl (PyProof.noPylong_small (by omega)))
theorem op_mod : OpR X (binaryOp .Mod) (rI (fun _ j => 0 < j) fun i j => .int (i % j)) := opI fun i j _ _ _ _ _ hc q => by
  have h1 : (0 : Int) < j := hc
  exact mod_int' (by omega) (by rw [Int.fmod_eq_emod_of_nonneg i (by omega)]; exact q)
theorem unI {f : Value → Sem Value} {g : Int → Int}
    (rule : ∀ (i : Int) (t : Tok) (s : Shared) (Q : Value → Shared → Prop) (E : Value → Shared → Prop), Q (.int (g i) s.toks) { s with toks := s.toks + 1 } → wpAny (model X.prog X.w) X.A (f (.int i t)) Q E s) :
    UnR X f (rU fun i => .int (g i)) := by
  intro pins s σ H x v Q I rx h
  obtain ⟨i, rfl, q⟩ := h
  obtain ⟨t, rfl⟩ := rx
  exact rule i t s _ _ ⟨.int (g i), H, I.tok _, ⟨_, rfl⟩, q⟩
theorem un_neg : UnR X (unaryOp .USub) (rU fun i => .int (-i)) := unI fun _ _ _ _ _ q => neg_int q
end
def scal : V → V → Bool
  | .non, .non => true | .non, .int _ => true | .int _, .non => true | .non, .bl _ => true | .bl _, .non => true | .non, .str _ => true | .str _, .non => true
  | .int _, .int _ => true | .bl _, .bl _ => true | .str _, .str _ => true | .byt _, .byt _ => true
  | .int _, .str _ => true | .str _, .int _ => true | .bl _, .str _ => true | .str _, .bl _ => true
  | _, _ => false
def rEq : R2 := fun x y H Q => scal x y = true ∧ Q (.bl (decide (x = y))) H
def rNe : R2 := fun x y H Q => scal x y = true ∧ Q (.bl (!decide (x = y))) H
theorem dec_int {i j : Int} : decide (V.int i = V.int j) = (i == j) := by
  rw [Bool.eq_iff_iff]
  simp
theorem dec_bl {i j : Bool} : decide (V.bl i = V.bl j) = (i == j) := by
  rw [Bool.eq_iff_iff]
  simp
theorem dec_str {i j : Str} : decide (V.str i = V.str j) = (i == j) := by
  rw [Bool.eq_iff_iff]
  simp
theorem dec_byt {i j : Array UInt8} : decide (V.byt i = V.byt j) = (i.toList == j.toList) := by
  rw [Bool.eq_iff_iff]
  cases i
  cases j
  simp
section
variable {X : Cx} {a b c : Expr} {ta tb tc : TE} {pos : Pos}
theorem fin_bl {pins : List (Addr × Obj)} {σ : St} {H : Hp} {s : Shared} {Q : VK} {k k' : Bool} (I : Inv X pins σ H s) (q : Q (.bl k) H) (e : k = k') : EP X pins σ Q (.bool k') s := by
  subst e
  exact ⟨.bl k, H, I, rfl, q⟩
theorem op_eq : OpR X (compareOp .Eq) rEq := by
  intro pins s σ H x y v u Q I rx ry h
  obtain ⟨hs, q⟩ := h
  cases x with
  | non =>
    cases rx
    cases y with
    | non => cases ry; exact PySem.EqNone.eq_none_none (fin_bl I q (by simp))
    | bl j => cases ry; exact PySem.EqNone.eq_none_bool (fin_bl I q (by simp))
    | int j => obtain ⟨t', rfl⟩ := ry; exact PySem.EqNone.eq_none_int (fin_bl I q (by simp))
    | str j => obtain ⟨t', rfl⟩ := ry; exact PySem.EqNone.eq_none_str (fin_bl I q (by simp))
    | _ => exact absurd (show false = true from hs) Bool.false_ne_true
  | bl i =>
    cases rx
    cases y with
    | non => cases ry; exact PySem.EqNone.eq_bool_none (fin_bl I q (by simp))
    | bl j => cases ry; exact eq_bool (fin_bl I q dec_bl)
    | str j => obtain ⟨t', rfl⟩ := ry; exact PySem.EqMixed.eq_bool_str (fin_bl I q (by simp))
    | _ => exact absurd (show false = true from hs) Bool.false_ne_true
  | int i =>
    obtain ⟨t, rfl⟩ := rx
    cases y with
    | non => cases ry; exact PySem.EqNone.eq_int_none (fin_bl I q (by simp))
    | int j => obtain ⟨t', rfl⟩ := ry; exact eq_int (fin_bl I q dec_int)
    | str j => obtain ⟨t', rfl⟩ := ry; exact PySem.EqMixed.eq_int_str (fin_bl I q (by simp))
    | _ => exact absurd (show false = true from hs) Bool.false_ne_true
  | str i =>
    obtain ⟨t, rfl⟩ := rx
    cases y with
    | non => cases ry; exact PySem.EqNone.eq_str_none (fin_bl I q (by simp))
    | bl j => cases ry; exact PySem.EqMixed.eq_str_bool (fin_bl I q (by simp))
    | int j => obtain ⟨t', rfl⟩ := ry; exact PySem.EqMixed.eq_str_int (fin_bl I q (by simp))
    | str j => obtain ⟨t', rfl⟩ := ry; exact eq_str (fin_bl I q dec_str)
    | _ => exact absurd (show false = true from hs) Bool.false_ne_true
  | byt i =>
    obtain ⟨t, rfl⟩ := rx
    cases y with
    | byt j => obtain ⟨t', rfl⟩ := ry; exact PySem.W.eq_bytes (fin_bl I q dec_byt)
    | _ => exact absurd (show false = true from hs) Bool.false_ne_true
  | _ => cases y <;> exact absurd (show false = true from hs) Bool.false_ne_true
theorem op_ne : OpR X (compareOp .NotEq) rNe := by
  intro pins s σ H x y v u Q I rx ry h
  obtain ⟨hs, q⟩ := h
  cases x with
  | non =>
    cases rx
    cases y with
    | non => cases ry; exact PySem.EqNone.ne_none_none (fin_bl I q (by simp))
    | bl j => cases ry; exact PySem.EqNone.ne_none_bool (fin_bl I q (by simp))
    | int j => obtain ⟨t', rfl⟩ := ry; exact PySem.EqNone.ne_none_int (fin_bl I q (by simp))
    | str j => obtain ⟨t', rfl⟩ := ry; exact PySem.EqNone.ne_none_str (fin_bl I q (by simp))
    | _ => exact absurd (show false = true from hs) Bool.false_ne_true
  | bl i =>
    cases rx
    cases y with
    | non => cases ry; exact PySem.EqNone.ne_bool_none (fin_bl I q (by simp))
    | bl j => cases ry; exact ne_bool (fin_bl I q (congrArg not dec_bl))
    | str j => obtain ⟨t', rfl⟩ := ry; exact PySem.EqMixed.ne_bool_str (fin_bl I q (by simp))
    | _ => exact absurd (show false = true from hs) Bool.false_ne_true
  | int i =>
    obtain ⟨t, rfl⟩ := rx
    cases y with
    | non => cases ry; exact PySem.EqNone.ne_int_none (fin_bl I q (by simp))
    | int j => obtain ⟨t', rfl⟩ := ry; exact ne_int (fin_bl I q (congrArg not dec_int))
    | str j => obtain ⟨t', rfl⟩ := ry; exact PySem.EqMixed.ne_int_str (fin_bl I q (by simp))
    | _ => exact absurd (show false = true from hs) Bool.false_ne_true
  | str i =>
    obtain ⟨t, rfl⟩ := rx
    cases y with
    | non => cases ry; exact PySem.EqNone.ne_str_none (fin_bl I q (by simp))
    | bl j => cases ry; exact PySem.EqMixed.ne_str_bool (fin_bl I q (by simp))
    | int j => obtain ⟨t', rfl⟩ := ry; exact PySem.EqMixed.ne_str_int (fin_bl I q (by simp))
    | str j => obtain ⟨t', rfl⟩ := ry; exact ne_str (fin_bl I q (congrArg not dec_str))
    | _ => exact absurd (show false = true from hs) Bool.false_ne_true
  | byt i =>
    obtain ⟨t, rfl⟩ := rx
    cases y with
    | byt j => obtain ⟨t', rfl⟩ := ry; exact PySem.W.ne_bytes (fin_bl I q (congrArg not dec_byt))
    | _ => exact absurd (show false = true from hs) Bool.false_ne_true
  | _ => cases y <;> exact absurd (show false = true from hs) Bool.false_ne_true
theorem op_lt : OpR X (compareOp .Lt) (rI0 fun i j => .bl (decide (i < j))) := opB0 fun _ _ _ _ _ _ _ q => lt_int q
theorem op_gt : OpR X (compareOp .Gt) (rI0 fun i j => .bl (decide (j < i))) := opB0 fun _ _ _ _ _ _ _ q => gt_int q
theorem op_isN : OpR X (compareOp .Is) (fun x y H Q => y = .non ∧ Q (.bl (decide (x = .non))) H) := by
  intro pins s σ H x y v u Q I rx ry h
  obtain ⟨rfl, q⟩ := h
  cases ry
  refine is_none_gen (fin_bl I q ?_)
  cases x <;> first
    | (cases rx; rfl)
    | (obtain ⟨t, rfl⟩ := rx; rfl)
theorem nomark (b : Expr) {op : CmpOp} (h : op ≠ .In := by decide) (h2 : op ≠ .NotIn := by decide) : behindInMarks op b = false := by
  have e1 : (op == CmpOp.In) = false := by cases op <;> first | rfl | exact absurd rfl h
  have e2 : (op == CmpOp.NotIn) = false := by cases op <;> first | rfl | exact absurd rfl h2
  cases b <;> simp [behindInMarks, e1, e2]
theorem pe_cmpR {op : CmpOp} {r : R2} (ho : OpR X (compareOp op) r) (ha : PE X a ta) (hb : PE X b tb) (hm : behindInMarks op b = false) : PE X (.Compare a [op] [b] pos) (tOp r ta tb) := by
  intro pins s σ H Q I h
  exact wpAny_Compare1 (binT ha hb I h fun v u s2 x y H2 I2 rx ry q => ho pins s2 σ H2 x y v u Q I2 rx ry q) hm
def tTest (t : TE) : TT := fun σ H Q => t σ H fun x H' => ∃ k, x = .bl k ∧ Q k H'
theorem pt_cmpR {op : CmpOp} {r : R2} (ho : OpR X (compareOp op) r) (ha : PE X a ta) (hb : PE X b tb) (hm : behindInMarks op b = false) : PT X (.Compare a [op] [b] pos) (tTest (tOp r ta tb)) := by
  intro pins s σ H Q I h
  refine wpAny_isTrue_Compare1 (thn (ha pins s σ H _ I h) fun v s1 ⟨x, H1, I1, r1, q1⟩ => thn (hb pins s1 σ H1 _ I1 q1) fun u s2 ⟨y, H2, I2, r2, q2⟩ =>
    thn (ho pins s2 σ H2 x y v u _ I2 r1 r2 q2) fun c s3 ⟨z, H3, I3, r3, k, e, q3⟩ => ?_) hm
  subst e
  cases r3
  exact wpAny_truthy_bool ⟨H3, I3, q3⟩
theorem line63 : (sizeLine : Nat) < 2 ^ 63 := by rw [sizeLine_eq]; decide
theorem vals1 {x : V} {us : List Value} (r : Vals [x] us) : ∃ u, us = [u] ∧ RelV x u := by
  cases r with
  | cons r1 r2 => cases r2; exact ⟨_, rfl, r1⟩
theorem vals2 {x y : V} {us : List Value} (r : Vals [x, y] us) : ∃ u w', us = [u, w'] ∧ RelV x u ∧ RelV y w' := by
  cases r with
  | cons r1 r2 =>
    cases r2 with
    | cons r3 r4 => cases r4; exact ⟨_, _, rfl, r1, r3⟩
theorem call_abs : CallR X (.builtin "abs") (fun xs H Q => ∃ i, xs = [.int i] ∧ Q (.int (if i < 0 then -i else i)) H) := by
  intro pins s σ H xs us Q I r h
  obtain ⟨i, rfl, q⟩ := h
  obtain ⟨u, rfl, t, rfl⟩ := vals1 r
  exact call_abs_int fun u tk => ⟨.int (if i < 0 then -i else i), H, I.tok _, ⟨_, rfl⟩, q⟩
theorem call_min2 (hc : X.calm = true) : CallR X (.builtin "min") (fun xs H Q => ∃ i j, xs = [.int i, .int j] ∧ Q (.int (if j < i then j else i)) H) := by
  intro pins s σ H xs us Q I r h
  obtain ⟨i, j, rfl, q⟩ := h
  obtain ⟨u, w', rfl, ⟨t, rfl⟩, ⟨t', rfl⟩⟩ := vals2 r
  refine min_two_ints (I.ok.hd hc) fun h' tk k => ⟨_, H, I.kept k, ?_, q⟩
  by_cases hj : j < i
  · rw [if_pos hj, if_pos hj]; exact ⟨_, rfl⟩
  · rw [if_neg hj, if_neg hj]; exact ⟨_, rfl⟩
end
end L2
namespace L2
open PySem PySem.Spec PyProof.Rows
structure ObjM (h : Heap) (x dx C : Addr) (mA : Str → Option Value) : Prop where
  obj : h.get? x = some (PySem.W.instObj C dx)
  ns : h.Ns1 dx mA
  ne : dx ≠ x
theorem lookIn_ns {h : Heap} {dx : Addr} {mA : Str → Option Value} (n : h.Ns1 dx mA) : ∃ od, h.get? dx = some od ∧ ∀ name, PySem.W.lookIn name od = some (mA name) := by
  refine L2.goal_let ?_
  intro q_
  obtain ⟨o, es, ep, ho, hd, hk, _, hm⟩ := n
  dsimp only [q_]
  clear q_
  refine ⟨o, ho, fun name => ?_⟩
  have e := hm name
  unfold nsFind findBy at e
  rw [← Array.find?_toList] at e
  unfold PySem.W.lookIn
  rw [hd]
  dsimp only
  split
  · rename_i y q
    rw [q] at e
    exact congrArg some e
  · rename_i q
    rw [q] at e
    have a : es.toList.any (·.refKey) = false := by
      rw [List.any_eq_false]
      intro y hy
      obtain ⟨z, t, hkey⟩ := hk y (Array.mem_toList_iff.mp hy)
      simp [DictEntry.refKey, hkey]
    have a' : ¬ es.toList.any (·.refKey) = true := by rw [a]; exact Bool.false_ne_true
    rw [if_neg a']
    exact congrArg some e
theorem ObjM.look {h : Heap} {x dx C : Addr} {mA : Str → Option Value} (I : ObjM h x dx C mA) : ∃ od, PySem.W.InstAt h x (PySem.W.instObj C dx) C (some od) ∧ ∀ name, PySem.W.lookIn name od = some (mA name) :=
  let ⟨od, ho, hl⟩ := lookIn_ns I.ns
  ⟨od, ⟨I.obj, rfl, rfl, ho⟩, hl⟩
section
variable {prog : Program} {w : World} {A : Around} {E : Value → Shared → Prop} {s : Shared} {K : PySem.W.Frag} {x dx C f : Addr} {mA : Str → Option Value} {name : Str} {v : Value}
theorem get_map {expr : Bool} {Q : Value → Shared → Prop} (X : K.In s.heap) (I : ObjM s.heap x dx C mA) (hg : PySem.W.plainGet K C name = true) (hh : PySem.W.hasDictIn K C = true)
    (ha : PySem.W.findIn K (.ref C) name = some none) (hv : mA name = some v) (hv' : PySem.W.handedIn v = true) (h : Q v { s with toks := s.toks + 1 }) :
    wpAny (model prog w) A (getAttr (.ref x) name expr) Q E s := by
  obtain ⟨od, J, hl⟩ := I.look
  exact PySem.W.get_value X J (PySem.W.plainGet_of hg).1 (PySem.W.findObj_own hh ha rfl (by rw [hl, hv])) hv' h
theorem get_meth {pl : Sem Bool} {Q : Value × List Value → Shared → Prop} (X : K.In s.heap) (I : ObjM s.heap x dx C mA) (hg : PySem.W.plainGet K C name = true)
    (hf : PySem.W.findIn K (.ref C) name = some (some (.ref f))) (ht : PySem.W.isFn K (.ref f) = true) (hv : mA name = none) (h : Q (.ref f, [.ref x]) s) :
    wpAny (model prog w) A (getMethod (.ref x) name pl) Q E s := by
  obtain ⟨od, J, hl⟩ := I.look
  exact PySem.W.method_fn X J (PySem.W.plainGet_of hg).1 (PySem.W.plainGet_of hg).2 hf (beq_iff_eq.mp ht) (by show (PySem.W.lookIn name od).map (·.isSome) = some false; rw [hl, hv]; rfl) h
theorem set_map {ns : List Str} {Q : Unit → Shared → Prop} (X : K.In s.heap) (I : ObjM s.heap x dx C mA)
    (hs : PySem.W.findIn K (.ref C) "__setattr__" = some (some (.builtin "object.__setattr__"))) (hp : PySem.W.plainOver K C = true) (ht : PySem.W.takerIn K C name = some none) (hh : PySem.W.hasDictIn K C = true)
    (hw : PySem.Within mA ns) (hsz : ns.length ≤ sizeLine)
    (h : ∀ h', ObjM h' x dx C (fun y => if y = name then some v else mA y) → Heap.SameBut dx s.heap h' → Q () { s with heap := h', toks := s.toks + 2 }) :
    wpAny (model prog w) A (setAttr (.ref x) name v) Q E s := by
  obtain ⟨od, J, hl⟩ := I.look
  refine PySem.W.set_plain X J hs (PySem.W.osa_open (s := { s with toks := s.toks + 1 }) (r := none) X J hp ht fun b => ?_)
  obtain ⟨cd, hc, hd'⟩ := PySem.W.any_some hh
  have hx : s.heap.get? x = some ⟨.ref C, some dx, .plain, #[]⟩ := I.obj
  refine wpAny_bind (wpAny_pure (wpAny_bind (wpAny_bind (wpAny_loadPart hx (wpAny_bind (PySem.W.Looks.here (s := { s with toks := s.toks + 1 }) (PySem.W.looks_clsIn X hc) ?_))))))
  rw [hd']
  refine wpAny_pure (a := some dx) (wpAny_bind (wpAny_pure (wpAny_bind ?_)))
  refine wpAny_nsSet1 (s := { s with toks := s.toks + 1 }) I.ns fun h' hn2 hs2 => ?_
  obtain ⟨oD, esD, epD, hoD, hdD, hcD⟩ := hn2.count (PySem.Within.cons name v hw)
  refine wpAny_bind (wpAny_lookBehind hoD (by rw [hdD]; exact pastItsLine_dict (Nat.le_trans hcD (by rw [List.length_cons]; omega))) ?_)
  exact wpAny_pure (h _ ⟨(hs2.2 _ (Ne.symm I.ne)).trans I.obj, hn2, I.ne⟩ hs2)
theorem make_map {R : Result → Shared → Prop} {vs : List Value} {kw : List (Str × Value)} (X : K.In s.heap) (hm : PySem.W.makesIn K C = true)
    (hi : PySem.W.findIn K (.ref C) "__init__" = some (some (.ref f))) (hf : PySem.W.typeIn K (.ref f) = some (.type "function"))
    (h : codeAny (model prog w) (A.under (.builtin "type.__call__" ⟨.ref C :: vs, kw⟩)) (.call (.ref f) ⟨.ref (s.heap.objs.size + 1) :: vs, kw⟩) (PySem.W.InitBack (s.heap.objs.size + 1) R)
      { s with heap := (s.heap.push PySem.W.emptyDict).push (PySem.W.instObj C s.heap.objs.size) }) :
    codeAny (model prog w) A (.call (.ref C) ⟨vs, kw⟩) R s := by
  refine L2.goal_let ?_
  intro q_
  obtain ⟨hh, g, d, t, os⟩ := s
  dsimp only [q_]
  clear q_
  exact PySem.W.make_core (PySem.W.makes_of X hm) (PySem.W.looks_findIn X hi) (fun self => PySem.W.bind_fn X self hf) (.inl rfl) h
end
def putF (f : Str) (v : V) : List (Str × V) → List (Str × V)
  | [] => [(f, v)]
  | (g, x) :: r => if g = f then (g, v) :: r else (g, x) :: putF f v r
theorem lookup_putF (f g : Str) (v : V) : ∀ fs : List (Str × V), (putF f v fs).lookup g = if g = f then some v else fs.lookup g
  | [] => by
    show List.lookup g [(f, v)] = _
    by_cases h : g = f
    · have hb : (g == f) = true := beq_iff_eq.mpr h
      simp only [List.lookup, hb, if_pos h]
    · have hb : (g == f) = false := beq_eq_false_iff_ne.mpr h
      simp only [List.lookup, hb, if_neg h]
  | (k, x) :: r => by
    have ih := lookup_putF f g v r
    rw [show putF f v ((k, x) :: r) = (if k = f then (k, v) :: r else (k, x) :: putF f v r) from rfl]
    by_cases hk : k = f
    · rw [if_pos hk]
      by_cases h : g = k
      · have hb : (g == k) = true := beq_iff_eq.mpr h
        simp only [List.lookup, hb, if_pos (h.trans hk)]
      · have hb : (g == k) = false := beq_eq_false_iff_ne.mpr h
        simp only [List.lookup, hb, if_neg (fun e : g = f => h (e.trans hk.symm))]
    · rw [if_neg hk]
      by_cases h : g = k
      · have hb : (g == k) = true := beq_iff_eq.mpr h
        simp only [List.lookup, hb, if_neg (fun e : g = f => hk (h.symm.trans e))]
      · have hb : (g == k) = false := beq_eq_false_iff_ne.mpr h
        simp only [List.lookup, hb]
        exact ih
theorem keys_putF (f : Str) (v : V) : ∀ fs : List (Str × V), f ∈ (putF f v fs).map (·.1) ∧ ∀ g, g ∈ fs.map (·.1) → g ∈ (putF f v fs).map (·.1)
  | [] => ⟨by simp [putF], fun g h => by simp at h⟩
  | (k, x) :: r => by
    obtain ⟨i1, i2⟩ := keys_putF f v r
    rw [show putF f v ((k, x) :: r) = (if k = f then (k, v) :: r else (k, x) :: putF f v r) from rfl]
    by_cases hk : k = f
    · rw [if_pos hk]
      subst hk
      exact ⟨by simp, fun g h => by simpa using h⟩
    · rw [if_neg hk]
      refine ⟨?_, fun g h => ?_⟩
      · rw [List.map_cons]
        exact List.mem_cons_of_mem _ i1
      · rw [List.map_cons] at h ⊢
        rcases List.mem_cons.mp h with e | e
        · exact List.mem_cons.mpr (.inl e)
        · exact List.mem_cons_of_mem _ (i2 g e)
theorem length_putF (f : Str) (v : V) : ∀ fs : List (Str × V), (putF f v fs).length ≤ fs.length + 1
  | [] => by simp [putF]
  | (k, x) :: r => by
    have ih := length_putF f v r
    rw [show putF f v ((k, x) :: r) = (if k = f then (k, v) :: r else (k, x) :: putF f v r) from rfl]
    by_cases hk : k = f
    · rw [if_pos hk, List.length_cons, List.length_cons]; omega
    · rw [if_neg hk, List.length_cons, List.length_cons]; omega
theorem RelO.some_of {v : V} {o : Option Value} (r : RelO (some v) o) : ∃ u, o = some u ∧ RelV v u := by
  cases o with
  | none => exact (show False from r).elim
  | some u => exact ⟨u, rfl, r⟩
theorem RelO.none_of {o : Option Value} (r : RelO none o) : o = none := by
  cases o with
  | none => rfl
  | some u => exact (show False from r).elim
theorem handed_of {v : V} {u : Value} (r : RelV v u) : PySem.W.handedIn u = true := by
  cases v with
  | non => cases (show u = Value.none from r); rfl
  | bl b => cases (show u = Value.bool b from r); rfl
  | int i => obtain ⟨t, e⟩ := (show ∃ t, u = Value.int i t from r); cases e; rfl
  | str x => obtain ⟨t, e⟩ := (show ∃ t, u = Value.str x t from r); cases e; rfl
  | byt b => obtain ⟨t, e⟩ := (show ∃ t, u = Value.bytes b t from r); cases e; rfl
  | flt b => obtain ⟨t, e⟩ := (show ∃ t, u = Value.float b t from r); cases e; rfl
  | ref a => cases (show u = Value.ref a from r); rfl
  | ty n => cases (show u = Value.type n from r); rfl
section
variable {P : Program} {w : World} {H H' : Hp} {h h' : Heap} {a C dx : Addr} {fs fs' : List (Str × V)}
theorem ins_get (hok : HOk P w H h) (e : H a = some (.ins C dx fs)) : ∃ mA, ObjM h a dx C mA ∧ (∀ f, RelO (fs.lookup f) (mA f)) ∧ PySem.Within mA (fs.map (·.1)) ∧ fs.length ≤ 1000 ∧ H dx = some (.own a) := by
  obtain ⟨d, z, ne, ob, mA, n, r, q⟩ := (show ObjOk P w H h a (.ins C dx fs) from hok a _ e)
  exact ⟨mA, ⟨ob, n, ne⟩, r, q, z, d⟩
end
structure Cls (K : PySem.W.Frag) (C : Addr) : Prop where
  pg : PySem.W.plainGet K C Str.empty = true
  hd : PySem.W.hasDictIn K C = true
  po : PySem.W.plainOver K C = true
  sa : PySem.W.findIn K (.ref C) "__setattr__" = some (some (.builtin "object.__setattr__"))
theorem Cls.get {K : PySem.W.Frag} {C : Addr} (c : Cls K C) (f : Str) : PySem.W.plainGet K C f = true := c.pg
def NoAttr (K : PySem.W.Frag) (C : Addr) (f : Str) : Prop := PySem.W.findIn K (.ref C) f = some none
theorem NoAttr.taker {K : PySem.W.Frag} {C : Addr} {f : Str} (n : NoAttr K C f) : PySem.W.takerIn K C f = some none := by
  unfold PySem.W.takerIn
  rw [show PySem.W.findIn K (.ref C) f = some none from n]
  rfl
structure Con (K : PySem.W.Frag) (C : Addr) (f : Str) (v : V) (u : Value) : Prop where
  at_ : PySem.W.findIn K (.ref C) f = some (some u)
  rel : RelV v u
  get : PySem.W.specialIn K u "__get__" = some none
  cp : PySem.W.copiedNames.contains f = false
structure Meth (K : PySem.W.Frag) (C : Addr) (m : Str) (f : Addr) : Prop where
  at_ : PySem.W.findIn K (.ref C) m = some (some (.ref f))
  fn : PySem.W.isFn K (.ref f) = true
  kp : PySem.W.keepIn K (.ref f) = true
section
variable {X : Cx} {pins : List (Addr × Obj)} {σ : St} {H : Hp} {s : Shared} {a C dx : Addr} {fs : List (Str × V)} {f : Str} {v : V} {A : Around} {E : Value → Shared → Prop}
theorem getattr_ok {b : Bool} {Q : Value → Shared → Prop} (I : Inv X pins σ H s) (e : H a = some (.ins C dx fs)) (c : Cls X.K C) (n : NoAttr X.K C f) (l : fs.lookup f = some v)
    (h : ∀ u s', Inv X pins σ H s' → RelV v u → Q u s') : wpAny (model X.prog X.w) A (getAttr (.ref a) f b) Q E s := by
  obtain ⟨mA, O, r, _, _, _⟩ := ins_get I.hok e
  obtain ⟨u, hu, ru⟩ := RelO.some_of (v := v) (o := mA f) (by rw [← l]; exact r f)
  exact get_map I.kIn O (c.get f) c.hd n hu (handed_of ru) (h u _ (I.tok _) ru)
theorem getmeth_ok {m : Str} {g : Addr} {pl : Sem Bool} {Q : Value × List Value → Shared → Prop} (I : Inv X pins σ H s) (e : H a = some (.ins C dx fs)) (c : Cls X.K C) (k : Meth X.K C m g) (l : fs.lookup m = none)
    (h : Q (.ref g, [.ref a]) s) : wpAny (model X.prog X.w) A (getMethod (.ref a) m pl) Q E s := by
  obtain ⟨mA, O, r, _, _, _⟩ := ins_get I.hok e
  have hn : mA m = none := RelO.none_of (by rw [← l]; exact r m)
  exact get_meth I.kIn O (c.get m) k.at_ k.fn hn h
theorem setattr_ok {y : V} {u : Value} {Q : Unit → Shared → Prop} (I : Inv X pins σ H s) (e : H a = some (.ins C dx fs)) (c : Cls X.K C) (n : NoAttr X.K C f) (hl : fs.length < 1000) (ry : RelV y u)
    (h : ∀ s', Inv X pins σ (upd H a (.ins C dx (putF f y fs))) s' → Q () s') : wpAny (model X.prog X.w) A (setAttr (.ref a) f u) Q E s := by
  obtain ⟨mA, O, r, wi, _, ho⟩ := ins_get I.hok e
  have hz : (fs.map (·.1)).length ≤ sizeLine := by rw [List.length_map, sizeLine_eq]; omega
  refine set_map I.kIn O c.sa c.po n.taker c.hd wi hz fun h' O' sb => h _ ?_
  have hd : ∃ o, h'.get? dx = some o := let ⟨o, _, _, e', _⟩ := O'.ns; ⟨o, e'⟩
  refine I.write (x := a) (e := dx) (by rw [e]; exact True.intro) (.inr ho) (fun b q hb z => (sb.2 b hb).trans z) hd ?_
  refine ⟨by rw [upd_ne O.ne]; exact ho, ?_, O.ne, O'.obj, _, O'.ns, fun g => ?_, fun g hg => ?_⟩
  · have := length_putF f y fs; omega
  · show RelO ((putF f y fs).lookup g) (if g = f then some u else mA g)
    rw [lookup_putF]
    by_cases q : g = f
    · rw [if_pos q, if_pos q]; exact ry
    · rw [if_neg q, if_neg q]; exact r g
  · by_cases q : g = f
    · rw [q]; exact (keys_putF f y fs).1
    · refine (keys_putF f y fs).2 g (wi g fun z => hg ?_)
      show (if g = f then some u else mA g) = none
      rw [if_neg q]; exact z
theorem Inv.made (I : Inv X pins σ H s) : Inv X pins σ (upd (upd H s.heap.objs.size (.own (s.heap.objs.size + 1))) (s.heap.objs.size + 1) (.ins C s.heap.objs.size []))
    { s with heap := (s.heap.push PySem.W.emptyDict).push (PySem.W.instObj C s.heap.objs.size) } := by
  have e1 : (s.heap.push PySem.W.emptyDict).get? s.heap.objs.size = some PySem.W.emptyDict := Heap.get?_push_size s.heap rfl
  have e2 : ((s.heap.push PySem.W.emptyDict).push (PySem.W.instObj C s.heap.objs.size)).get? (s.heap.objs.size + 1) = some (PySem.W.instObj C s.heap.objs.size) := by
    have := Heap.get?_push_size (s.heap.push PySem.W.emptyDict) (o := PySem.W.instObj C s.heap.objs.size) rfl
    rwa [Heap.size_push] at this
  have e3 : (s.heap.push PySem.W.emptyDict).Ns s.heap.objs.size (fun _ => none) := ⟨PySem.W.emptyDict, #[], _, e1, rfl, (fun e he => absurd he (by simp)), fun _ => rfl⟩
  have I1 := I.laid (a := s.heap.objs.size) (o := .own (s.heap.objs.size + 1)) (h' := s.heap.push PySem.W.emptyDict) (t' := s.toks) (fun b u q => Heap.get?_push_of_some _ q) (Nat.le_refl _) ⟨_, e1⟩
  refine I1.laid (a := s.heap.objs.size + 1) (o := .ins C s.heap.objs.size []) (t' := s.toks) (fun b u q => Heap.get?_push_of_some _ q) (Nat.le_of_eq (Heap.size_push _ _)) ?_
  have ne : s.heap.objs.size ≠ s.heap.objs.size + 1 := Nat.ne_of_lt (Nat.lt_succ_self _)
  refine ⟨by rw [upd_ne ne, upd_same], Nat.zero_le _, ne, e2, fun _ => none, (Heap.Ns1.of_empty e3).at fun o q => Heap.get?_push_of_some _ q, fun _ => True.intro, fun y hy => absurd rfl hy⟩
theorem attr_of {prog : Program} {w : World} {env : Env} {e : Expr} {f : Str} {pos : Pos} {s : Shared} {Q : Value → Shared → Prop} (hb : attributeBase e f env (eval e env) = eval e env)
    (h : wpAny (model prog w) A (eval e env) (fun o s₁ => wpAny (model prog w) A (getAttr o f true) Q E s₁) E s) : wpAny (model prog w) A (eval (.Attribute e f pos) env) Q E s :=
  Attribute_any_ h (by rw [arm_eval_Attribute, hb])
end
def tFld (K : PySem.W.Frag) (ta : TE) (f : Str) : TE := fun σ H Q => ta σ H fun x H1 => ∃ a C dx fs v, x = .ref a ∧ H1 a = some (.ins C dx fs) ∧ Cls K C ∧ NoAttr K C f ∧ fs.lookup f = some v ∧ Q v H1
def sFld (K : PySem.W.Frag) (ta tv : TE) (f : Str) : TS := fun D σ H => tv σ H fun y H1 => ta σ H1 fun x H2 => ∃ a C dx fs, x = .ref a ∧ H2 a = some (.ins C dx fs) ∧ Cls K C ∧ NoAttr K C f ∧ fs.length < 1000 ∧
  D.nx σ (upd H2 a (.ins C dx (putF f y fs)))
section
variable {X : Cx} {o e value : Expr} {f : Str} {pos pos' tpos : Pos} {ta tv : TE}
theorem pe_fld (he : PE X e ta) (hb : attributeBase e f X.env (eval e X.env) = eval e X.env) : PE X (.Attribute e f pos) (tFld X.K ta f) := by
  intro pins s σ H Q I h
  refine attr_of hb (thn (he pins s σ H _ I h) fun u s1 hh_ => ?_)
  refine L2.goal_let ?_
  intro q_
  obtain ⟨x, H1, I1, rx, a, C, dx, fs, v, ex, ea, c, n, l, q⟩ := hh_
  dsimp only [q_]
  clear q_
  subst ex
  obtain rfl : u = Value.ref a := rx
  exact getattr_ok I1 ea c n l fun u' s2 I2 ru => ⟨v, H1, I2, ru, q⟩
theorem ps_fld (ha : PE X o ta) (hv : PE X value tv) (hs : swapsWith value (some (.Attribute o f pos')) pos.line X.env = pure false) : PS X (.Assign [.Attribute o f pos'] value pos) (sFld X.K ta tv f) := by
  intro pins s σ H D I h
  refine plainObj_wpAny_Assign_Attribute (thn (hv pins s σ H _ I h) fun u s1 ⟨y, H1, I1, ry, q⟩ => thn (ha pins s1 σ H1 _ I1 q) fun ov s2 ⟨x, H2, I2, rx, a, C, dx, fs, ex, ea, c, n, l, q2⟩ => ?_) hs
  subst ex
  obtain rfl : ov = Value.ref a := rx
  exact setattr_ok I2 ea c n l ry fun s3 I3 => ⟨σ, _, I3, q2⟩
end
section
variable {X : Cx} {pins : List (Addr × Obj)} {σ : St} {H : Hp} {s : Shared} {A : Around} {E : Value → Shared → Prop} {Q : Value → Shared → Prop} {c : Value} {b : Bool}
inductive TyOf (K : PySem.W.Frag) (H : Hp) : V → Value → Prop where
  | non : TyOf K H .non (.type "NoneType")
  | bl (x : Bool) : TyOf K H (.bl x) (.type "bool")
  | int (i : Int) : TyOf K H (.int i) (.type "int")
  | str (x : Str) : TyOf K H (.str x) (.type "str")
  | flt (x : UInt64) : TyOf K H (.flt x) (.type "float")
  | lst {a : Addr} {xs : List V} (e : H a = some (.lst xs)) : TyOf K H (.ref a) (.type "list")
  | frz {a : Addr} {o : Obj} {xs : List V} (e : H a = some (.frz o (.lst xs))) : TyOf K H (.ref a) (.type "list")
  | tup {a : Addr} {xs : List V} (e : H a = some (.tup xs)) : TyOf K H (.ref a) (.type "tuple")
  | dK {a : Addr} {kvs : List (Key × V)} (e : H a = some (.dK kvs)) : TyOf K H (.ref a) (.type "dict")
  | dT {a : Addr} {kvs : List (List Key × V)} (e : H a = some (.dT kvs)) : TyOf K H (.ref a) (.type "dict")
  | ins {a C dx : Addr} {fs : List (Str × V)} (e : H a = some (.ins C dx fs)) (cl : Cls K C) (ha : PySem.W.findIn K (.ref C) "__class__" = some (some (.builtin "object.__class__")))
      (hn : PySem.W.specialIn K (.builtin "object.__class__") "__get__" = some (some (.builtin "getset_descriptor.__get__"))) (htk : PySem.W.takesIn K (.builtin "object.__class__") = some true)
      (hm : PySem.W.mroIn K C (.type "object") = some true) : TyOf K H (.ref a) (.ref C)
theorem isinst_ok {x : V} {u t : Value} (I : Inv X pins σ H s) (rx : RelV x u) (ty : TyOf X.K H x t) (e : PySem.W.kitOne X.K t c = some b) (h : ∀ tk, Q (.bool b) { s with toks := tk }) :
    wpAny (model X.prog X.w) A (call (.builtin "isinstance") [u, c]) Q E s := by
  cases ty with
  | non => cases (show u = Value.none from rx); exact PySem.W.kia_one PySem.W.kitx_none I.kIn True.intro e (fun z => nomatch z) h
  | bl y => cases (show u = Value.bool y from rx); exact PySem.W.kia_one PySem.W.kitx_bool I.kIn True.intro e (fun z => nomatch z) h
  | int i => obtain ⟨t, q⟩ := (show ∃ t, u = Value.int i t from rx); cases q; exact PySem.W.kia_one PySem.W.kitx_int I.kIn True.intro e (fun z => nomatch z) h
  | str y => obtain ⟨t, q⟩ := (show ∃ t, u = Value.str y t from rx); cases q; exact PySem.W.kia_one PySem.W.kitx_str I.kIn True.intro e (fun z => nomatch z) h
  | flt y => obtain ⟨t, q⟩ := (show ∃ t, u = Value.float y t from rx); cases q; exact PySem.W.kia_one PySem.W.kitx_float I.kIn True.intro e (fun z => nomatch z) h
  | @lst a xs ea =>
    cases (show u = Value.ref a from rx)
    obtain ⟨_, _, n, _, h1⟩ := (show ObjOk X.prog X.w H s.heap a (.lst xs) from I.hok a _ ea)
    exact PySem.W.kia_one PySem.W.kitx_list I.kIn ⟨_, h1, rfl⟩ e (fun z => nomatch z) h
  | @frz a ob xs ea =>
    cases (show u = Value.ref a from rx)
    obtain ⟨_, _, _, n, _, h1⟩ := (show ObjOk X.prog X.w H s.heap a (.frz ob (.lst xs)) from I.hok a _ ea)
    exact PySem.W.kia_one PySem.W.kitx_list I.kIn ⟨_, h1, rfl⟩ e (fun z => nomatch z) h
  | @tup a xs ea =>
    cases (show u = Value.ref a from rx)
    obtain ⟨_, _, _, p⟩ := (show ObjOk X.prog X.w H s.heap a (.tup xs) from I.hok a _ ea)
    obtain ⟨o, h1, h2, _⟩ := p
    exact PySem.W.kia_one PySem.W.kitx_tuple I.kIn ⟨o, h1, h2⟩ e (fun z => nomatch z) h
  | @dK a kvs ea =>
    cases (show u = Value.ref a from rx)
    obtain ⟨_, _, vs, _, p⟩ := (show ObjOk X.prog X.w H s.heap a (.dK kvs) from I.hok a _ ea)
    refine L2.goal_let ?_
    intro q_
    obtain ⟨o, es, ep, h1, h2, _⟩ := p
    dsimp only [q_]
    clear q_
    exact PySem.W.kia_one PySem.W.kitx_dict I.kIn ⟨o, h1, h2.1⟩ e (fun z => nomatch z) h
  | @dT a kvs ea =>
    cases (show u = Value.ref a from rx)
    obtain ⟨_, _, xs, _, o, es, ep, h1, h2, _⟩ := (show ObjOk X.prog X.w H s.heap a (.dT kvs) from I.hok a _ ea)
    exact PySem.W.kia_one PySem.W.kitx_dict I.kIn ⟨o, h1, h2.1⟩ e (fun z => nomatch z) h
  | @ins a C dx fs ea cl ha hn htk hm =>
    cases (show u = Value.ref a from rx)
    obtain ⟨mA, O, _⟩ := ins_get I.hok ea
    obtain ⟨od, J, _⟩ := O.look
    exact PySem.W.kia_one (PySem.W.kitx_own (cl.get _) cl.hd ha hn htk hm) I.kIn J e (fun z => nomatch z) h
end
end L2
namespace L2
open PySem PySem.Spec PyProof.Rows
structure Room (k : Nat) (A : Around) : Prop where
  hd : A.handled = none
  dp : A.depth + 3 * k + 5 < recursionLimit
  un : A.units + 16 * k + 200 < cLine
theorem Room.mono {j k : Nat} {A : Around} (r : Room k A) (h : j ≤ k) : Room j A := ⟨r.hd, by have := r.dp; omega, by have := r.un; omega⟩
theorem Room.deeper {k : Nat} {A : Around} (r : Room (k + 1) A) (env : Env) : Room k (A.deeper env) :=
  ⟨r.hd, by have := r.dp; show A.depth + 1 + 3 * k + 5 < _; omega, by have := r.un; show A.units + 3 + 16 * k + 200 < _; omega⟩
theorem make_depth {A : Around} {C : Addr} {us : List Value} {kw : List (Str × Value)} : (A.under (.builtin "type.__call__" ⟨.ref C :: us, kw⟩)).depth = A.depth + 1 := by
  first | rfl | simp [Around.under, Code.weight, Code.isCreation, Code.isGuard, Code.isCaller, Code.frames, Code.isFrame, guardIds]
theorem make_units {A : Around} {C : Addr} {us : List Value} {kw : List (Str × Value)} : (A.under (.builtin "type.__call__" ⟨.ref C :: us, kw⟩)).units = A.units + 1 := by
  first | rfl | simp [Around.under, Code.cUnits, Code.frames, Code.isFrame]
theorem Room.make {k : Nat} {A : Around} (r : Room (k + 1) A) (C : Addr) (us : List Value) (kw : List (Str × Value)) : Room k (A.under (.builtin "type.__call__" ⟨.ref C :: us, kw⟩)) :=
  ⟨r.hd, by have := r.dp; rw [make_depth]; omega, by have := r.un; rw [make_units]; omega⟩
theorem Room.depth {k : Nat} {A : Around} (r : Room k A) : A.depth < recursionLimit := by have := r.dp; omega
theorem Room.units {k : Nat} {A : Around} (r : Room k A) : A.units + 64 < cLine := by have := r.un; omega
def tNil : TA := fun _ H Q => Q [] H
def tCons (ta : TE) (tr : TA) : TA := fun σ H Q => ta σ H fun x H1 => tr σ H1 fun xs H2 => Q (x :: xs) H2
section
variable {X : Cx} {e : Expr} {es : List Expr} {te : TE} {t : TA} {pos : Pos}
theorem pa_nil : PA X [] tNil := fun _ _ _ _ H Q I h => Calls.spliced_nil ⟨[], H, I, .nil, h⟩
theorem pa_cons (ha : PE X e te) (hr : PA X es t) (hs : starEach (e :: es) X.env = (false, eval e X.env) :: starEach es X.env := by rfl) : PA X (e :: es) (tCons te t) := by
  intro pos pins s σ H Q I h
  rw [hs]
  show wpAny _ _ (spliced ((false, eval e X.env) :: backTo pos (starEach es X.env))) _ _ s
  refine Calls.spliced_cons (thn (ha pins s σ H _ I h) fun u s1 hh_ => ?_)
  refine L2.goal_let ?_
  intro q_
  obtain ⟨x, H1, I1, r1, q1⟩ := hh_
  dsimp only [q_]
  clear q_
  exact thn (hr pos pins s1 σ H1 _ I1 q1) fun us s2 ⟨xs, H2, I2, r2, q2⟩ => ⟨x :: xs, H2, I2, .cons r1 r2, q2⟩
def tTup (t : TA) : TE := fun σ H Q => t σ H fun xs H1 => xs.length ≤ sizeLine ∧ ∀ p, H1 p = none → Q (.ref p) (upd H1 p (.tup xs))
def tLst (t : TA) : TE := fun σ H Q => t σ H fun xs H1 => xs.length ≤ sizeLine ∧ ∀ p, H1 p = none → Q (.ref p) (upd H1 p (.lst xs))
theorem pe_tup {x1} (h : PA X es t) : PE X (.Tuple es x1 pos) (tTup t) := by
  intro pins s σ H Q I hq
  refine wpAny_Tuple_spliced (thn (h pos pins s σ H _ I hq) fun us s1 ⟨xs, H1, I1, r, z, q⟩ => ⟨by rw [← r.length]; exact z, ?_⟩)
  have hf : H1 s1.heap.objs.size = none := I1.hok.fresh (Nat.le_refl _)
  refine ⟨.ref s1.heap.objs.size, upd H1 s1.heap.objs.size (.tup xs), I1.laid (t' := s1.toks) (fun b u e => Heap.get?_push_of_some _ e) (Nat.le_refl _) ?_, rfl, q _ hf⟩
  exact ⟨z, us, r, ⟨_, Heap.get?_push_size _ rfl, rfl, _, rfl⟩⟩
theorem pe_lst (h : PA X es t) : PE X (.List es pos) (tLst t) := by
  intro pins s σ H Q I hq
  refine wpAny_List_spliced (thn (h pos pins s σ H _ I hq) fun us s1 ⟨xs, H1, I1, r, z, q⟩ => ⟨by rw [← r.length]; exact z, ?_⟩)
  have hf : H1 s1.heap.objs.size = none := I1.hok.fresh (Nat.le_refl _)
  refine ⟨.ref s1.heap.objs.size, upd H1 s1.heap.objs.size (.lst xs), I1.laid (t' := s1.toks) (fun b u e => Heap.get?_push_of_some _ e) (Nat.le_refl _) ?_, rfl, q _ hf⟩
  exact ⟨z, us, 0, r, Heap.get?_push_size _ rfl⟩
end
abbrev Sp := List V → Hp → VK → XK → Prop
abbrev CXT := List Env → Hp → Shared → XK → Value → Shared → Prop
structure Env0 (P : Program) (w : World) (K : PySem.W.Frag) (mg : Str → Option Value) (base : Heap) (A : Around) (outer : List Env) (s : Shared) (H : Hp) : Prop where
  frames : A.frames = some outer
  mod : Mod K mg base
  bs : ∀ b o, base.get? b = some o → s.heap.get? b = some o ∧ H b = none
  bsz : base.objs.size ≤ s.heap.objs.size
  funs : s.heap.FunFrames base outer
  frf : ∀ b ∈ frs outer, H b = none
  hok : HOk P w H s.heap
  bare : AllBare s.gens
def CE (outer : List Env) (P : Program) (w : World) (H : Hp) (s : Shared) (Q : VK) (u : Value) (s' : Shared) : Prop :=
  ∃ v H', s'.os = s.os ∧ AllBare s'.gens ∧ Un (frs outer) [] H H' s.heap s'.heap ∧ HOk P w H' s'.heap ∧ RelV v u ∧ Q v H'
def CR (CX : CXT) (outer : List Env) (P : Program) (w : World) (H : Hp) (s : Shared) (Q : VK) (E : XK) (r : Result) (s' : Shared) : Prop :=
  match r with
  | .ok (.ret u) => CE outer P w H s Q u s'
  | .ok _ => False
  | .error e => CX outer H s E e s'
structure FnOk (P : Program) (w : World) (K : PySem.W.Frag) (mg : Str → Option Value) (base : Heap) (CX : CXT) (k : Nat) (f : Addr) (fd : FuncData) (ps : List Str) (sp : Sp) : Prop where
  len : ∀ vs H Q E, sp vs H Q E → vs.length = ps.length
  run : ∀ (A : Around) (outer : List Env) (s : Shared) (H : Hp) (args : Args) (us : List Value) (vs : List V) (Q : VK) (E : XK), Room k A → Env0 P w K mg base A outer s H → BindsTo s fd args (ps.zip us) → Vals vs us → sp vs H Q E →
    codeAny (model P w) A (.call (.ref f) args) (CR CX outer P w H s Q E) s
theorem Env0.make {P : Program} {w : World} {K : PySem.W.Frag} {mg : Str → Option Value} {base : Heap} {A : Around} {outer : List Env} {s : Shared} {H : Hp} (e : Env0 P w K mg base A outer s H) (C : Addr) (us : List Value) (kw : List (Str × Value)) :
    Env0 P w K mg base (A.under (.builtin "type.__call__" ⟨.ref C :: us, kw⟩)) outer s H := ⟨by first | exact e.frames | (simpa [Around.under, Code.envs, Code.isFrame, pushEnvs] using e.frames), e.mod, e.bs, e.bsz, e.funs, e.frf, e.hok, e.bare⟩
section
variable {X : Cx} {pins : List (Addr × Obj)} {σ : St} {H : Hp} {s s' : Shared}
theorem Inv.env0 (I : Inv X pins σ H s) : Env0 X.prog X.w X.K X.mg X.base X.A X.stack s H :=
  ⟨I.ok.frames, I.ok.mod, I.bs, Nat.le_trans I.ok.bsz I.sz, I.stack, I.stkFree, I.hok, I.bare⟩
theorem Inv.after {Q : VK} {u : Value} (I : Inv X pins σ H s) (h : CE X.stack X.prog X.w H s Q u s') : EP X pins σ Q u s' := by
  refine L2.goal_let ?_
  intro q_
  obtain ⟨v, H', os, bare, un, hok, r, q⟩ := h
  dsimp only [q_]
  clear q_
  refine L2.goal_let ?_
  intro q_
  obtain ⟨hh, g, d, t, os'⟩ := s'
  dsimp only [q_]
  clear q_
  obtain rfl : os' = s.os := os
  exact ⟨v, H', I.call (h' := hh) (g' := g) (d' := d) (t' := t) (ch := []) un hok bare (fun b z => absurd z (by simp)), r, q⟩
end
def tCall (sp : Sp) (dvs : List V) (E : XK) (t : TA) : TE := fun σ H Q => t σ H fun vs H1 => sp (vs ++ dvs) H1 Q E
def tMeth (C : Addr) (m : Str) (sp : Sp) (dvs : List V) (E : XK) (ta : TE) (t : TA) : TE := fun σ H Q => ta σ H fun x H1 => ∃ a dx fs, x = .ref a ∧ H1 a = some (.ins C dx fs) ∧ fs.lookup m = none ∧
  t σ H1 fun vs H2 => sp (x :: (vs ++ dvs)) H2 Q E
def tMake (C : Addr) (sp : Sp) (dvs : List V) (E : XK) (t : TA) : TE := fun σ H Q => t σ H fun vs H1 => ∀ x dx, H1 x = none → H1 dx = none → dx ≠ x →
  sp (.ref x :: (vs ++ dvs)) (upd (upd H1 dx (.own x)) x (.ins C dx [])) (fun v H2 => v = .non ∧ Q (.ref x) H2) E
def Binds (K : PySem.W.Frag) (fd : FuncData) (ps : List Str) (ds : List Value) : Prop :=
  ∀ (s : Shared) (us : List Value), K.In s.heap → (us ++ ds).length = ps.length → BindsTo s fd ⟨us, []⟩ (ps.zip (us ++ ds))
theorem Binds.all {K : PySem.W.Frag} {fd : FuncData} {ps : List Str} (h : ∀ us : List Value, us.length = ps.length → bindArgs fd ⟨us, []⟩ = pure (ps.zip us)) : Binds K fd ps [] := fun s us _ hl => by
  rw [List.append_nil] at hl ⊢
  exact .of_eq (h us hl)
def Passes (CX : CXT) (X : Cx) (E : XK) : Prop := ∀ (pins : List (Addr × Obj)) (σ : St) (H : Hp) (s : Shared) (e : Value) (s' : Shared), Inv X pins σ H s → CX X.stack H s E e s' → X.xe e s'
section
variable {X : Cx} {CX : CXT} {k : Nat} {f C : Addr} {fd : FuncData} {ps : List Str} {sp : Sp} {dvs : List V} {ds : List Value} {E : XK} {x m : Str} {p pos apos : Pos} {e o : Expr} {es : List Expr} {ta : TE} {t : TA}
theorem run_fn {pins : List (Addr × Obj)} {σ : St} {H : Hp} {s : Shared} {Q : VK} {us : List Value} {vs : List V} (F : FnOk X.prog X.w X.K X.mg X.base CX k f fd ps sp) (hr : Room k X.A) (hb : Binds X.K fd ps ds) (hd : Vals dvs ds) (hx : Passes CX X E)
    (I : Inv X pins σ H s) (r : Vals vs us) (h : sp (vs ++ dvs) H Q E) : wpAny (model X.prog X.w) X.A (call (.ref f) us) (EP X pins σ Q) X.xe s := by
  have r2 : Vals (vs ++ dvs) (us ++ ds) := r.append hd
  have hl : (us ++ ds).length = ps.length := by rw [← r2.length]; exact F.len _ _ _ _ h
  refine wpAny_call (codeAny_mono (F.run X.A X.stack s H ⟨us, []⟩ (us ++ ds) (vs ++ dvs) Q E hr I.env0 (hb s us I.kIn hl) r2 h) fun r s' hq => ?_)
  cases r with
  | error e => exact hx pins σ H s e s' I hq
  | ok fl =>
    cases fl with
    | ret u => exact I.after hq
    | next => exact False.elim hq
    | brk => exact False.elim hq
    | cont => exact False.elim hq
theorem pe_call (F : FnOk X.prog X.w X.K X.mg X.base CX k f fd ps sp) (hr : Room k X.A) (hg : Gl X x) (hm : X.mg x = some (.ref f)) (hk : PySem.W.keepIn X.K (.ref f) = true) (hb : Binds X.K fd ps ds) (hd : Vals dvs ds) (hx : Passes CX X E)
    (ha : PA X (e :: es) t) (hdb : (x == ("__debug__" : Str)) = false := by decide) (he : starEach (e :: es) X.env = (false, eval e X.env) :: starEach es X.env := by rfl) (hpl : (backTo pos (starEach es X.env)).any (·.1) = false := by rfl) :
    PE X (.Call (.Name x p) (e :: es) [] pos) (tCall sp dvs E t) := by
  intro pins s σ H Q I h
  refine wpAny_Call_Name_kw (ld_glob I hg hm ?_ hdb)
  refine PySem.W.callWith_K (h₀ := X.base) I.ok.mod.kin hk (thn (ha pos pins s σ H _ I h) fun us s1 ⟨vs, H1, I1, r, q⟩ => ⟨I1.kIn, ?_⟩) he hpl
  exact run_fn F hr hb hd hx I1 r q
theorem pe_meth {pl : Sem Bool} (he : PE X o ta) (c : Cls X.K C) (hm : Meth X.K C m f) (F : FnOk X.prog X.w X.K X.mg X.base CX k f fd ps sp) (hr : Room k X.A) (hb : Binds X.K fd ps ds) (hd : Vals dvs ds) (hx : Passes CX X E) (ha : PA X (e :: es) t)
    (hst : starEach (e :: es) X.env = (false, eval e X.env) :: starEach es X.env := by rfl) (hpl : (backTo pos (starEach es X.env)).any (·.1) = false := by rfl)
    (ht : eval (.Call (.Attribute o m apos) (e :: es) [] pos) X.env = (do
      let ov ← eval o X.env
      standAt apos.atName
      let (f, first) ← holding [ov] (getMethod ov m pl)
      callWith pos f first (backTo pos (starEach (e :: es) X.env)) (backToKw pos (keywordEach [] X.env))) := by rfl) :
    PE X (.Call (.Attribute o m apos) (e :: es) [] pos) (tMeth C m sp dvs E ta t) := by
  intro pins s σ H Q I h
  refine PySem.W.methodCall_KW (pl := pl) (thn (he pins s σ H _ I h) fun u s1 ⟨x, H1, I1, rx, a, dx, fs, ex, ea, l, q⟩ => ?_) ht
  subst ex
  obtain rfl : u = Value.ref a := rx
  refine getmeth_ok I1 ea c hm l ?_
  refine PySem.W.callWith_K (first := [.ref a]) (h₀ := X.base) I.ok.mod.kin hm.kp (thn (ha pos pins s1 σ H1 _ I1 q) fun us s2 ⟨vs, H2, I2, r, q2⟩ => ⟨I2.kIn, ?_⟩) hst hpl
  exact run_fn (us := .ref a :: us) (vs := .ref a :: vs) F hr hb hd hx I2 (.cons rfl r) q2
structure Mk (K : PySem.W.Frag) (C f : Addr) : Prop where
  makes : PySem.W.makesIn K C = true
  init : PySem.W.findIn K (.ref C) "__init__" = some (some (.ref f))
  fn : PySem.W.isFn K (.ref f) = true
  kp : PySem.W.keepIn K (.ref C) = true
theorem run_make {pins : List (Addr × Obj)} {σ : St} {H : Hp} {s : Shared} {Q : VK} {us : List Value} {vs : List V} (M : Mk X.K C f) (F : FnOk X.prog X.w X.K X.mg X.base CX k f fd ps sp) (hr : Room (k + 1) X.A) (hb : Binds X.K fd ps ds) (hd : Vals dvs ds)
    (hx : Passes CX X E) (I : Inv X pins σ H s) (r : Vals vs us)
    (h : ∀ x dx, H x = none → H dx = none → dx ≠ x → sp (.ref x :: (vs ++ dvs)) (upd (upd H dx (.own x)) x (.ins C dx [])) (fun v H2 => v = .non ∧ Q (.ref x) H2) E) :
    wpAny (model X.prog X.w) X.A (call (.ref C) us) (EP X pins σ Q) X.xe s := by
  have hq := h (s.heap.objs.size + 1) s.heap.objs.size (I.hok.fresh (Nat.le_succ _)) (I.hok.fresh (Nat.le_refl _)) (Nat.ne_of_lt (Nat.lt_succ_self _))
  have I2 := Inv.made (C := C) I
  have r2 : Vals (V.ref (s.heap.objs.size + 1) :: (vs ++ dvs)) (Value.ref (s.heap.objs.size + 1) :: (us ++ ds)) := .cons rfl (r.append hd)
  have hl : (Value.ref (s.heap.objs.size + 1) :: us ++ ds).length = ps.length := by
    have e := r2.length
    rw [F.len _ _ _ _ hq] at e
    exact e.symm
  refine wpAny_call (make_map (f := f) I.kIn M.makes M.init (beq_iff_eq.mp M.fn) (codeAny_mono (F.run _ X.stack _ _ ⟨Value.ref (s.heap.objs.size + 1) :: us, []⟩ (Value.ref (s.heap.objs.size + 1) :: (us ++ ds)) _ _ E (hr.make C us [])
    (I2.env0.make C us []) (hb _ (Value.ref (s.heap.objs.size + 1) :: us) I2.kIn hl) r2 hq) fun r s' hq' => ?_))
  cases r with
  | error e => exact hx pins σ _ _ e s' I2 hq'
  | ok fl =>
    cases fl with
    | ret u =>
      obtain ⟨v, H', I3, rv, ev, q3⟩ := I2.after hq'
      subst ev
      exact ⟨rv, ⟨V.ref (s.heap.objs.size + 1), H', I3, rfl, q3⟩⟩
    | next => exact False.elim hq'
    | brk => exact False.elim hq'
    | cont => exact False.elim hq'
theorem pe_make (M : Mk X.K C f) (F : FnOk X.prog X.w X.K X.mg X.base CX k f fd ps sp) (hr : Room (k + 1) X.A) (hg : Gl X x) (hm : X.mg x = some (.ref C)) (hb : Binds X.K fd ps ds) (hd : Vals dvs ds) (hx : Passes CX X E)
    (ha : PA X (e :: es) t) (hdb : (x == ("__debug__" : Str)) = false := by decide) (he : starEach (e :: es) X.env = (false, eval e X.env) :: starEach es X.env := by rfl) (hpl : (backTo pos (starEach es X.env)).any (·.1) = false := by rfl) :
    PE X (.Call (.Name x p) (e :: es) [] pos) (tMake C sp dvs E t) := by
  intro pins s σ H Q I h
  refine wpAny_Call_Name_kw (ld_glob I hg hm ?_ hdb)
  refine PySem.W.callWith_K (h₀ := X.base) I.ok.mod.kin M.kp (thn (ha pos pins s σ H _ I h) fun us s1 ⟨vs, H1, I1, r, q⟩ => ⟨I1.kIn, ?_⟩) he hpl
  exact run_make M F hr hb hd hx I1 r q
end
def PK (X : Cx) (kws : List Keyword) (t : TA) : Prop :=
  ∀ (pos : Pos) (pins : List (Addr × Obj)) (s : Shared) (σ : St) (H : Hp) (Q : List V → Hp → Prop), Inv X pins σ H s → t σ H Q → wpAny (model X.prog X.w) X.A (evalAll ((backToKw pos (keywordEach kws X.env)).map (·.2))) (AP X pins σ Q) X.xe s
section
variable {X : Cx} {CX : CXT} {k : Nat} {f C : Addr} {fd : FuncData} {ps ks : List Str} {sp : Sp} {E : XK} {x m : Str} {p pos apos kpos : Pos} {e o : Expr} {es : List Expr} {kws : List Keyword} {te ta : TE} {t tk : TA} {nm : Option Str}
theorem pk_nil : PK X [] tNil := fun _ _ _ _ H Q I h => wpAny_evalAll_nil ⟨[], H, I, .nil, h⟩
theorem pk_cons (ha : PE X e te) (hr : PK X kws t) : PK X (⟨nm, e, kpos⟩ :: kws) (tCons te t) := by
  intro pos pins s σ H Q I h
  show wpAny _ _ (evalAll ((do let v ← eval e X.env; standAt pos; pure v) :: (backToKw pos (keywordEach kws X.env)).map (·.2))) _ _ s
  refine wpAny_evalAll_cons (wpAny_bind (thn (ha pins s σ H _ I h) fun u s1 ⟨x, H1, I1, r1, q1⟩ => wpAny_bind (wpAny_standAt (wpAny_pure ?_))))
  exact thn (hr pos pins s1 σ H1 _ I1 q1) fun us s2 ⟨xs, H2, I2, r2, q2⟩ => ⟨x :: xs, H2, I2, .cons r1 r2, q2⟩
structure KBinds (K : PySem.W.Frag) (fd : FuncData) (ps ks : List Str) (g : List Value → List Value → List Value) (gV : List V → List V → List V) : Prop where
  to : ∀ (s : Shared) (us ws : List Value), K.In s.heap → (g us ws).length = ps.length → BindsTo s fd ⟨us, ks.zip ws⟩ (ps.zip (g us ws))
  rel : ∀ {vs : List V} {us : List Value} {zs : List V} {ws : List Value}, Vals vs us → Vals zs ws → Vals (gV vs zs) (g us ws)
variable {g : List Value → List Value → List Value} {gV : List V → List V → List V}
end
structure FnScope (N P : List Str) (sc : Scope) : Prop where
  kind : sc.kind = .function
  co : sc.isCoroutine = false
  gen : sc.isGenerator = false
  nd : N.Nodup
  pre : N.take P.length = P
  par : ∀ x ∈ P, sc.names.lookup x = some .local ∨ sc.names.lookup x = some .cell
  nofree : ∀ y ∈ sc.names, y.2 ≠ .free
theorem bindL_out {kindOf : Str → Option NameKind} {x : Str} : ∀ {binds : List (Str × Value)} {m : Str → Option Value}, (∀ v, (x, v) ∉ binds) → bindL kindOf binds m x = m x
  | [], _, _ => rfl
  | (n, v) :: r, m, h => by
    unfold bindL
    rw [bindL_out fun w hw => h w (List.mem_cons_of_mem _ hw)]
    split
    · have : x ≠ n := by rintro rfl; exact h v List.mem_cons_self
      simp [this]
    · rfl
theorem bindC_out {kindOf : Str → Option NameKind} {x : Str} : ∀ {binds : List (Str × Value)} {m : Str → Option Value}, (∀ v, (x, v) ∉ binds) → bindC kindOf binds m x = m x
  | [], _, _ => rfl
  | (n, v) :: r, m, h => by
    unfold bindC
    rw [bindC_out fun w hw => h w (List.mem_cons_of_mem _ hw)]
    split
    · rfl
    · have : x ≠ n := by rintro rfl; exact h v List.mem_cons_self
      simp [this]
theorem bindL_get {kindOf : Str → Option NameKind} {x : Str} {v : Value} : ∀ {P : List Str} {vs : List Value} {i : Nat} {m : Str → Option Value}, P.Nodup → P[i]? = some x → vs[i]? = some v → kindOf x = some .local →
    bindL kindOf (P.zip vs) m x = some v
  | [], _, _, _, _, h, _, _ => by simp at h
  | _ :: _, [], _, _, _, _, h, _ => by simp at h
  | p :: P, w :: vs, 0, m, nd, h1, h2, hk => by
    simp at h1 h2; subst h1; subst h2
    show bindL kindOf ((p, w) :: P.zip vs) m p = _
    unfold bindL
    rw [bindL_out fun v hv => (List.nodup_cons.mp nd).1 (List.of_mem_zip hv).1, if_pos hk]
    simp
  | p :: P, w :: vs, i + 1, m, nd, h1, h2, hk => by
    show bindL kindOf ((p, w) :: P.zip vs) m x = _
    unfold bindL
    exact bindL_get (i := i) (List.nodup_cons.mp nd).2 (by simpa using h1) (by simpa using h2) hk
theorem bindC_get {kindOf : Str → Option NameKind} {x : Str} {v : Value} : ∀ {P : List Str} {vs : List Value} {i : Nat} {m : Str → Option Value}, P.Nodup → P[i]? = some x → vs[i]? = some v → kindOf x ≠ some .local →
    bindC kindOf (P.zip vs) m x = some v
  | [], _, _, _, _, h, _, _ => by simp at h
  | _ :: _, [], _, _, _, _, h, _ => by simp at h
  | p :: P, w :: vs, 0, m, nd, h1, h2, hk => by
    simp at h1 h2; subst h1; subst h2
    show bindC kindOf ((p, w) :: P.zip vs) m p = _
    unfold bindC
    rw [bindC_out fun v hv => (List.nodup_cons.mp nd).1 (List.of_mem_zip hv).1, if_neg hk]
    simp
  | p :: P, w :: vs, i + 1, m, nd, h1, h2, hk => by
    show bindC kindOf ((p, w) :: P.zip vs) m x = _
    unfold bindC
    exact bindC_get (i := i) (List.nodup_cons.mp nd).2 (by simpa using h1) (by simpa using h2) hk
def start (N : List Str) (vs : List V) : St := vs.map some ++ List.replicate (N.length - vs.length) none
def cxOf (CX : CXT) (P : Program) (w : World) (K : PySem.W.Frag) (mg : Str → Option Value) (base : Heap) (N : List Str) (qual : Str) (scope : Scope) (f : Addr) (cd : Value) (A : Around) (outer : List Env) (s : Shared) (H : Hp) (E : XK) : Cx where
  prog := P
  w := w
  K := K
  mg := mg
  base := base
  A := A.deeper (envOfC qual scope s.heap.objs.size f cd)
  N := N
  s₀ := s
  H₀ := H
  env := envOfC qual scope s.heap.objs.size f cd
  outer := outer
  stack := envOfC qual scope s.heap.objs.size f cd :: outer
  ex := []
  calm := true
  fn := fun _ => true
  pn := []
  xe := fun e s' => wpAny (model P w) (A.deeper (envOfC qual scope s.heap.objs.size f cd)) (leaving (envOfC qual scope s.heap.objs.size f cd) e) (fun _ s'' => CX outer H s E e s'') (fun e' s'' => CX outer H s E e' s'') s'
theorem cell_has {sc : Scope} {n : Nat} {x : Str} (h : sc.names.lookup x = some .cell) : ∃ c, (cellsFrom n sc.names []).lookup x = some c := by
  have q := PySem.W.cellsFrom_some sc.names n [] (.inl h)
  exact Option.isSome_iff_exists.mp q
theorem inv_start {CX : CXT} {P : Program} {w : World} {K : PySem.W.Frag} {mg : Str → Option Value} {base : Heap} {N ps : List Str} {qual : Str} {scope : Scope} {f : Addr} {cd : Value} {A : Around} {outer : List Env} {s s1 : Shared} {H : Hp} {E : XK} {us : List Value} {vs : List V}
    (S : FnScope N ps scope) (hd : A.handled = none) (e0 : Env0 P w K mg base A outer s H) (hl : vs.length = ps.length) (r : Vals vs us)
    (x : InCallC s s.heap.objs.size (bindL (envOfC qual scope s.heap.objs.size f cd).kindOf (ps.zip us) fun _ => none) (cellsFrom (s.heap.objs.size + 1) scope.names []) (bindC (envOfC qual scope s.heap.objs.size f cd).kindOf (ps.zip us) fun _ => none) s1) :
    Inv (cxOf CX P w K mg base N qual scope f cd A outer s H E) [] (start N vs) H s1 := by
  have hpl : ps.length ≤ N.length := by have := congrArg List.length S.pre; rw [List.length_take] at this; omega
  obtain ⟨h1, tk, rfl, hk⟩ := x.done
  have noA : ∀ b : Addr, b ∉ (cxOf CX P w K mg base N qual scope f cd A outer s H E).ex := fun b z => absurd (show b ∈ ([] : List Addr) from z) (by simp)
  refine ⟨⟨e0.mod, S.kind, rfl, rfl, Nat.le_refl _, fun y z c h1 h2 => ?_, fun y hy => ?_, fun y c _ h => ?_, fun _ => hd, Around.frames_deeper e0.frames, .inr ⟨rfl, rfl⟩, fun b z => absurd z (noA b), e0.bs, e0.bsz, fun b _ _ => noA b, fun b z => absurd z (noA b), e0.funs, e0.frf⟩,
    rfl, e0.bare, Un.kept hk, ⟨_, x.toInCall.ns, fun i y v h1 h2 h3 => ?_⟩, fun y c h => ⟨_, x.cell y c h⟩, e0.hok.fresh (Nat.le_refl _), fun y c h => ?_, fun p hp => absurd (show p ∈ ([] : List (Addr × Obj)) from hp) (by simp), e0.hok.kept hk, ?_⟩
  · exact name_of_addr x.apart (PySem.mem_of_lookup h1) (PySem.mem_of_lookup h2)
  · have hy : scope.names.lookup y = some .cell ∨ scope.names.lookup y = some .free := hy
    rcases hy with hy | hy
    · exact cell_has hy
    · exact absurd rfl (S.nofree _ (PySem.mem_of_lookup hy))
  · exact Nat.le_of_lt (x.above y c (PySem.mem_of_lookup h))
  · have hi : i < vs.length := by
      unfold start at h2
      by_cases hi : i < vs.length
      · exact hi
      · rw [List.getElem?_append_right (by simpa using hi)] at h2
        rw [List.getElem?_replicate] at h2
        split at h2 <;> cases h2
    have ha : vs[i]? = some v := by
      unfold start at h2
      rw [List.getElem?_append_left (by simpa using hi), List.getElem?_map] at h2
      cases e : vs[i]? with
      | none => rw [e] at h2; cases h2
      | some a => rw [e] at h2; cases h2; rfl
    obtain ⟨u, hu, rv⟩ := r.get ha
    have hp : ps[i]? = some y := by
      rw [← S.pre, List.getElem?_take_of_lt (by omega)]; exact h1
    have ndP : ps.Nodup := by rw [← S.pre]; exact S.nd.sublist (List.take_sublist _ _)
    refine ⟨u, rv, ?_⟩
    rcases S.par y (List.mem_of_getElem? hp) with k | k
    · exact .inl ⟨k, bindL_get ndP hp hu k⟩
    · obtain ⟨c, e⟩ := cell_has (n := s.heap.objs.size + 1) k
      refine .inr ⟨.inl k, c, e, ?_⟩
      have q := x.cell y c e
      rw [bindC_get ndP hp hu (by show scope.names.lookup y ≠ _; rw [k]; decide)] at q
      exact q
  · exact e0.hok.fresh (Nat.le_of_lt (x.above y c (PySem.mem_of_lookup h)))
  · unfold start
    show _ = N.length
    rw [List.length_append, List.length_map, List.length_replicate]
    omega
theorem fn_of {CX : CXT} {P : Program} {w : World} {K : PySem.W.Frag} {mg : Str → Option Value} {base : Heap} {k : Nat} {f : Addr} {name qual : Str} {params : Arguments} {body : List Stmt} {scope : Scope} {dV kV doc pm cdv ct oc : Value} {an od : Option Addr}
    {osl : Array (Option Value)} {N ps : List Str} {sp : Sp} (lk : K.lookup f = some ⟨oc, od, .func (PySem.W.fnOf name qual params body scope dV kV doc pm an cdv ct), osl⟩) (hcd : PySem.W.codeIn K cdv qual = true) (S : FnScope N ps scope)
    (len : ∀ vs H Q E, sp vs H Q E → vs.length = ps.length)
    (hbody : ∀ (A : Around) (outer : List Env) (s : Shared) (H : Hp) (vs : List V) (Q : VK) (E : XK), Room k (A.deeper (envOfC qual scope s.heap.objs.size f cdv)) → sp vs H Q E →
      ∃ t, PSs (cxOf CX P w K mg base N qual scope f cdv A outer s H E) body t ∧ t { nx := fun _ H' => Q .non H', rt := Q } (start N vs) H) :
    FnOk P w K mg base CX (k + 1) f (PySem.W.fnOf name qual params body scope dV kV doc pm an cdv ct) ps sp := by
  refine ⟨len, fun A outer s H args us vs Q E hr e0 hb r hsp => ?_⟩
  have hl := len _ _ _ _ hsp
  have KX : K.In s.heap := e0.mod.kin.keeps fun b o e => (e0.bs b o e).1
  have lim : s.heap.NoLimit := e0.mod.nolimit.keeps fun b o e => (e0.bs b o e).1
  have hkind : ∀ y ∈ ps.zip us, scope.names.lookup y.1 = some .local ∨ (scope.names.lookup y.1 = some .cell ∧ ((cellsFrom (s.heap.objs.size + 1) scope.names []).lookup y.1).isSome = true) := fun ⟨n, v⟩ hy => by
    rcases S.par n (List.of_mem_zip hy).1 with q | q
    · exact .inl q
    · exact .inr ⟨q, PySem.W.cellsFrom_some _ _ _ (.inl q)⟩
  refine codeAny_call_function hr.depth (KX _ _ lk) rfl S.co S.gen rfl (PySem.W.codeRec_of KX hcd) (hb _ _ _ _ ?_)
  refine wpAny_newFunctionEnv_cells S.kind hkind fun env he s1 x => ?_
  subst he
  refine ⟨lim.keeps x.toInCall.keep, codeAny_func ?_⟩
  obtain ⟨t, ht, hq⟩ := hbody A outer s H vs Q E (hr.deeper _) hsp
  have I : Inv (cxOf CX P w K mg base N qual scope f cdv A outer s H E) [] (start N vs) H s1 := inv_start S hr.hd e0 hl r x
  refine wpAny_mono (ht [] s1 (start N vs) H _ I hq) (fun fl s' hs => ?_) fun e s' hs => hs
  have fin : ∀ {σ' : St} {H' : Hp} {v : V} {u : Value}, Inv (cxOf CX P w K mg base N qual scope f cdv A outer s H E) [] σ' H' s' → RelV v u → Q v H' → CE outer P w H s Q u s' :=
    fun {σ' H' v u} J rv q => ⟨v, H', J.os, J.bare, J.base, J.hok, rv, q⟩
  cases fl with
  | ret u =>
    refine L2.goal_let ?_
    intro q_
    obtain ⟨v, σ', H', J, rv, q⟩ := hs
    dsimp only [q_]
    clear q_
    exact fin J rv q
  | next =>
    obtain ⟨σ', H', J, q⟩ := hs
    exact fin (v := V.non) (u := Value.none) J rfl q
  | brk =>
    obtain ⟨_, _, _, q⟩ := hs
    exact False.elim q
  | cont =>
    obtain ⟨_, _, _, q⟩ := hs
    exact False.elim q
end L2
namespace L2
open PySem PySem.Spec PyProof.Rows
section
variable {X : Cx} {x : Str} {p pos : Pos} {e : Expr} {es : List Expr} {t : TA} {id T : String} {r : List V → Hp → VK → Prop}
def tCB (r : List V → Hp → VK → Prop) (t : TA) : TE := fun σ H Q => t σ H fun vs H1 => r vs H1 Q
theorem pe_callB (hc : CallR X (.builtin id) r) (hg : Gl X x) (hm : X.mg x = none) (hv : bootBuiltins x = some (.builtin id)) (ha : PA X (e :: es) t) (hn : x ≠ "__name__" := by decide) (hdb : (x == ("__debug__" : Str)) = false := by decide)
    (he : starEach (e :: es) X.env = (false, eval e X.env) :: starEach es X.env := by rfl) (hpl : (backTo pos (starEach es X.env)).any (·.1) = false := by rfl) : PE X (.Call (.Name x p) (e :: es) [] pos) (tCB r t) := by
  intro pins s σ H Q I h
  refine wpAny_Call_Name_kw (ld_blt I hg hm hv ?_ hn hdb)
  exact PyProof.Rows.callWith_builtin1 (thn (ha pos pins s σ H _ I h) fun us s1 ⟨vs, H1, I1, r1, q1⟩ => hc pins s1 σ H1 vs us Q I1 r1 q1) he hpl
theorem pe_callTy (hc : CallR X (.type T) r) (hg : Gl X x) (hm : X.mg x = none) (hv : bootBuiltins x = some (.type T)) (ha : PA X (e :: es) t) (hn : x ≠ "__name__" := by decide) (hdb : (x == ("__debug__" : Str)) = false := by decide)
    (he : starEach (e :: es) X.env = (false, eval e X.env) :: starEach es X.env := by rfl) (hpl : (backTo pos (starEach es X.env)).any (·.1) = false := by rfl) : PE X (.Call (.Name x p) (e :: es) [] pos) (tCB r t) := by
  intro pins s σ H Q I h
  refine wpAny_Call_Name_kw (ld_blt I hg hm hv ?_ hn hdb)
  exact PyProof.Rows.callWith_type1 (thn (ha pos pins s σ H _ I h) fun us s1 ⟨vs, H1, I1, r1, q1⟩ => hc pins s1 σ H1 vs us Q I1 r1 q1) he hpl
end
end L2
namespace HT
open PySem PyProof.Rows
section
open PySem.SeqAt
open PySem.AutoSeq1 (wpAny_loadPart')
open PySem.MeetsSeq PySem.MeetsSeq2 PySem.MeetsSeq3
end
section
variable {prog : Program} {w : World} {A : Around} {E : Value → Shared → Prop} {s : Shared}
theorem cat_tup {t b : Addr} {vs ws : List Value} {Q : Value → Shared → Prop} (ht : IsTup s.heap t vs.toArray) (hb : IsTup s.heap b ws.toArray) (hv : vs ≠ [])
    (h1 : ws = [] → Q (.ref t) s) (h2 : ws ≠ [] → Q (.ref s.heap.objs.size) { s with heap := s.heap.push { cls := .type "tuple", data := .seq (vs ++ ws).toArray } })
    (hsz : vs.length + ws.length ≤ sizeLine) : wpAny (model prog w) A (binaryOp .Add (.ref t) (.ref b)) Q E s := by
  obtain ⟨⟨cls, dd, data, sl⟩, ho, hc, n, hd⟩ := id ht
  obtain ⟨⟨cls2, dd2, data2, sl2⟩, ho2, hc2, n2, hd2⟩ := id hb
  simp only at hc hd hc2 hd2
  subst hc hd hc2 hd2
  have e : vs.toArray ++ ws.toArray = (vs ++ ws).toArray := by simp
  by_cases hw : ws = []
  · exact concat_meets ⟨_, ho, rfl⟩ ⟨_, ho2, rfl⟩ noFill_tuple_add seq_tuple_add PySem.F.slot_tuple_add PySem.F.entry_tuple_add (PySem.F.args_tuple_add_2 _ _)
      (tuple_addW1 t b vs.toArray ws.toArray n n2 dd dd2 sl sl2 (by simpa using hv) (by simp [hw])) ⟨ho, ho2, h1 hw⟩
  · refine concat_meets ⟨_, ho, rfl⟩ ⟨_, ho2, rfl⟩ noFill_tuple_add seq_tuple_add PySem.F.slot_tuple_add PySem.F.entry_tuple_add (PySem.F.args_tuple_add_2 _ _)
      (tuple_addW2 t b vs.toArray ws.toArray n n2 dd dd2 sl sl2 (by simpa using hv) (by simpa using hw) (by rw [List.size_toArray, List.size_toArray]; exact hsz)) ⟨ho, ho2, ?_⟩
    rw [e]
    exact h2 hw
def sIx (n d : Nat) : Option Int → Nat
  | none => d
  | some v => if v < 0 then (v + (n : Int)).toNat else min v.toNat n
end
end HT
namespace L2
open PySem PySem.Spec PyProof.Rows
abbrev TO := St → Hp → (Option Int → Hp → Prop) → Prop
def PO (X : Cx) (e : Option Expr) (t : TO) : Prop :=
  ∀ (pins : List (Addr × Obj)) (s : Shared) (σ : St) (H : Hp) (Q : Option Int → Hp → Prop), Inv X pins σ H s → t σ H Q →
    wpAny (model X.prog X.w) X.A (evalPart e X.env) (fun u s' => ∃ o H', Inv X pins σ H' s' ∧ IsPart u o ∧ Q o H') X.xe s
def tPart (t : TE) : TO := fun σ H Q => t σ H fun x H1 => ∃ i, x = .int i ∧ Q (some i) H1
section
variable {X : Cx} {e : Expr} {te : TE} {lo hi : Option Expr} {tl th : TO} {pos p2 : Pos}
theorem po_some (h : PE X e te) : PO X (some e) (tPart te) := by
  intro pins s σ H Q I hw
  rw [evalPart_some]
  refine thn (h pins s σ H _ I hw) fun u s1 hh_ => ?_
  refine L2.goal_let ?_
  intro q_
  obtain ⟨x, H1, I1, r1, q1⟩ := hh_
  dsimp only [q_]
  clear q_
  obtain ⟨i, rfl, q⟩ := q1
  obtain ⟨t, rfl⟩ := r1
  exact ⟨some i, H1, I1, .int i t, q⟩
def SlR (X : Cx) (r : V → Option Int → Option Int → Hp → VK → Prop) : Prop :=
  ∀ (pins : List (Addr × Obj)) (s : Shared) (σ : St) (H : Hp) (x : V) (v vl vu : Value) (lo hi : Option Int) (sl : Addr) (Q : VK), Inv X pins σ H s → RelV x v → s.heap.IsSliceOf sl vl vu .none → IsPart vl lo → IsPart vu hi → r x lo hi H Q →
    ∃ T id, typeLookup (.type T) "__getitem__" = pure (some (.builtin id)) ∧ s.TypeIs v T ∧ wpAny (model X.prog X.w) X.A (getItem v (.ref sl)) (EP X pins σ Q) X.xe s
def tSl (r : V → Option Int → Option Int → Hp → VK → Prop) (te : TE) (tl th : TO) : TE := fun σ H Q => te σ H fun x H1 => tl σ H1 fun l H2 => th σ H2 fun u H3 => r x l u H3 Q
theorem pe_slice {r : V → Option Int → Option Int → Hp → VK → Prop} (hr : SlR X r) (he : PE X e te) (hl : PO X lo tl) (hu : PO X hi th) : PE X (.Subscript e (.Slice lo hi none p2) pos) (tSl r te tl th) := by
  intro pins s σ H Q I h
  refine Subscript_ (thn (he pins s σ H _ I h) fun v s1 hh_ => ?_)
  refine L2.goal_let ?_
  intro q_
  obtain ⟨x, H1, I1, r1, q1⟩ := hh_
  dsimp only [q_]
  clear q_
  refine wpAny_Slice (thn (hl pins s1 σ H1 _ I1 q1) fun vl s2 ⟨l, H2, I2, pl, q2⟩ => thn (hu pins s2 σ H2 _ I2 q2) fun vu s3 hh_ => ?_)
  refine L2.goal_let ?_
  intro q_
  obtain ⟨u, H3, I3, pu, q3⟩ := hh_
  dsimp only [q_]
  clear q_
  rw [evalPart_none]
  refine wpAny_pure ?_
  have I4 : Inv X pins σ H3 { s3 with heap := s3.heap.push { cls := .type "slice", data := .fields #[vl, vu, .none] } } := I3.kept (t' := s3.toks) fun b ob q => Heap.get?_push_of_some _ q
  obtain ⟨T, id, hT, ht, hg⟩ := hr pins { s3 with heap := s3.heap.push { cls := .type "slice", data := .fields #[vl, vu, .none] } } σ H3 x v vl vu l u s3.heap.objs.size Q I4 r1 (Heap.IsSliceOf.new ..) pl pu q3
  show wpAny (model X.prog X.w) X.A (subscriptTail e (.Slice lo hi none p2) v (.ref s3.heap.objs.size)) (EP X pins σ Q) X.xe { s3 with heap := s3.heap.push { cls := .type "slice", data := .fields #[vl, vu, .none] } }
  exact tail_any (ops := [.ref s3.heap.objs.size, v]) ht hT hg (by with_unfolding_all rfl)
def cutV (xs : List V) (lo hi : Option Int) : List V := (xs.drop (HT.sIx xs.length 0 lo)).take (HT.sIx xs.length xs.length hi - HT.sIx xs.length 0 lo)
theorem cutV_length (xs : List V) (lo hi : Option Int) : (cutV xs lo hi).length ≤ xs.length := by
  unfold cutV
  rw [List.length_take, List.length_drop]
  omega
def rCatT (K : PySem.W.Frag) : R2 := fun x y H Q => ∃ a b xs ys, x = .ref a ∧ y = .ref b ∧ SqT K H a xs ∧ SqT K H b ys ∧ xs ≠ [] ∧ xs.length + ys.length ≤ sizeLine ∧
  (ys = [] → Q (.ref a) H) ∧ (ys ≠ [] → ∀ p, H p = none → Q (.ref p) (upd H p (.tup (xs ++ ys))))
theorem Vals.nil_iff {xs : List V} {us : List Value} (r : Vals xs us) : us = [] ↔ xs = [] := by
  cases r with
  | nil => simp
  | cons _ _ => simp
theorem op_catT : OpR X (binaryOp .Add) (rCatT X.K) := by
  intro pins s σ H x y v u Q I rx ry h
  refine L2.goal_let ?_
  intro q_
  obtain ⟨a, b, xs, ys, rfl, rfl, ha, hb, hx, hz, q1, q2⟩ := h
  dsimp only [q_]
  clear q_
  cases rx
  cases ry
  obtain ⟨its, r1, p1, _⟩ := I.tuple ha
  obtain ⟨its2, r2, p2, _⟩ := I.tuple hb
  refine HT.cat_tup p1 p2 (fun z => hx (r1.nil_iff.mp z)) (fun z => ⟨.ref a, H, I, rfl, q1 (r2.nil_iff.mp z)⟩) (fun z => ?_) (by rw [← r1.length, ← r2.length]; exact hz)
  refine ⟨.ref s.heap.objs.size, _, I.laid (t' := s.toks) (o := .tup (xs ++ ys)) (fun b ob q => Heap.get?_push_of_some _ q) (Nat.le_refl _) ?_, rfl, q2 (fun w => z (r2.nil_iff.mpr w)) _ (I.hok.fresh (Nat.le_refl _))⟩
  exact ⟨by rw [List.length_append]; exact hz, _, r1.append r2, IsTup.new _ _⟩
end
end L2
namespace L2
open PySem PySem.Spec PyProof.Rows
def ixN (n : Nat) (i : Int) : Option Nat := if 0 ≤ i then (if i < n then some i.toNat else none) else if -(n : Int) ≤ i then some (i + n).toNat else none
def atI {α : Type} (xs : List α) (i : Int) : Option α := (ixN xs.length i).bind fun j => xs[j]?
theorem ixN_seq {n : Nat} {i : Int} {j : Nat} (h : ixN n i = some j) : seqIndex? i n = some j ∧ j < n ∧ -(n : Int) ≤ i ∧ i < n := by
  unfold ixN at h
  by_cases h0 : 0 ≤ i
  · rw [if_pos h0] at h
    by_cases h1 : i < n
    · rw [if_pos h1] at h
      have e : i.toNat = j := Option.some.inj h
      exact ⟨by rw [seqIndex_of h0 h1, e], by omega, by omega, h1⟩
    · rw [if_neg h1] at h; cases h
  · rw [if_neg h0] at h
    by_cases h1 : -(n : Int) ≤ i
    · rw [if_pos h1] at h
      have e : (i + n).toNat = j := Option.some.inj h
      exact ⟨by rw [seqIndex_neg (by omega) h1, e], by omega, h1, by omega⟩
    · rw [if_neg h1] at h; cases h
theorem atI_get {α : Type} {xs : List α} {i : Int} {v : α} (h : atI xs i = some v) : ∃ j, seqIndex? i xs.length = some j ∧ xs[j]? = some v ∧ j < xs.length ∧ -(xs.length : Int) ≤ i ∧ i < xs.length := by
  unfold atI at h
  cases e : ixN xs.length i with
  | none => rw [e] at h; cases h
  | some j =>
    rw [e] at h
    obtain ⟨h1, h2, h3, h4⟩ := ixN_seq e
    exact ⟨j, h1, h, h2, h3, h4⟩
theorem atI_nat {α : Type} {xs : List α} {j : Nat} {v : α} (h : xs[j]? = some v) : atI xs (j : Int) = some v := by
  have hj : j < xs.length := (List.getElem?_eq_some_iff.mp h).1
  have e : ixN xs.length (j : Int) = some j := by
    unfold ixN
    rw [if_pos (by omega), if_pos (by omega)]; simp
  unfold atI; rw [e]; exact h
theorem atI_last {α : Type} (xs : List α) (v : α) : atI (xs ++ [v]) (-1) = some v := by
  have hl : (xs ++ [v]).length = xs.length + 1 := by simp
  have e : ixN (xs ++ [v]).length (-1) = some xs.length := by
    unfold ixN
    rw [hl, if_neg (by decide), if_pos (by omega)]
    congr 1
    omega
  unfold atI
  rw [e]
  show (xs ++ [v])[xs.length]? = some v
  simp
def PlainIx (b : Expr) : Prop := ∀ o i, subscripted b false o i = operate [o, i] (getItem o i)
def IxR (X : Cx) (r : R2) : Prop :=
  ∀ (value slice : Expr) (pins : List (Addr × Obj)) (s : Shared) (σ : St) (H : Hp) (x y : V) (v u : Value) (Q : VK), Inv X pins σ H s → RelV x v → RelV y u → r x y H Q →
    subscripted slice false v u = operate [v, u] (getItem v u) → wpAny (model X.prog X.w) X.A (subscriptTail value slice v u) (EP X pins σ Q) X.xe s
def MtR (X : Cx) (id : String) (r : V → List V → Hp → VK → Prop) : Prop :=
  ∀ (pins : List (Addr × Obj)) (s : Shared) (σ : St) (H : Hp) (x : V) (xs : List V) (v : Value) (us : List Value) (Q : VK), Inv X pins σ H s → RelV x v → Vals xs us → r x xs H Q →
    wpAny (model X.prog X.w) X.A (call (.builtin id) (v :: us)) (EP X pins σ Q) X.xe s
section
variable {X : Cx} {a b : Expr} {ta tb : TE} {pos : Pos}
theorem pe_ix {r : R2} (hr : IxR X r) (ha : PE X a ta) (hb : PE X b tb) (hs : PlainIx b) : PE X (.Subscript a b pos) (tOp r ta tb) := by
  intro pins s σ H Q I h
  exact Subscript_ (binT ha hb I h fun v u s2 x y H2 I2 rx ry q => hr a b pins s2 σ H2 x y v u Q I2 rx ry q (hs _ _))
def rIxL (K : PySem.W.Frag) : R2 := fun x y H Q => ∃ p xs i v, x = .ref p ∧ y = .int i ∧ SqL K H p xs ∧ atI xs i = some v ∧ Q v H
def rIxT (K : PySem.W.Frag) : R2 := fun x y H Q => ∃ p xs i v, x = .ref p ∧ y = .int i ∧ SqT K H p xs ∧ atI xs i = some v ∧ Q v H
theorem ix_list : IxR X (rIxL X.K) := by
  intro value slice pins s σ H x y v u Q I rx ry h hs
  refine L2.goal_let ?_
  intro q_
  obtain ⟨p, xs, i, z, rfl, rfl, hq, he, q⟩ := h
  dsimp only [q_]
  clear q_
  cases rx
  obtain ⟨t, rfl⟩ := ry
  obtain ⟨its, r, pl, hz⟩ := I.list hq
  obtain ⟨j, h1, h2, h3, h4, h5⟩ := atI_get he
  obtain ⟨w, ew, rw'⟩ := r.get h2
  have hl := r.length
  have hn := line63
  have fin : EP X pins σ Q w s := ⟨z, H, I, rw', q⟩
  by_cases h0 : 0 ≤ i
  · have hj : i.toNat = j := by
      rw [seqIndex_of h0 h5] at h1
      exact Option.some.inj h1
    exact item_listR pl.isList h0 (by omega) (by rw [hj]; simpa using ew) fin hs
  · have hj : (i + (its.toArray.size : Int)).toNat = j := by
      rw [seqIndex_neg (by omega) h4] at h1
      rw [List.size_toArray, ← hl]
      exact Option.some.inj h1
    exact subscriptTail_builtinR (x := w) pl.isList.typeIs slot_list_getitem.lookup
      (wpAny_getItem_list_neg (Q := fun r s' => r = w ∧ EP X pins σ Q r s') pl.isList (by omega) (by rw [List.size_toArray] <;> omega) (by omega) (by rw [hj]; simpa using ew) ⟨rfl, fin⟩) hs
theorem ix_tup : IxR X (rIxT X.K) := by
  intro value slice pins s σ H x y v u Q I rx ry h hs
  refine L2.goal_let ?_
  intro q_
  obtain ⟨p, xs, i, z, rfl, rfl, hq, he, q⟩ := h
  dsimp only [q_]
  clear q_
  cases rx
  obtain ⟨t, rfl⟩ := ry
  obtain ⟨its, r, pl, hz⟩ := I.tuple hq
  obtain ⟨j, h1, h2, h3, h4, h5⟩ := atI_get he
  obtain ⟨w, ew, rw'⟩ := r.get h2
  have hl := r.length
  have hn := line63
  have fin : EP X pins σ Q w s := ⟨z, H, I, rw', q⟩
  exact subscriptTail_builtinR (x := w) pl.typeIs slot_tuple_getitem.lookup
    (getItem_tuple (j := j) (Q := fun r s' => r = w ∧ EP X pins σ Q r s') pl (by omega) (by omega) (by rw [List.size_toArray, ← hl]; exact h1) (by simpa using ew) ⟨rfl, fin⟩) hs
theorem mapSeq_set (its : List Value) (n j : Nat) (u : Value) : Obj.mapSeq (·.setIfInBounds j u) { cls := .type "list", data := .seq its.toArray n } = { cls := .type "list", data := .seq (its.set j u).toArray n } := by
  simp [Obj.mapSeq]
theorem Inv.lst {pins : List (Addr × Obj)} {σ : St} {H : Hp} {s : Shared} {p : Addr} {xs : List V} (I : Inv X pins σ H s) (h : H p = some (.lst xs)) :
    ∃ (its : List Value) (n : Nat), Vals xs its ∧ s.heap.get? p = some { cls := .type "list", data := .seq its.toArray n } ∧ xs.length ≤ sizeLine := by
  obtain ⟨z, its, n, r, e⟩ := I.hok p _ h
  exact ⟨its, n, r, e, z⟩
theorem Inv.lstUpd {pins : List (Addr × Obj)} {σ : St} {H : Hp} {s : Shared} {p : Addr} {xs ys : List V} {its its' : List Value} {n n' : Nat} {f : Obj → Obj} (I : Inv X pins σ H s) (h : H p = some (.lst xs))
    (ho : s.heap.get? p = some { cls := .type "list", data := .seq its.toArray n }) (hf : f { cls := .type "list", data := .seq its.toArray n } = { cls := .type "list", data := .seq its'.toArray n' }) (r : Vals ys its') (hz : ys.length ≤ sizeLine) (t : Nat) :
    Inv X pins σ (upd H p (.lst ys)) { s with heap := s.heap.update p f, toks := t } := by
  have e : (s.heap.update p f).get? p = some { cls := .type "list", data := .seq its'.toArray n' } := by
    rw [Heap.get?_update_self f ho (by rw [hf] <;> rfl), hf]
  refine I.write (x := p) (e := p) (by rw [h]; trivial) (.inl rfl) (fun b u hb q => (Heap.get?_update_other _ _ (Ne.symm hb)).trans q) ⟨_, e⟩ ?_
  exact ⟨hz, its', n', r, e⟩
def rSetL : V → V → V → Hp → (Hp → Prop) → Prop := fun o i v H Q => ∃ p xs k j, o = .ref p ∧ i = .int k ∧ H p = some (.lst xs) ∧ ixN xs.length k = some j ∧ Q (upd H p (.lst (xs.set j v)))
theorem set_list : PSet X rSetL := by
  intro pins s σ H o i v ov iv u Q I ro ri rv h
  refine L2.goal_let ?_
  intro q_
  obtain ⟨p, xs, k, j, rfl, rfl, hp, hj, q⟩ := h
  dsimp only [q_]
  clear q_
  cases ro
  obtain ⟨t, rfl⟩ := ri
  obtain ⟨its, n, r, ho, hz⟩ := I.lst hp
  obtain ⟨h1, h2, h3, h4⟩ := ixN_seq hj
  have hl := r.length
  have hn := line63
  have I' : Inv X pins σ (upd H p (.lst (xs.set j v))) { s with heap := s.heap.update p (Obj.mapSeq (·.setIfInBounds j u)) } :=
    I.lstUpd hp ho (mapSeq_set its n j u) (r.set rv j) (by rw [List.length_set]; exact hz) s.toks
  by_cases h0 : 0 ≤ k
  · have hk : k.toNat = j := by
      rw [seqIndex_of h0 h4] at h1
      exact Option.some.inj h1
    exact PySem.W.ki_setAt ho h0 (by omega) (by rw [List.size_toArray, ← hl]; exact h4) (by rw [hk]; exact ⟨_, I', q⟩)
  · have hk : (k + (its.toArray.size : Int)).toNat = j := by
      rw [seqIndex_neg (by omega) h3] at h1
      rw [List.size_toArray, ← hl]
      exact Option.some.inj h1
    exact PySem.W.ki_setBack ho (by omega) (by rw [List.size_toArray, ← hl]; exact h3) (by omega) (by rw [hk]; exact ⟨_, I', q⟩)
theorem slice_bounds (lo hi : Option Int) (n : Nat) : (sliceBounds lo hi none n).1 = ((HT.sIx n 0 lo : Nat) : Int) ∧ (sliceBounds lo hi none n).2.1 = ((HT.sIx n n hi : Nat) : Int) ∧ (sliceBounds lo hi none n).2.2 = 1 := by
  refine ⟨?_, ?_, rfl⟩
  · cases lo with
    | none => simp [sliceBounds, HT.sIx]
    | some i =>
      simp only [sliceBounds, HT.sIx, Option.getD_none, show (1 : Int) > 0 by decide, if_true]
      by_cases h : i < 0
      · simp only [h, if_true] <;> omega
      · simp only [h, if_false] <;> omega
  · cases hi with
    | none => simp [sliceBounds, HT.sIx]
    | some i =>
      simp only [sliceBounds, HT.sIx, Option.getD_none, show (1 : Int) > 0 by decide, if_true]
      by_cases h : i < 0
      · simp only [h, if_true] <;> omega
      · simp only [h, if_false] <;> omega
theorem slicePick_cut (its : List Value) (lo hi : Option Int) : slicePick its.toArray lo hi none = ((its.drop (HT.sIx its.length 0 lo)).take (HT.sIx its.length its.length hi - HT.sIx its.length 0 lo)).toArray := by
  obtain ⟨h1, h2, h3⟩ := slice_bounds lo hi its.toArray.size
  unfold slicePick
  rw [h1, h2, h3]
  simp only [sliceRange_one, pick_run, List.size_toArray] <;> rfl
def rSlL (K : PySem.W.Frag) : V → Option Int → Option Int → Hp → VK → Prop := fun x lo hi H Q => ∃ a xs, x = .ref a ∧ SqL K H a xs ∧ ∀ p, H p = none → Q (.ref p) (upd H p (.lst (cutV xs lo hi)))
theorem sl_list : SlR X (rSlL X.K) := by
  intro pins s σ H x v vl vu lo hi sl Q I rx hs pl pu h
  refine L2.goal_let ?_
  intro q_
  obtain ⟨a, xs, rfl, hx, q⟩ := h
  dsimp only [q_]
  clear q_
  cases rx
  obtain ⟨its, r, ht, hz⟩ := I.list hx
  have hlen := r.length
  refine ⟨"list", _, slot_list_getitem.lookup, ht.isList.typeIs, ?_⟩
  refine wpAny_getItem_list_slice ht.isList hs pl pu .none (by simp) ?_ (by rw [List.size_toArray] <;> omega)
  rw [slicePick_cut, ← hlen]
  refine ⟨.ref s.heap.objs.size, _, I.laid (t' := s.toks) (o := .lst (cutV xs lo hi)) (fun b ob q => Heap.get?_push_of_some _ q) (Nat.le_refl _) ?_, rfl, q _ (I.hok.fresh (Nat.le_refl _))⟩
  exact ⟨Nat.le_trans (cutV_length xs lo hi) hz, _, 0, (r.drop (HT.sIx xs.length 0 lo)).take (HT.sIx xs.length xs.length hi - HT.sIx xs.length 0 lo), Heap.get?_push_size _ rfl⟩
theorem call_len_seq : CallR X (.builtin "len") (fun xs H Q => ∃ p ys, xs = [.ref p] ∧ (SqL X.K H p ys ∨ SqT X.K H p ys) ∧ Q (.int ys.length) H) := by
  intro pins s σ H xs us Q I r h
  refine L2.goal_let ?_
  intro q_
  obtain ⟨p, ys, rfl, hq, q⟩ := h
  dsimp only [q_]
  clear q_
  obtain ⟨u, rfl, rx⟩ := vals1 r
  cases rx
  have hn := line63
  rcases hq with hq | hq
  · obtain ⟨its, r', pl, hz⟩ := I.list hq
    have hlen := r'.length
    exact Calls.call_len_list pl.isList (by simp only [List.size_toArray] <;> omega) ⟨.int ys.length, H, I.tok _, ⟨s.toks + 1, by rw [List.size_toArray, hlen]⟩, q⟩
  · obtain ⟨its, r', pl, hz⟩ := I.tuple hq
    have hlen := r'.length
    exact len_tuple pl (by simp only [List.size_toArray] <;> omega) ⟨.int ys.length, H, I.tok _, ⟨s.toks + 1, by rw [List.size_toArray, hlen]⟩, q⟩
theorem call_list_of : CallR X (.type "list") (fun xs H Q => ∃ p ys, xs = [.ref p] ∧ (SqL X.K H p ys ∨ SqT X.K H p ys) ∧ ∀ l, H l = none → Q (.ref l) (upd H l (.lst ys))) := by
  intro pins s σ H xs us Q I r h
  refine L2.goal_let ?_
  intro q_
  obtain ⟨p, ys, rfl, hq, q⟩ := h
  dsimp only [q_]
  clear q_
  obtain ⟨u, rfl, rx⟩ := vals1 r
  cases rx
  have fin : ∀ (its : List Value), Vals ys its → ys.length ≤ sizeLine → ∀ (h' : Heap) (c' : Nat), (∀ b o', s.heap.get? b = some o' → h'.get? b = some o') →
      h'.get? s.heap.objs.size = some { cls := .type "list", dict := none, data := .seq its.toArray c', slots := #[] } → EP X pins σ Q (.ref s.heap.objs.size) { s with heap := h' } := fun its r' hz h' c' kp e =>
    ⟨.ref s.heap.objs.size, _, I.laid (t' := s.toks) kp (Nat.le_refl _) (show ObjOk X.prog X.w _ h' _ (.lst ys) from ⟨hz, its, c', r', e⟩), rfl, q _ (I.hok.fresh (Nat.le_refl _))⟩
  rcases hq with hq | hq
  · obtain ⟨its, r', pl, hz⟩ := I.list hq
    have hlen := r'.length
    obtain ⟨o, ho, hc, n, hd⟩ := pl.isList
    exact call_list_seq p (.inl rfl) ho hc hd (fun h' c' kp e => fin its r' hz h' c' kp e) (by simp only [List.size_toArray] <;> omega)
  · obtain ⟨its, r', pl, hz⟩ := I.tuple hq
    have hlen := r'.length
    refine L2.goal_let ?_
    intro q_
    obtain ⟨o, ho, hc, n, hd⟩ := pl
    dsimp only [q_]
    clear q_
    exact call_list_seq p (.inr rfl) ho hc hd (fun h' c' kp e => fin its r' hz h' c' kp e) (by simp only [List.size_toArray] <;> omega)
theorem call_tuple_of : CallR X (.type "tuple") (fun xs H Q => ∃ p ys, xs = [.ref p] ∧ ((SqL X.K H p ys ∧ ∀ l, H l = none → Q (.ref l) (upd H l (.tup ys))) ∨ (SqT X.K H p ys ∧ Q (.ref p) H))) := by
  intro pins s σ H xs us Q I r h
  obtain ⟨p, ys, rfl, h⟩ := h
  obtain ⟨u, rfl, rx⟩ := vals1 r
  cases rx
  rcases h with ⟨hq, q⟩ | ⟨hq, q⟩
  · obtain ⟨its, r', pl, hz⟩ := I.list hq
    have hlen := r'.length
    refine call_tuple_list pl.isList (fun h' kp => ?_) (by simp only [List.size_toArray] <;> omega)
    have I1 : Inv X pins σ H { s with heap := h' } := I.kept (t' := s.toks) kp
    have I2 : Inv X pins σ (upd H h'.objs.size (.tup ys)) { s with heap := h'.push { cls := .type "tuple", data := .seq its.toArray } } :=
      I1.laid (t' := s.toks) (fun b o e => Heap.get?_push_of_some _ e) (Nat.le_refl _) (show ObjOk X.prog X.w _ _ _ (.tup ys) from ⟨hz, its, r', IsTup.new _ _⟩)
    exact ⟨.ref h'.objs.size, _, I2, rfl, q _ (I1.hok.fresh (Nat.le_refl _))⟩
  · obtain ⟨its, r', pl, hz⟩ := I.tuple hq
    exact call_tuple_same pl ⟨.ref p, H, I, rfl, q⟩
def tyV (K : PySem.W.Frag) (T : String) (x : V) (H : Hp) : Prop := match x with
  | .str _ => T = "str"
  | .int _ => T = "int"
  | .ref p => (T = "list" ∧ ∃ xs, SqL K H p xs) ∨ (T = "tuple" ∧ ∃ o, K.lookup p = some o ∧ o.cls = .type "tuple" ∧ o.dict = none) ∨
      (T = "dict" ∧ ((∃ kvs, H p = some (.dK kvs)) ∨ ∃ kvs, H p = some (.dT kvs))) ∨ (T = "set" ∧ ∃ S n, H p = some (.set S n))
  | _ => False
theorem tyV_is {pins : List (Addr × Obj)} {σ : St} {H : Hp} {s : Shared} {T : String} {x : V} {v : Value} (I : Inv X pins σ H s) (r : RelV x v) (ty : tyV X.K T x H) :
    s.TypeIs v T ∧ ∀ a, v = .ref a → ∃ ob, s.heap.get? a = some ob ∧ ob.dict = none := by
  cases x with
  | str z =>
    obtain ⟨t, rfl⟩ := r
    cases (show T = "str" from ty)
    exact ⟨typeIs_str s z t, fun _ e => nomatch e⟩
  | int i =>
    obtain ⟨t, rfl⟩ := r
    cases (show T = "int" from ty)
    exact ⟨typeIs_int s i t, fun _ e => nomatch e⟩
  | ref p =>
    cases r
    rcases ty with ⟨rfl, xs, hq⟩ | ⟨rfl, o, hk, hc, hd⟩ | ⟨rfl, hk⟩ | ⟨rfl, S, n, hk⟩
    · obtain ⟨its, _, pl, _⟩ := I.list hq
      refine ⟨pl.isList.typeIs, fun a e => ?_⟩
      cases e
      refine L2.goal_let ?_
      intro q_
      obtain ⟨o, n, e, c, hd, _⟩ := pl
      dsimp only [q_]
      clear q_
      exact ⟨o, e, hd⟩
    · refine ⟨⟨o, I.kIn p o hk, hc⟩, fun a e => ?_⟩
      cases e
      exact ⟨o, I.kIn _ o hk, hd⟩
    · have z : ∃ o, s.heap.get? p = some o ∧ o.ExactDict := by
        rcases hk with ⟨kvs, hk⟩ | ⟨kvs, hk⟩
        · obtain ⟨_, _, _, _, o, _, _, e, ex, _⟩ := I.hok p _ hk
          exact ⟨o, e, ex⟩
        · obtain ⟨_, _, _, _, o, _, _, e, ex, _⟩ := I.hok p _ hk
          exact ⟨o, e, ex⟩
      obtain ⟨o, e, ex⟩ := z
      refine ⟨⟨o, e, ex.1⟩, fun a e2 => ?_⟩
      cases e2
      exact ⟨o, e, ex.2.1⟩
    · obtain ⟨o, _, _, _, e, ex, _⟩ := I.hok p _ hk
      refine ⟨⟨o, e, ex.1⟩, fun a e2 => ?_⟩
      cases e2
      exact ⟨o, e, ex.2.1⟩
  | _ => exact False.elim ty
def tBM (K : PySem.W.Frag) (T : String) (r : V → List V → Hp → VK → Prop) (to : TE) (t : TA) : TE := fun σ H Q => to σ H fun x H1 => tyV K T x H1 ∧ t σ H1 fun xs H2 => r x xs H2 Q
variable {o e : Expr} {es : List Expr} {to : TE} {t : TA} {name : Str} {apos cpos : Pos} {T id : String} {r : V → List V → Hp → VK → Prop}
theorem pe_bm (pa : PlainAttrs T) (slot : Slot T name id) (hty : typeOf (.builtin id) = pure (.type "method_descriptor")) (hm : MtR X id r) (ho : PE X o to) (ha : PA X (e :: es) t)
    (hbase : attributeBase o name X.env (eval o X.env) = eval o X.env := by rfl)
    (hfew : ((backTo cpos (starEach (e :: es) X.env)).all (fun x => !x.1) && (backToKw cpos (keywordEach [] X.env)).all (fun x => x.1.isSome)
      && decide ((e :: es).length + ([] : List Keyword).length + (if ([] : List Keyword).isEmpty then 0 else 1) < 30)) = true := by rfl)
    (hline : (apos.endLine == cpos.line) = true := by rfl) (hs : starEach (e :: es) X.env = (false, eval e X.env) :: starEach es X.env := by rfl) (hplain : (backTo cpos (starEach es X.env)).any (·.1) = false := by rfl) :
    PE X (.Call (.Attribute o name apos) (e :: es) [] cpos) (tBM X.K T r to t) := by
  intro pins s σ H Q I h
  refine wpAny_Call_method_late hbase hfew hline rfl (thn (ho pins s σ H _ I h) fun v s1 hh_ => ?_)
  refine L2.goal_let ?_
  intro q_
  obtain ⟨x, H1, I1, r1, ty, q1⟩ := hh_
  dsimp only [q_]
  clear q_
  obtain ⟨h1, h2⟩ := tyV_is I1 r1 ty
  refine ⟨T, id, pa, slot, hty, h1, h2, ?_⟩
  have hA := ha cpos pins s1 σ H1 _ I1 q1
  rw [hs] at hA ⊢
  refine Calls.callWith_builtin (by show (false || (backTo cpos (starEach es X.env)).any (·.1)) = false; rw [hplain] <;> rfl) (Calls.evalArgs_plain ?_)
  exact thn hA fun us s2 ⟨vs, H2, I2, r2, q2⟩ => hm pins s2 σ H2 x vs v us Q I2 r1 r2 q2
/- xs.append(e), list.index on a module's tuple .. are MtR facts of 06m -/
end
end L2
namespace L2
open PySem PySem.Spec PyProof.Rows
def MtM (X : Cx) (id : String) (r : V → List V → Hp → VK → Prop) : Prop :=
  ∀ (pins : List (Addr × Obj)) (s : Shared) (σ : St) (H : Hp) (x : V) (xs : List V) (v : Value) (us : List Value) (Q : VK), Inv X pins σ H s → RelV x v → Vals xs us → r x xs H Q →
    wpAny (model X.prog X.w) X.A (call (.builtin id) (v :: us)) (EP X pins σ Q) X.xe s
theorem Vals.one : ∀ {x : V} {us : List Value}, Vals [x] us → ∃ u, us = [u] ∧ RelV x u
  | _, _, .cons r .nil => ⟨_, rfl, r⟩
theorem Vals.rep {xs : List V} {us : List Value} (h : Vals xs us) : ∀ k : Nat, Vals (List.replicate k xs).flatten (List.replicate k us).flatten
  | 0 => .nil
  | k + 1 => by
    rw [List.replicate_succ, List.replicate_succ, List.flatten_cons, List.flatten_cons]
    exact Vals.append h (Vals.rep h k)
theorem foldl_rep (its : List Value) : ∀ (k : Nat) (acc : List Value),
    List.foldl (fun x1 x2 => x1 ++ x2) acc.toArray (List.replicate k its.toArray) = (acc ++ (List.replicate k its).flatten).toArray
  | 0, acc => by simp
  | k + 1, acc => by
    have e : acc.toArray ++ its.toArray = (acc ++ its).toArray := by simp
    have e2 : (acc ++ its) ++ (List.replicate k its).flatten = acc ++ (List.replicate (k + 1) its).flatten := by
      rw [List.replicate_succ, List.flatten_cons, List.append_assoc]
    rw [← e2, ← foldl_rep its k (acc ++ its), ← e, List.replicate_succ, List.foldl_cons]
section
variable {X : Cx} {pins : List (Addr × Obj)} {σ : St} {H : Hp} {s : Shared} {l b : Addr} {xs ys zs : List V}
theorem Inv.lset {its its' : List Value} {n : Nat} {f : Array Value → Array Value} {t' : Nat} (I : Inv X pins σ H s) (hH : H l = some (.lst xs))
    (e : s.heap.get? l = some { cls := .type "list", data := .seq its.toArray n }) (hf : f its.toArray = its'.toArray) (hv : Vals ys its') (hz : ys.length ≤ sizeLine) :
    Inv X pins σ (upd H l (.lst ys)) { s with heap := s.heap.update l (Obj.mapSeq f), toks := t' } := by
  have q := PySem.IsL.update e f
  rw [hf] at q
  refine I.write (x := l) (e := l) (by rw [hH]; exact trivial) (.inl rfl) (fun b' u hb hu => (Heap.get?_update_other s.heap (Obj.mapSeq f) (Ne.symm hb)).trans hu) ⟨_, q⟩ ?_
  exact ⟨hz, its', _, hv, q⟩
theorem Inv.lnew {its : List Value} {t' : Nat} (I : Inv X pins σ H s) (hv : Vals ys its) (hz : ys.length ≤ sizeLine) :
    Inv X pins σ (upd H s.heap.objs.size (.lst ys)) { s with heap := s.heap.push { cls := .type "list", data := .seq its.toArray }, toks := t' } :=
  I.laid (fun _ _ q => Heap.get?_push_of_some _ q) (Nat.le_refl _) ⟨hz, its, 0, hv, Heap.get?_push_size _ rfl⟩
theorem Inv.fresh (I : Inv X pins σ H s) : H s.heap.objs.size = none := I.hok.fresh (Nat.le_refl _)
theorem Inv.lstM (I : Inv X pins σ H s) (hH : H l = some (.lst xs)) : xs.length ≤ sizeLine ∧ ∃ (its : List Value) (n : Nat), Vals xs its ∧ xs.length = its.length ∧ s.heap.get? l = some { cls := .type "list", data := .seq its.toArray n } := by
  obtain ⟨z, its, n, r, e⟩ := I.hok l _ hH
  exact ⟨z, its, n, r, r.length, e⟩
theorem notLongL {n : Nat} (h : n ≤ sizeLine) : Builtin.List.listTooLong n = false := by
  unfold Builtin.List.listTooLong
  exact decide_eq_false (by omega)
end
section
variable {X : Cx}
def rAppend : V → List V → Hp → VK → Prop := fun x vs H Q => ∃ l xs y, x = .ref l ∧ vs = [y] ∧ H l = some (.lst xs) ∧ xs.length < sizeLine ∧ Q .non (upd H l (.lst (xs ++ [y])))
theorem mt_append : MtM X "list.append" rAppend := by
  intro pins s σ H x vs v us Q I rx rv h
  refine L2.goal_let ?_
  intro q_
  obtain ⟨l, xs, y, rfl, rfl, hH, hz, q⟩ := h
  dsimp only [q_]
  clear q_
  cases rx
  obtain ⟨u, rfl, ru⟩ := rv.one
  obtain ⟨z, its, n, r, hl, e⟩ := I.lstM hH
  refine call_meets F.slot_list_append ⟨_, e, rfl⟩ F.entry_list_append (F.args_list_append_2 _ _) (PySem.list_append l its.toArray n u (by rw [List.size_toArray]; omega)) ⟨e, ?_⟩
  refine ⟨.non, _, I.lset (its' := its ++ [u]) hH e (by simp) (r.append (.cons ru .nil)) ?_, rfl, q⟩
  rw [List.length_append, List.length_singleton]
  omega
def rExtend : V → List V → Hp → VK → Prop := fun x vs H Q => ∃ l b xs zs, x = .ref l ∧ vs = [.ref b] ∧ H l = some (.lst xs) ∧ H b = some (.lst zs) ∧ xs.length + zs.length ≤ sizeLine ∧ Q .non (upd H l (.lst (xs ++ zs)))
theorem mt_extend : MtM X "list.extend" rExtend := by
  intro pins s σ H x vs v us Q I rx rv h
  refine L2.goal_let ?_
  intro q_
  obtain ⟨l, b, xs, zs, rfl, rfl, hH, hB, hz, q⟩ := h
  dsimp only [q_]
  clear q_
  cases rx
  obtain ⟨u, rfl, ru⟩ := rv.one
  cases ru
  obtain ⟨z, its, n, r, hl, e⟩ := I.lstM hH
  obtain ⟨z2, its2, n2, r2, hl2, e2⟩ := I.lstM hB
  have hsz : its.toArray.size + its2.toArray.size ≤ sizeLine := by rw [List.size_toArray, List.size_toArray]; omega
  have hlong : ¬ (!its.toArray.isEmpty && Builtin.List.listTooLong (its.toArray.size + its2.toArray.size)) = true := by
    rw [notLongL hsz, Bool.and_false]
    exact Bool.false_ne_true
  refine call_meets F.slot_list_extend ⟨_, e, rfl⟩ F.entry_list_extend (F.args_list_extend_2 _ _)
    (AutoSeq1.list_extend_list_list_0 l its.toArray n b its2.toArray n2 hlong (by rw [List.size_toArray]; omega) (by omega)) ⟨e, e2, ?_⟩
  refine ⟨.non, _, I.lset (its' := its ++ its2) hH e (by simp) (r.append r2) ?_, rfl, q⟩
  rw [List.length_append]
  omega
def rCat : R2 := fun x y H Q => ∃ l b xs zs, x = .ref l ∧ y = .ref b ∧ H l = some (.lst xs) ∧ H b = some (.lst zs) ∧ xs.length + zs.length ≤ sizeLine ∧ ∀ p, H p = none → Q (.ref p) (upd H p (.lst (xs ++ zs)))
theorem op_cat : OpR X (binaryOp .Add) rCat := by
  intro pins s σ H x y v u Q I rx ry h
  refine L2.goal_let ?_
  intro q_
  obtain ⟨l, b, xs, zs, rfl, rfl, hH, hB, hz, q⟩ := h
  dsimp only [q_]
  clear q_
  cases rx
  cases ry
  obtain ⟨z, its, n, r, hl, e⟩ := I.lstM hH
  obtain ⟨z2, its2, n2, r2, hl2, e2⟩ := I.lstM hB
  refine PySem.P.add_list e e2 ?_ (by rw [List.size_toArray, List.size_toArray]; omega)
  have ea : its.toArray ++ its2.toArray = (its ++ its2).toArray := by simp
  rw [ea]
  exact ⟨.ref _, _, I.lnew (t' := s.toks) (r.append r2) (by rw [List.length_append]; omega), rfl, q _ I.fresh⟩
def rRep : R2 := fun x y H Q => ∃ l k xs, x = .ref l ∧ y = .int k ∧ H l = some (.lst xs) ∧ -(2 ^ 63) ≤ k ∧ k < 2 ^ 63 ∧ xs.length * k.toNat ≤ sizeLine ∧
  ∀ p, H p = none → Q (.ref p) (upd H p (.lst (List.replicate k.toNat xs).flatten))
theorem len_rep {α : Type} (xs : List α) (k : Nat) : (List.replicate k xs).flatten.length = k * xs.length := by
  induction k with
  | zero => simp
  | succ k ih => rw [List.replicate_succ, List.flatten_cons, List.length_append, ih, Nat.succ_mul, Nat.add_comm]
theorem op_rep : OpR X (binaryOp .Mult) rRep := by
  intro pins s σ H x y v u Q I rx ry h
  refine L2.goal_let ?_
  intro q_
  obtain ⟨l, k, xs, rfl, rfl, hH, h1, h2, hz, q⟩ := h
  dsimp only [q_]
  clear q_
  cases rx
  obtain ⟨t, rfl⟩ := ry
  obtain ⟨z, its, n, r, hl, e⟩ := I.lstM hH
  have hlen : its.toArray.size * k.toNat ≤ sizeLine := by rw [List.size_toArray, ← hl]; exact hz
  have hcap : ¬ its.toArray.size * k.toNat > (2 ^ 63 - 1) / 8 := by
    have : (sizeLine : Nat) ≤ (2 ^ 63 - 1) / 8 := by decide
    omega
  have hfit : ¬ (!Builtin.List.listFitsIndex k) = true := by
    rw [fitsIndex_both h1 h2]
    exact Bool.false_ne_true
  have hlong : ¬ Builtin.List.listTooLong (its.toArray.size * k.toNat) = true := by
    rw [notLongL hlen]
    exact Bool.false_ne_true
  have hnew : List.foldl (fun x1 x2 => x1 ++ x2) #[] (List.replicate (if its.toArray.isEmpty = true then 0 else k.toNat) its.toArray) = (List.replicate k.toNat its).flatten.toArray := by
    have f0 : ∀ m : Nat, List.foldl (fun x1 x2 => x1 ++ x2) #[] (List.replicate m its.toArray) = (List.replicate m its).flatten.toArray := fun m => by
      have := foldl_rep its m []
      rw [List.nil_append] at this
      exact this
    rw [f0]
    cases its with
    | nil => simp
    | cons a r' => rw [if_neg (by simp)]
  refine wpAny_binaryOp_repeat_ref (T := "list") (U := "int") (by decide) ⟨_, e, rfl⟩ (fun s' => typeIs_int s' k t) noFill_list_mul F.fills_int_mul F.slot_int_rmul repeat_list F.slot_int_index.lookup
    (call_meets F.slot_int_rmul (typeIs_int s k t) F.entry_int_rmul (F.args_int_rmul_2 _ _) (int___rmul___int_list k t l its.toArray n)
      ⟨e, rfl, ⟨_, e, rfl⟩, call_meets F.slot_list_mul ⟨_, e, rfl⟩ F.entry_list_mul (F.args_list_mul_2 _ _) (AutoListH.list___mul___list_int_3 l its.toArray n k t hfit hcap hlong) ⟨e, ?_⟩⟩)
  rw [hnew]
  exact ⟨.ref _, _, I.lnew (t' := s.toks) (r.rep k.toNat) (by rw [len_rep, Nat.mul_comm]; exact hz), rfl, q _ I.fresh⟩
end
section
variable {prog : Program} {w : World} {A : Around} {E : Value → Shared → Prop} {s : Shared}
end
section
variable {X : Cx}
end
end L2
namespace Att
open PySem PySem.W PySem.Calls PyProof.Rows
theorem ints_of_wellAll {P : Params} {h : Heap} : ∀ (ns : List Int) (vs : List Value), WellAll P h vs (ns.map WData.int) → IntsAre vs ns := by
  intro ns
  induction ns with
  | nil =>
    intro vs w
    rw [List.map_nil] at w
    cases w
    exact .nil
  | cons n ns ih =>
    intro vs w
    rw [List.map_cons] at w
    cases w with
    | cons a b =>
      cases a
      exact .cons _ _ (ih _ b)
theorem script_of {l : OpenLaw} {n : Nat} (hn : l.most = some n) {P : Params} {h : Heap} {args : List WData} {vals : List Value}
    (hpre : l.row.toRowW.claim.pre args = true) (hwl : WellAll P h vals args) :
    ∃ a vs ns, vals = [Value.ref a] ∧ args = [WData.list (ns.map WData.int)] ∧ h.get? a = some { cls := .type "list", data := .seq vs.toArray } ∧ IntsAre vs ns ∧ ns.length ≤ n := by
  have hsh : WShape.hasAll [] args [.list .int] = true := (pre_splitW hpre).1
  have hc : l.pre.holds [] { args := args } = true := (pre_splitW hpre).2
  obtain ⟨d, r, rfl, h1, h2⟩ := hasAllW_cons hsh
  obtain rfl := hasAllW_nil h2
  obtain ⟨xs, rfl, h3⟩ := hasW_list h1
  obtain ⟨ns, rfl⟩ := items_int h3
  have hlen : ns.length ≤ n := by
    unfold OpenLaw.pre at hc
    have h4 : (WTm.not (.lt (.lit (.int (n : Int))) (.len (.arg 0)))).holds [] { args := [.list (ns.map .int)] } = true := by
      have h4 := (holds_andW hc).1
      rw [hn] at h4
      exact h4
    have h5 := condW_of h4 (w_not (w_lt w_lit (w_len_list (w_arg rfl))))
    rw [List.length_map] at h5
    refine Nat.le_of_not_lt fun q => ?_
    have q' : (n : Int) < ((ns.length : Nat) : Int) := by omega
    first
      | (rw [decide_eq_true q'] at h5; exact absurd h5 (by decide))
      | (simp at h5; omega)
  cases hwl with
  | cons w1 w2 =>
    cases w2
    cases w1 with
    | list ho hall => exact ⟨_, _, ns, rfl, rfl, ho, ints_of_wellAll ns _ hall, hlen⟩
theorem post_true (l : OpenLaw) (args : List WData) : l.row.toRowW.claim.post args (.bool true) args = true :=
  postW_of (r := l.row.toRowW) (X := (true == true))
    (show WShape.has [] (.bool true) .bool = true by first | rfl | decide | simp [WShape.has, WShape.arms, WShape.armsAll])
    (show (WTm.eq .res (.lit (.bool true))).value [] { args := args, res := some (.bool true), after := args } = some (.bool (true == true)) from w_eq_bool (w_res rfl) w_lit) rfl
theorem attach_call {l : OpenLaw} {n : Nat} {q : Program} {loose : List Str} {XP : (Str → Option Value) → Heap → Prop} {YP : World → Heap → Prop} {d : DefRec}
    (hn : l.most = some n) (hdf : d.params.defaults = [])
    (call : ∀ (w : World) (s₀ s₁ : Shared) (mg mb : Str → Option Value) (fa : Addr) (o : Obj) (pm cd doc : Value) (a : Addr) (vs : List Value) (ns : List Int),
      Ground q loose [] XP w s₀ mg mb s₁.heap → YP w s₁.heap →
      s₁.heap.get? fa = some o → o.data = .func (docDef d.name d.params d.body d.scope pm cd doc) → s₁.heap.CodeRec cd d.name → mg d.name = some (.ref fa) →
      s₁.heap.get? a = some { cls := .type "list", data := .seq vs.toArray } → IntsAre vs ns → ns.length ≤ n → s₁.gens = #[] →
      codeAny (model l.prog w) callerA (.call (.ref fa) ⟨[.ref a], []⟩) (fun r s' => r = .ok (.ret (.bool true)) ∧ OldK s₁.heap s'.heap ∧ s'.os = s₁.os ∧ AllBare s'.gens) s₁) :
    WalkO q loose XP YP l.row.toRowW d [] (fun f vs => PySem.call f vs) := by
  intro w s₀ s₁ mg mb G Y fa o pm cd doc dV kV ho hd hcd hD hmg hg args vals as hpre hlay hrd hwl hlo
  obtain rfl : dV = .none := Dflts.none hD hdf
  obtain rfl : kV = .none := Dflts.noKw hD
  obtain ⟨a, vs, ns, rfl, rfl, hobj, hints, hlen⟩ := script_of hn hpre hwl
  refine enter_call (codeAny_mono (call w s₀ s₁ mg mb fa o pm cd doc a vs ns G Y ho (fd_plain hd) hcd hmg hobj hints hlen hg) fun r s' hq => ?_)
  obtain ⟨rfl, h2, h3, h4⟩ := hq
  exact ⟨.inl ⟨.bool true, .bool true, [], rfl, fun _ => rfl, .bool true, post_true l _, fun _ => ⟨List.Pairwise.nil, fun _ hm => (nomatch hm)⟩⟩, h2, h3, h4⟩
section
variable {prog : Program} {w : World} {A : Around} {E : Value → Shared → Prop} {s : Shared} {K : Frag}
end
end Att
namespace L2
open PySem PySem.Spec PyProof.Rows
theorem vals_ints : ∀ {vs : List Value} {ns : List Int}, IntsAre vs ns → Vals (ns.map V.int) vs
  | _, _, .nil => .nil
  | _, _, .cons n t h => .cons ⟨t, rfl⟩ (vals_ints h)
def Only (H : Hp) : Prop := ∀ b, H b = none ∨ ∃ o xs, H b = some (.frz o (.lst xs))
theorem law_call {P : Program} {w : World} {K : PySem.W.Frag} {mg mb : Str → Option Value} {CX : CXT} {k : Nat} {fa a : Addr} {fd : FuncData} {x : Str} {sp : Sp} {s₁ : Shared} {vs : List Value} {ns : List Int}
    (KX : K.In s₁.heap) (hns : s₁.heap.Ns mainGlobals mg) (hb : s₁.heap.Ns builtinsNs mb) (hbb : ∀ x : Str, x ≠ "__name__" → mb x = bootBuiltins x) (hlim : s₁.heap.NoLimit) (hg : s₁.gens = #[])
    (ha : s₁.heap.get? a = some { cls := .type "list", data := .seq vs.toArray }) (hi : IntsAre vs ns) (hl : ns.length ≤ sizeLine) (hr : Room k callerA)
    (F : ∀ base : Heap, K.In base → base.Ns mainGlobals mg → FnOk P w K mg base CX k fa fd [x] sp) (hbind : ∀ (s : Shared) (u : Value), BindsTo s fd ⟨[u], []⟩ [(x, u)])
    (hsp : ∀ H : Hp, Only H → SqL K H a (ns.map V.int) → sp [.ref a] H (fun v _ => v = .bl true) fun _ _ _ => False)
    (hCX : ∀ H e s', CX [] H s₁ (fun _ _ _ => False) e s' → False) :
    codeAny (model P w) callerA (.call (.ref fa) ⟨[.ref a], []⟩) (fun r s' => r = .ok (.ret (.bool true)) ∧ OldK s₁.heap s'.heap ∧ s'.os = s₁.os ∧ AllBare s'.gens) s₁ := by
  have rv := vals_ints hi
  have lenV := hi.length
  -- from an abstract heap in which nothing but the script may be tracked
  have core : ∀ H : Hp, Only H → SqL K H a (ns.map V.int) → HOk P w H s₁.heap → (∀ b, H b ≠ none → b = a) → (H a ≠ none → K.lookup a = none) →
      codeAny (model P w) callerA (.call (.ref fa) ⟨[.ref a], []⟩) (fun r s' => r = .ok (.ret (.bool true)) ∧ OldK s₁.heap s'.heap ∧ s'.os = s₁.os ∧ AllBare s'.gens) s₁ := by
    intro H hO hS hok hA hK
    have base_of : ∀ {b : Addr} {o : Obj}, s₁.heap.get? b = some o → H b = none → (hidT s₁.heap H).get? b = some o := fun e n => hidT_get e n
    have noA : ∀ {b : Addr} {o : Obj} {es : Array DictEntry} {ep : Nat}, s₁.heap.get? b = some o → o.data = .dict es ep → H b = none := fun {b o es ep} e d => by
      cases q : H b with
      | none => rfl
      | some u =>
        have e' : b = a := hA b (by rw [q]; simp)
        subst e'
        rw [ha] at e; cases e
        have d' : Data.seq vs.toArray _ = Data.dict es ep := d
        cases d'
    have nsK : ∀ {b : Addr} {m : Str → Option Value}, s₁.heap.Ns b m → (hidT s₁.heap H).Ns b m := fun {b m} ⟨o, es, ep, e, d, r⟩ => ⟨o, es, ep, base_of e (noA e d), d, r⟩
    have hKb : K.In (hidT s₁.heap H) := fun b o e => base_of (KX b o e) (by
      cases q : H b with
      | none => rfl
      | some u =>
        have e' : b = a := hA b (by rw [q]; simp)
        subst e'
        rw [hK (by rw [q]; simp)] at e; cases e)
    have hM : Mod K mg (hidT s₁.heap H) := ⟨hKb, nsK hns, ⟨mb, nsK hb, hbb⟩, let ⟨mc, h1, h2⟩ := hlim; ⟨mc, nsK h1, h2⟩⟩
    have e0 : Env0 P w K mg (hidT s₁.heap H) callerA [] s₁ H := ⟨rfl, hM, fun b o e => of_hidT e, Nat.le_of_eq (hidT_size _ _), trivial, fun b hb => absurd (show b ∈ ([] : List Addr) from hb) (by simp), hok, .of_eq hg⟩
    refine codeAny_mono ((F _ hKb (nsK hns)).run callerA [] s₁ H ⟨[.ref a], []⟩ [.ref a] [.ref a] _ _ hr e0 (hbind s₁ (.ref a)) (.cons rfl .nil) (hsp H hO hS)) fun r s' h => ?_
    cases r with
    | error e => exact (hCX H e s' h).elim
    | ok fl =>
      cases fl with
      | next => exact False.elim h
      | brk => exact False.elim h
      | cont => exact False.elim h
      | ret u =>
        refine L2.goal_let ?_
        intro q_
        obtain ⟨v, H', os, bare, un, hok', r', q⟩ := h
        dsimp only [q_]
        clear q_
        have q' : v = .bl true := q
        subst q'
        obtain rfl : u = Value.bool true := r'
        refine ⟨rfl, OldK.of_keep fun b o e => ?_, os, bare⟩
        cases q : H b with
        | none => exact un.keep b o e q (by intro z; exact absurd (show b ∈ ([] : List Addr) from z) (by simp)) (by simp)
        | some u =>
          rcases hO b with z | ⟨ob, xs, z⟩
          · rw [q] at z; cases z
          · have z2 := un.frzs b ob _ z
            obtain ⟨e1, _⟩ := hok b _ z
            obtain ⟨e2, _⟩ := hok' b _ z2
            rw [e] at e1; cases e1
            exact e2
  cases hk : K.lookup a with
  | some o =>
    -- the script is one of the module's own objects
    have e := KX a o hk
    rw [ha] at e
    cases e
    refine core (fun _ => none) (fun _ => .inl rfl) (.inr ⟨_, vs.toArray, _, hk, rfl, rfl, rfl, by rw [List.size_toArray, lenV]; exact hl, by simpa using rv⟩) (fun b u z => by have z' : (none : Option HO) = some u := z; cases z') (fun b z => absurd rfl z) fun z => absurd rfl z
  | none =>
    refine core (fun b => if b = a then some (.frz { cls := .type "list", data := .seq vs.toArray } (.lst (ns.map V.int))) else none) (fun b => ?_) (.inl (.inr ⟨{ cls := .type "list", data := .seq vs.toArray }, if_pos rfl⟩)) (fun b u z => ?_) (fun b z => ?_) fun _ => hk
    · by_cases hb : b = a
      · exact .inr ⟨_, _, if_pos hb⟩
      · exact .inl (if_neg hb)
    · by_cases hb : b = a
      · have z' := (if_pos hb).symm.trans z
        cases z'
        subst hb
        exact ⟨ha, by rw [List.length_map]; exact hl, vs, _, rv, ha⟩
      · have z' := (if_neg hb).symm.trans z
        cases z'
    · by_cases hb : b = a
      · exact hb
      · exact absurd (if_neg hb) z
end L2
namespace L2
open PySem PySem.Spec PyProof.Rows
theorem walk_of {l : PySem.W.OpenLaw} {n k : Nat} {q : Program} {loose : List Str} {XP : (Str → Option Value) → Heap → Prop} {YP : World → Heap → Prop} {d : DefRec} {K : Params → PySem.W.Frag} {CX : World → CXT} {sp : World → Sp} {x : Str}
    (hn : l.most = some n) (hn2 : n ≤ sizeLine) (hdf : d.params.defaults = []) (hr : Room k callerA)
    (hY : ∀ (w : World) (h : Heap), YP w h → (K w.params).In h)
    (F : ∀ (w : World) (mg : Str → Option Value) (fa : Addr) (h : Heap), (K w.params).In h → h.Ns mainGlobals mg → mg d.name = some (.ref fa) →
      ∃ fd : FuncData, (∀ (s : Shared) (u : Value), BindsTo s fd ⟨[u], []⟩ [(x, u)]) ∧
        ∀ base : Heap, (K w.params).In base → base.Ns mainGlobals mg → FnOk l.prog w (K w.params) mg base (CX w) k fa fd [x] (sp w))
    (hsp : ∀ (w : World) (H : Hp) (a : Addr) (ns : List Int), ns.length ≤ n → Only H → SqL (K w.params) H a (ns.map V.int) → sp w [.ref a] H (fun v _ => v = .bl true) fun _ _ _ => False)
    (hCX : ∀ (w : World) (H : Hp) (s : Shared) (e : Value) (s' : Shared), CX w [] H s (fun _ _ _ => False) e s' → False) :
    PySem.W.WalkO q loose XP YP l.row.toRowW d [] (fun f vs => PySem.call f vs) := by
  refine Att.attach_call hn hdf fun w s₀ s₁ mg mb fa o pm cd doc a vs ns G Y ho hd hcd hmg hobj hints hlen hg => ?_
  have KX := hY w _ Y
  obtain ⟨fd, hb, hF⟩ := F w mg fa _ KX G.T.g hmg
  exact law_call KX G.T.g G.T.b G.T.builtins G.T.nolimit hg hobj hints (Nat.le_trans hlen hn2) hr hF hb (fun H hO hS => hsp w H a ns hlen hO hS) fun H e s' => hCX w H s₁ e s'
end L2
namespace L2
open PySem PySem.Spec PyProof.Rows
def inClass (s : Stmt) (j : Nat) : Stmt := match s with
  | .ClassDef _ _ _ body _ _ _ _ _ _ _ => body.getD j (.Pass ⟨0, 0, 0, 0⟩)
  | _ => .Pass ⟨0, 0, 0, 0⟩
def defArgs (s : Stmt) : Arguments := match s with
  | .FunctionDef _ a _ _ _ _ _ _ _ _ => a
  | _ => { posonlyargs := [], args := [], vararg := none, kwonlyargs := [], kw_defaults := [], kwarg := none, defaults := [] }
def defBody (s : Stmt) : List Stmt := match s with
  | .FunctionDef _ _ b _ _ _ _ _ _ _ => b
  | _ => []
def defScope (s : Stmt) : Scope := match s with
  | .FunctionDef _ _ _ _ _ _ sc _ _ _ => sc
  | _ => { kind := .function, names := [], isGenerator := false, isCoroutine := false }
abbrev CX0 : CXT := fun _ _ _ _ _ _ => False
structure Fun (K : PySem.W.Frag) (x qual : Str) (st : Stmt) (f : Addr) (fd : FuncData) : Prop where
  ex : ∃ (oc : Value) (od : Option Addr) (kV doc pm : Value) (an : Option Addr) (cdv ct : Value) (osl : Array (Option Value)),
    fd = PySem.W.fnOf x qual (defArgs st) (defBody st) (defScope st) .none kV doc pm an cdv ct ∧ K.lookup f = some ⟨oc, od, .func fd, osl⟩ ∧ PySem.W.codeIn K cdv qual = true
  kp : PySem.W.keepIn K (.ref f) = true
section
variable {P : Program} {w : World} {K : PySem.W.Frag} {mg : Str → Option Value} {base : Heap}
theorem Fun.binds {x qual : Str} {st : Stmt} {f : Addr} {fd : FuncData} {ps : List Str} (F : Fun K x qual st f fd)
    (h : ∀ (kV doc pm : Value) (an : Option Addr) (cdv ct : Value) (us : List Value), us.length = ps.length → bindArgs (PySem.W.fnOf x qual (defArgs st) (defBody st) (defScope st) .none kV doc pm an cdv ct) ⟨us, []⟩ = pure (ps.zip us)) : Binds K fd ps [] := by
  obtain ⟨oc, od, kV, doc, pm, an, cdv, ct, osl, rfl, lk, hcd⟩ := F.ex
  exact .all (h kV doc pm an cdv ct)
theorem fun_mk {x qual : Str} {st : Stmt} {f : Addr} {oc : Value} {od an : Option Addr} {osl : Array (Option Value)} {kV doc pm cdv ct : Value} (l : K.lookup f = some ⟨oc, od, .func (PySem.W.fnOf x qual (defArgs st) (defBody st) (defScope st) .none kV doc pm an cdv ct), osl⟩)
    (c : PySem.W.codeIn K cdv qual = true) (k : PySem.W.keepIn K (.ref f) = true) : Fun K x qual st f (PySem.W.fnOf x qual (defArgs st) (defBody st) (defScope st) .none kV doc pm an cdv ct) := ⟨⟨oc, od, kV, doc, pm, an, cdv, ct, osl, rfl, l, c⟩, k⟩
end
theorem hu_of {A : Around} {k : Nat} (hr : Room k A) : A.units + 1 < cLine := Nat.lt_of_le_of_lt (Nat.add_le_add_left (by decide : 1 ≤ 64) _) hr.units
section
variable {X : Cx}
theorem pv (i : Nat) {x : Str} {pos : Pos} (hN : X.N[i]? = some x := by rfl) (hv : Vis X.env.scope x := by first | exact Or.inl rfl | exact Or.inr (Or.inl rfl) | exact Or.inr (Or.inr rfl)) (hd : (x == ("__debug__" : Str)) = false := by decide)
    (hcd : (x == ("__classdict__" : Str)) = false := by decide) : PE X (.Name x pos) (tVar i) := pe_var hN hv hd hcd
end
theorem iteF {A B : Prop} (h : B) : if false = true then A else B := by
  rw [if_neg Bool.false_ne_true]
  exact h
theorem iteT {A B : Prop} (h : A) : if true = true then A else B := by
  rw [if_pos rfl]
  exact h
theorem ite2 {c A B : Prop} [Decidable c] (h1 : c → A) (h2 : ¬ c → B) : if c then A else B := by
  by_cases h : c
  · rw [if_pos h]
    exact h1 h
  · rw [if_neg h]
    exact h2 h
theorem iteNS {c A B : Prop} [Decidable c] (hc : c) (h : B) : if (!decide c) = true then A else B := by
  rw [decide_eq_true hc]
  exact iteF h
def Same (H H' : Hp) : Prop := ∀ b o, H b = some o → H' b = some o
theorem Same.refl (H : Hp) : Same H H := fun _ _ h => h
theorem Same.trans {H H1 H2 : Hp} (a : Same H H1) (b : Same H1 H2) : Same H H2 := fun c o h => b c o (a c o h)
theorem Same.free {H H' : Hp} (e : Same H H') {l : Addr} (h : H' l = Option.none) : H l = Option.none := by
  cases q : H l with
  | none => rfl
  | some o =>
    rw [e l o q] at h
    cases h
theorem Same.seq {K : PySem.W.Frag} {H H' : Hp} {a : Addr} {xs : List V} (e : Same H H') (h : SqL K H a xs) : SqL K H' a xs := by
  rcases h with (h | ⟨o, h⟩) | h
  · exact .inl (.inl (e _ _ h))
  · exact .inl (.inr ⟨o, e _ _ h⟩)
  · exact .inr h
end L2
set_option Elab.async false
set_option linter.all false
set_option maxRecDepth 100000
set_option maxHeartbeats 4000000
namespace L2
open PySem PySem.Spec PyProof.Rows
section
variable {prog : Program} {w : World} {A : Around} {R : Result → Shared → Prop} {s : Shared}
theorem compLoop_go {elt target iter : Expr} {scope : Scope} {pos : Pos} {it acc : Value} {env : Env} (I : Nat → Shared → Prop)
    (turn : ∀ n s, I n s → wpAny (model prog w) A (pyNext it) (fun r s₁ => match r with
      | none => R (.ok .next) s₁
      | some v => wpAny (model prog w) A (letOwnedTupleGo target it v) (fun _ s₀ => wpAny (model prog w) A (assign target env v) (fun _ s₂ => wpAny (model prog w) A (eval elt env) (fun x s₃ =>
          wpAny (model prog w) A (call (.builtin "list.append") [acc, x]) (fun _ s₄ => ∃ m, m < n ∧ I m s₄) (fun _ _ => False) s₃) (fun _ _ => False) s₂) (fun _ _ => False) s₀) (fun _ _ => False) s₁) (fun _ _ => False) s)
    (n : Nat) (h : I n s) : codeAny (model prog w) A (.compLoop (.ListComp elt [⟨target, iter, [], 0⟩] scope pos) 0 it acc env) R s := by
  refine codeAny_loop rfl I (fun n s hI => ?_) n h
  show wpAny _ _ ((compTurn (.ListComp elt [⟨target, iter, [], 0⟩] scope pos) 0 it acc env).onRaise (fun x => do noteFrame x env; theTreesLotGoes x)) _ _ s
  refine wpAny_noted ?_
  rw [compTurn_list1]
  refine wpAny_bind (wpAny_standAt (wpAny_bind (wpAny_mono (turn n s hI) (fun r s₁ h₁ => ?_) fun _ _ h' => h'.elim)))
  cases r with
  | none => exact wpAny_pure h₁
  | some v =>
    refine wpAny_bind (wpAny_mono h₁ (fun _ s₀ h₀ => ?_) fun _ _ h' => h'.elim)
    exact wpAny_bind (wpAny_mono h₀ (fun _ s₂ h₂ => wpAny_bind (wpAny_bind (wpAny_mono h₂ (fun x s₃ h₃ => wpAny_bind (wpAny_mono h₃
      (fun _ s₄ h₄ => wpAny_pure (wpAny_pure ⟨rfl, h₄⟩)) fun _ _ h' => h'.elim)) fun _ _ h' => h'.elim))) fun _ _ h' => h'.elim)
end
def cxComp (X : Cx) (Nc : List Str) (scope : Scope) (cl : List (Str × Addr)) (C : Addr) (s : Shared) (H : Hp) (ex : List Addr) : Cx where
  prog := X.prog
  w := X.w
  K := X.K
  mg := X.mg
  base := X.base
  A := X.A
  N := Nc
  s₀ := s
  H₀ := H
  env := compEnvC scope cl C X.env
  outer := X.stack
  stack := X.stack
  ex := ex
  fn := fun _ => false
  calm := X.calm
  pn := []
  xe := fun _ _ => False
def CompGo (te : TE) (fv : St) (Q : VK) (J : It) (H1 : Hp) : Prop := ∃ W : Nat → Nat → List V → Hp → Prop, (∃ m, W 0 m [] H1) ∧ ∀ i m ys H2, W i m ys H2 →
  (J.stop i H2 ∧ ys.length ≤ sizeLine ∧ ∀ D, H2 D = none → Q (.ref D) (upd H2 D (.lst ys))) ∨
  (J.go i H2 ∧ ys.length < sizeLine ∧ ∀ x H3, J.yld i H2 x H3 → te (some x :: fv) H3 fun y H4 => ∃ m', m' < m ∧ W (i + 1) m' (ys ++ [y]) H4)
def tComp (wi : TI) (fv : St → St) (te : TE) : TE := fun σ H Q => wi σ H (CompGo te (fv σ) Q)
structure CompScope (X : Cx) (x : Str) (fns : List Str) (ixs : List Nat) (scope : Scope) (cl : List (Str × Addr)) : Prop where
  clos : closureFor scope X.env = pure cl
  sub : ∀ y c, cl.lookup y = some c → X.env.cells.lookup y = some c
  cell : ∀ y ∈ scope.names, y.2 ≠ .cell
  kind : scope.kind = .function
  names : ∀ y ∈ scope.names, y.2 = .local → scope.names.lookup y.1 = some .local
  own : scope.names.lookup x = some .local
  has : ∀ y, ((relabel scope X.env).names.lookup y = some .cell ∨ (relabel scope X.env).names.lookup y = some .free) → ∃ c, cl.lookup y = some c
  nd : (x :: fns).Nodup
  len : ixs.length = fns.length
  at_ : ∀ (j : Nat) (y : Str), fns[j]? = some y → ∃ i : Nat, ixs[j]? = some i ∧ X.N[i]? = some y ∧ (X.env.kindOf y = some .cell ∨ X.env.kindOf y = some .free) ∧ ∃ c, cl.lookup y = some c ∧ ((relabel scope X.env).names.lookup y = some .cell ∨ (relabel scope X.env).names.lookup y = some .free)
def fvOf (ixs : List Nat) : St → St := fun σ => ixs.map fun i => (σ[i]?).join
section
variable {X : Cx} {elt iter : Expr} {x : Str} {px pos : Pos} {scope : Scope} {cl : List (Str × Addr)} {fns : List Str} {ixs : List Nat} {wi : TI} {te : TE}
theorem relabel_own (hx : scope.names.lookup x = some .local) : (relabel scope X.env).names.lookup x = some .local := lookup_relabel_local hx
theorem pe_comp (hc : X.calm = true) (hi : PI X (.Name x px) iter wi) (S : CompScope X x fns ixs scope cl)
    (he : ∀ (C : Addr) (s : Shared) (H : Hp) (ex : List Addr), PE (cxComp X (x :: fns) scope cl C s H ex) elt te)
    (hs : ∀ x, foldedSetIterable iter X.env x = pure x := by intro _; rfl) :
    PE X (.ListComp elt [⟨.Name x px, iter, [], 0⟩] scope pos) (tComp wi (fvOf ixs) te) := by
  intro pins s σ H Q I h
  rw [eval_ListComp]
  refine wpAny_comprehension_free (use := none) rfl hs S.clos S.kind S.names (thn (hi pins s σ H _ I h) fun v s1 h1 => thn h1 fun itv s2 h2 => ?_)
  refine L2.goal_let ?_
  intro q_
  obtain ⟨it, fp, tn, J, H2, e, I2, T, st2, f2, W, ⟨m0, w0⟩, turn⟩ := h2
  dsimp only [q_]
  clear q_
  subst e
  have hfpLt : ∀ b ∈ fp, b < s2.heap.objs.size := fun b hb => by
    obtain ⟨o, ho, _⟩ := T.obj _ _ st2 b hb
    exact Heap.lt_size ho
  refine wpAny_newObj_type (wpAny_newFunctionEnv S.cell (by intro y hy; simp at hy) (fun h₁ hns₁ hsb₁ => ?_) S.kind)
  dsimp only at hns₁ hsb₁ ⊢
  generalize hH3 : s2.heap.push { cls := .type "list", dict := none, data := .seq ([] : List Value).toArray } = hp3 at hns₁ hsb₁ ⊢
  generalize hD : s2.heap.objs.size = D at hfpLt ⊢
  have hC : hp3.objs.size = D + 1 := by rw [← hH3, Heap.size_push, hD]
  generalize hCe : hp3.objs.size = C at hC hns₁ hsb₁ ⊢
  have hDltC : D < C := by omega
  have hDC : D ≠ C := Nat.ne_of_lt hDltC
  have k23 : ∀ b u, s2.heap.get? b = some u → hp3.get? b = some u := fun b u q => by rw [← hH3]; exact Heap.get?_push_of_some _ q
  have ltD : ∀ {b u}, s2.heap.get? b = some u → b < D := fun q => by rw [← hD]; exact Heap.lt_size q
  have k34 : ∀ b u, hp3.get? b = some u → h₁.get? b = some u := fun b u q =>
    hsb₁.extBut b u (Nat.ne_of_lt (Nat.lt_of_lt_of_le (Heap.lt_size q) (Nat.le_of_eq hCe))) (Heap.get?_push_of_some _ q)
  have hDo : hp3.get? D = some { cls := .type "list", dict := none, data := .seq ([] : List Value).toArray } := by rw [← hH3, ← hD]; exact Heap.get?_push_size _ rfl
  have I3 : Inv X pins σ H2 { s2 with heap := hp3 } := I2.kept (t' := s2.toks) k23
  have hnD : H2 D = none := I2.hok.fresh (by omega)
  have hnC : H2 C = none := I2.hok.fresh (by omega)
  have nstk : ∀ b ∈ D :: fp, b ∉ frs X.stack := fun b hb z => by
    rcases List.mem_cons.mp (I2.stkSub b z) with e | z
    · rcases List.mem_cons.mp hb with e2 | hb
      · exact absurd I2.lt (by rw [← e, e2, ← hD]; exact Nat.lt_irrefl _)
      · exact (f2 b hb).2.1 e
    · rcases List.mem_cons.mp hb with e2 | hb
      · exact I2.nofs (by rw [e2, ← hD]; exact Nat.le_refl _) z
      · exact (f2 b hb).2.2.1 z
  have cne : ∀ y c, cl.lookup y = some c → ∀ b ∈ D :: fp, c ≠ b := fun y c q b hb z => by
    obtain ⟨v, hv⟩ := I2.cell y c (S.sub y c q)
    rcases List.mem_cons.mp hb with e2 | hb
    · exact absurd hv.lt (by rw [z, e2, ← hD]; exact Nat.lt_irrefl _)
    · exact (f2 b hb).2.2.2.2.1 y c (S.sub y c q) z
  -- the block's context
  let Xc : Cx := cxComp X (x :: fns) scope cl C { s2 with heap := hp3 } H2 (D :: fp)
  have ok : Xc.Ok := {
    mod := I2.ok.mod
    kind := S.kind
    glob := I2.ok.glob
    blt := I2.ok.blt
    above := by show hp3.objs.size ≤ C; omega
    inj := fun y z c q1 q2 => I2.ok.inj y z c (S.sub _ _ q1) (S.sub _ _ q2)
    has := S.has
    cab := fun y c q => nomatch q
    hd := I2.ok.hd
    frames := I2.ok.frames
    stk := .inl rfl
    exf := fun b hb => ⟨by
      rcases List.mem_cons.mp hb with e2 | hb
      · rw [e2]; exact hDC
      · exact Nat.ne_of_lt (Nat.lt_trans (hfpLt b hb) hDltC), fun y c q => cne y c q b hb⟩
    bs := I3.bs
    bsz := Nat.le_trans I3.ok.bsz I3.sz
    noex := fun b o q hb => by
      rcases List.mem_cons.mp hb with e2 | hb
      · exact absurd (ltD (I2.bs b o q).1) (by rw [e2]; exact Nat.lt_irrefl _)
      · rcases (f2 b hb).2.2.2.1 with z | z
        · exact I2.ok.noex b o q z
        · exact absurd (Heap.lt_size (I2.ok.bs b o q).1) (Nat.not_lt.mpr z)
    exfs := nstk
    funs := I3.stack
    frf := I3.stkFree }
  have start : ∀ (v0 : Option V) , v0 = none → Inv Xc [(D, { cls := .type "list", dict := none, data := .seq ([] : List Value).toArray })] (v0 :: fvOf ixs σ) H2 { s2 with heap := h₁, toks := s2.toks + ([] : List (Str × Value)).length } := fun v0 hv0 => {
    ok := ok
    os := rfl
    bare := I2.bare
    base := Un.kept k34
    loc := ⟨_, hns₁, fun i y v e1 e2 e3 => by
      cases i with
      | zero => rw [hv0] at e2; cases e2
      | succ j =>
        have e1' : fns[j]? = some y := e1
        have e2' : (fvOf ixs σ)[j]? = some (some v) := e2
        obtain ⟨i, hi1, hi2, hk, c, hc1, hc2⟩ := S.at_ j y e1'
        unfold fvOf at e2'
        rw [List.getElem?_map, hi1] at e2'
        have e3' : σ[i]? = some (some v) := by
          have z : (σ[i]?).join = some v := Option.some.inj e2'
          cases q : σ[i]? with
          | none => rw [q] at z; cases z
          | some o => rw [q] at z; rw [show o = some v from z]
        obtain ⟨m, _, hl⟩ := I2.loc
        obtain ⟨u, r, l⟩ := hl i y v hi2 e3' (hk.elim (fun z => .inr (.inl z)) fun z => .inr (.inr z))
        refine ⟨u, r, .inr ⟨hc2, c, hc1, ?_⟩⟩
        rcases l with ⟨z, _⟩ | ⟨_, c', hc', hcell⟩
        · rcases hk with hk | hk <;> (rw [hk] at z; cases z)
        · have : c' = c := Option.some.inj (hc'.symm.trans (S.sub _ _ hc1))
          subst this
          obtain ⟨o, ho, hd⟩ := hcell
          exact ⟨o, k34 _ _ (k23 _ _ ho), hd⟩⟩
    cell := fun y c q => by
      obtain ⟨v, o, ho, hd⟩ := I2.cell y c (S.sub y c q)
      exact ⟨v, o, k34 _ _ (k23 _ _ ho), hd⟩
    free := hnC
    freeC := fun y c q => I2.freeC y c (S.sub y c q)
    pin := fun p hp => by
      have hp' : p = (D, { cls := .type "list", dict := none, data := .seq ([] : List Value).toArray }) := by simpa [Xc, cxComp] using hp
      subst hp'
      exact ⟨k34 _ _ hDo, hnD, hDC, nstk D (List.mem_cons_self ..), fun v z => nomatch z⟩
    hok := (I2.hok.kept k23).kept k34
    len := by show (v0 :: fvOf ixs σ).length = (x :: fns).length; simp [fvOf, S.len] }
  -- what stays true of the iterator's objects
  have fpc : ∀ {H' : Hp} {pins' : List (Addr × Obj)}, (∀ b ∈ fp, H' b = none) → (∀ p ∈ pins', p.1 = D) → ∀ b ∈ fp, FpOk Xc pins' H' b := fun {H' pins'} hn hp b hb =>
    ⟨hn b hb, Nat.ne_of_lt (Nat.lt_trans (hfpLt b hb) hDltC), nstk b (List.mem_cons_of_mem _ hb), .inl (List.mem_cons_of_mem _ hb), fun y c q => cne y c q b (List.mem_cons_of_mem _ hb), fun p q => by
      have q' : p ∈ pins' := by simpa [Xc, cxComp] using q
      rw [hp p q']
      exact Nat.ne_of_gt (hfpLt b hb)⟩
  let RR_ : Result → Shared → Prop := compPost (model X.prog X.w) X.A X.xe none (EP X pins σ Q) (.ref D) C
  have loop : codeAny (model X.prog X.w) X.A (.compLoop (.ListComp elt [⟨.Name x px, iter, [], 0⟩] scope pos) 0 (.ref it) (.ref D) (compEnvC scope cl C X.env))
      RR_ { s2 with heap := h₁, toks := s2.toks + ([] : List (Str × Value)).length } := by
    let II_ : Nat → Shared → Prop := fun n s' => ∃ (i : Nat) (ys : List V) (its : List Value) (nn : Nat) (v0 : Option V) (H' : Hp), Inv Xc [(D, { cls := .type "list", dict := none, data := .seq its.toArray nn })] (v0 :: fvOf ixs σ) H' s' ∧ tn i s'.heap ∧ (∀ b ∈ fp, H' b = none) ∧ Vals ys its ∧ W i n ys H'
    refine compLoop_go II_ ?_ m0
      ⟨0, [], [], 0, none, H2, start none rfl, T.keep _ _ _ st2 fun b _ o q => k34 _ _ (k23 _ _ q), fun b hb => (f2 b hb).1, .nil, w0⟩
    intro n s3 hh_
    refine L2.goal_let ?_
    intro q_
    obtain ⟨i, ys, its, nn, v0, H3, J3, tn3, fr3, vv, w3⟩ := hh_
    dsimp only [q_]
    clear q_
    have pinD : ∀ p ∈ ([(D, ({ cls := .type "list", dict := none, data := .seq its.toArray nn } : Obj))] : List (Addr × Obj)), p.1 = D := fun p hp => by
      have : p = (D, { cls := .type "list", dict := none, data := .seq its.toArray nn }) := by simpa using hp
      rw [this]
    rcases turn i n ys H3 w3 with ⟨stop, hlen, q⟩ | ⟨go, hlen, step⟩
    · -- the end
      refine thn (T.done Xc rfl rfl rfl hc i _ s3 _ H3 _ J3 (fpc fr3 pinD) tn3 stop) fun r s4 hh_ => ?_
      refine L2.goal_let ?_
      intro q_
      obtain ⟨hr, J4⟩ := hh_
      dsimp only [q_]
      clear q_
      subst hr
      obtain ⟨m, hn, _⟩ := J4.loc
      refine ⟨m, hn, fun h'' hsb => ?_⟩
      obtain ⟨gD, nD, _, _, _⟩ := J4.pin (D, { cls := .type "list", dict := none, data := .seq its.toArray nn }) (by simp [Xc, cxComp])
      have B := J4.base
      have kC : ∀ b u, b ≠ C → s4.heap.get? b = some u → h''.get? b = some u := fun b u hb q => (hsb.2 b hb).trans q
      have ne : ∀ {b o}, s2.heap.get? b = some o → b ≠ C ∧ b ≠ D := fun q => ⟨Nat.ne_of_lt (Nat.lt_trans (ltD q) hDltC), Nat.ne_of_lt (ltD q)⟩
      have nex : ∀ {b o}, s2.heap.get? b = some o → b ∉ fp → b ∉ D :: fp := fun q hx z => (List.mem_cons.mp z).elim (ne q).2 hx
      have uu : Un (frs X.stack) fp H2 (upd H3 D (.lst ys)) s2.heap h'' := {
        keep := fun b o q n hb hx => kC b o (ne q).1 (B.keep b o (k23 b o q) n hb (nex q hx))
        slot := fun b o q n hb hx => by
          obtain ⟨sl, e⟩ := B.slot b o (k23 b o q) n hb (nex q hx)
          exact ⟨sl, kC b _ (ne q).1 e⟩
        free := fun b o q n hx => by rw [upd_ne (ne q).2]; exact B.free b o (k23 b o q) n (nex q hx)
        there := fun b o q hx => by
          obtain ⟨o', e⟩ := B.there b o (k23 b o q) (nex q hx)
          exact ⟨o', kC b _ (ne q).1 e⟩
        tups := fun b xs q => by rw [upd_ne (ne_of_none q hnD)]; exact B.tups b xs q
        frzs := fun b o xs q => by rw [upd_ne (ne_of_none q hnD)]; exact B.frzs b o xs q
        tbls := fun b ps q => by
          obtain ⟨more, e⟩ := B.tbls b ps q
          exact ⟨more, by rw [upd_ne (ne_of_none q hnD)]; exact e⟩ }
      have hok : HOk X.prog X.w (upd H3 D (.lst ys)) h'' := fun b u e => by
        by_cases hb : b = D
        · subst hb
          rw [upd_same] at e
          cases e
          exact ⟨hlen, its, nn, vv, kC _ _ hDC gD⟩
        · rw [upd_ne hb] at e
          refine (J4.hok b u e).stay (fun c v hc q => kC c v ?_ q) (fun c q => by rw [upd_ne (ne_of_none q nD)]; exact q) fun c xs q => by rw [upd_ne (ne_of_none q nD)]; exact q
          have fC : H3 C = none := J4.free
          rcases hc with rfl | hc
          · exact ne_of_none e fC
          · exact ne_of_none hc fC
      exact ⟨.ref D, _, I2.call' (s' := { s4 with heap := h'' }) J4.os uu hok J4.bare (fun b hb => ⟨(f2 b hb).2.2.2.1, (f2 b hb).2.1, (f2 b hb).2.2.2.2.1, (f2 b hb).2.2.2.2.2⟩), rfl, q D nD⟩
    · -- a turn
      refine thn (T.item Xc rfl rfl rfl hc i _ s3 _ H3 _ J3 (fpc fr3 pinD) tn3 go) fun r s4 hh_ => ?_
      refine L2.goal_let ?_
      intro q_
      obtain ⟨u, hr, h4⟩ := hh_
      dsimp only [q_]
      clear q_
      subst hr
      refine thn h4 fun _ s5 hh_ => ?_
      refine L2.goal_let ?_
      intro q_
      obtain ⟨xv, H5, J5, r5, y5, tn5, fr5⟩ := hh_
      dsimp only [q_]
      clear q_
      have J5' := J5.pinned (fpc fr5 pinD) (T.obj _ _ tn5)
      have hg : PG Xc (.Name x px) (gName 0) := pg_name (X := Xc) (i := 0) S.nd rfl (.inl (relabel_own S.own)) (.inr (relabel_own S.own))
      refine thn (hg _ s5 _ H5 xv u (fun σ' H' => σ' = some xv :: fvOf ixs σ ∧ H' = H5) J5' r5 ⟨rfl, rfl⟩) fun _ s6 hh_ => ?_
      refine L2.goal_let ?_
      intro q_
      obtain ⟨σ6, H6, J6, e6, e6'⟩ := hh_
      dsimp only [q_]
      clear q_
      subst e6 e6'
      refine thn (he C { s2 with heap := hp3 } H2 (D :: fp) _ s6 _ H6 _ J6 (step xv H6 y5)) fun yv s7 hh_ => ?_
      refine L2.goal_let ?_
      intro q_
      obtain ⟨y, H7, J7, r7, m', hm', w7⟩ := hh_
      dsimp only [q_]
      clear q_
      obtain ⟨gD, nD, _, _, _⟩ := J7.pin (D, { cls := .type "list", dict := none, data := .seq its.toArray nn }) (by simp [Xc, cxComp])
      have tn7 : tn (i + 1) s7.heap := T.keep _ _ _ tn5 fun b hb o e => (J7.pin (b, o) (List.mem_append_right _ (List.mem_append_right _ (mem_pinsAt hb e)))).1
      have fr7 : ∀ b ∈ fp, H7 b = none := fun b hb => by
        obtain ⟨o, e, d⟩ := T.obj _ _ tn5 b hb
        exact (J7.pin (b, o) (List.mem_append_right _ (List.mem_append_right _ (mem_pinsAt hb e)))).2.1
      have J7' : Inv Xc [] (some xv :: fvOf ixs σ) H7 s7 := J7.pins_of fun p hp => nomatch hp
      refine wpAny_list_append_plain (hsz := by rw [List.size_toArray, ← vv.length]; omega) ⟨nn, gD⟩ fun h8 pl8 sb8 => ?_
      obtain ⟨n8, g8⟩ := pl8
      have J8 : Inv Xc [] (some xv :: fvOf ixs σ) H7 { s7 with heap := h8 } := J7'.turned (t' := s7.toks) (it := D) (fun b o hb e => (sb8.2 b hb).trans e) nD (hDC) (.inl (List.mem_cons_self ..))
        (fun y c q => cne y c q D (List.mem_cons_self ..)) (fun p hp => by simp [Xc, cxComp] at hp)
      refine ⟨m', hm', i + 1, ys ++ [y], its ++ [yv], n8, some xv, H7, J8.pins_of fun p hp => ?_, ?_, fr7, vv.append (.cons r7 .nil), w7⟩
      · have : p = (D, { cls := .type "list", dict := none, data := .seq (its ++ [yv]).toArray n8 }) := by simpa using hp
        subst this
        refine ⟨?_, nD, hDC, nstk D (List.mem_cons_self ..), fun v z => nomatch z⟩
        have : its.toArray.push yv = (its ++ [yv]).toArray := by simp
        rw [this] at g8
        exact g8
      · exact T.keep _ _ _ tn7 fun b hb o e => (sb8.2 b (Nat.ne_of_lt (hfpLt b hb))).trans e
  exact codeAny_compStart_list loop (T.self _ 0 _ _ _ (T.keep _ _ _ st2 fun b _ o q => k34 _ _ (k23 _ _ q)) loop)
end
theorem compScope0 {X : Cx} {x : Str} {scope : Scope} (hf : ∀ y ∈ scope.names, y.2 ≠ .free) (hc : ∀ y ∈ scope.names, y.2 ≠ .cell) (hk : scope.kind = .function)
    (hn : ∀ y ∈ scope.names, y.2 = .local → scope.names.lookup y.1 = some .local) (hx : scope.names.lookup x = some .local) : CompScope X x [] [] scope [] where
  clos := closureFor_none hf
  sub := fun y c h => nomatch h
  cell := hc
  kind := hk
  names := hn
  own := hx
  has := fun y h => by
    have e : (relabel scope X.env).names = scope.names := by
      unfold relabel
      refine map_eq_self fun z hz => ?_
      obtain ⟨n, k⟩ := z
      have : (k == NameKind.free) = false := by simpa using hf _ hz
      simp [this]
    rw [e] at h
    rcases h with h | h
    · exact absurd rfl (hc _ (PySem.mem_of_lookup h))
    · exact absurd rfl (hf _ (PySem.mem_of_lookup h))
  nd := by simp
  len := rfl
  at_ := fun j y h => by simp at h
theorem comp_pure {J : It} {H1 : Hp} {fv : St} {te : TE} {Q : VK} (xs : List V) (g : V → V) (hgo : ∀ i : Nat, i < xs.length → J.go i H1) (hy : ∀ (i : Nat) (x : V) (H3 : Hp), i < xs.length → J.yld i H1 x H3 → H3 = H1 ∧ xs[i]? = some x)
    (hst : J.stop xs.length H1) (hfit : xs.length ≤ sizeLine) (he : ∀ (i : Nat) (x : V), xs[i]? = some x → ∀ R : VK, R (g x) H1 → te (some x :: fv) H1 R) (hQ : ∀ D, H1 D = none → Q (.ref D) (upd H1 D (.lst (xs.map g)))) :
    CompGo te fv Q J H1 := by
  refine ⟨fun i m ys H2 => m = xs.length - i ∧ i ≤ xs.length ∧ ys = (xs.take i).map g ∧ H2 = H1, ⟨xs.length, by simp, Nat.zero_le _, by simp, rfl⟩, ?_⟩
  rintro i m ys H2 ⟨rfl, hi, rfl, rfl⟩
  by_cases hlt : i < xs.length
  · refine .inr ⟨hgo i hlt, by rw [List.length_map, List.length_take]; omega, fun x H3 hyl => ?_⟩
    obtain ⟨e3, hx⟩ := hy i x H3 hlt hyl
    subst e3
    refine he i x hx _ ⟨xs.length - (i + 1), by omega, rfl, hlt, ?_, rfl⟩
    rw [List.take_succ, hx]
    simp
  · have e : i = xs.length := by omega
    subst e
    refine .inl ⟨hst, by rw [List.length_map, List.length_take]; omega, fun D hD => ?_⟩
    rw [List.take_length]
    exact hQ D hD
theorem itt_go {K : PySem.W.Frag} {H : Hp} {a : Addr} {xs : List V} (h : SqT K H a xs) : ∀ i, i < xs.length → (Itt K a).go i H := fun i hi => ⟨xs, xs[i], h, List.getElem?_eq_getElem hi⟩
theorem itt_yld {K : PySem.W.Frag} {H : Hp} {a : Addr} {xs : List V} (h : SqT K H a xs) : ∀ i x H3, i < xs.length → (Itt K a).yld i H x H3 → H3 = H ∧ xs[i]? = some x := fun i x H3 _ y => ⟨y.1, y.2 xs h⟩
theorem itt_stop {K : PySem.W.Frag} {H : Hp} {a : Addr} {xs : List V} (h : SqT K H a xs) : (Itt K a).stop xs.length H := ⟨xs, h, Nat.le_refl _⟩
theorem itl_go {K : PySem.W.Frag} {H : Hp} {a : Addr} {xs : List V} (h : SqL K H a xs) : ∀ i, i < xs.length → (Itl K a).go i H := fun i hi => ⟨xs, xs[i], h, List.getElem?_eq_getElem hi⟩
theorem itl_yld {K : PySem.W.Frag} {H : Hp} {a : Addr} {xs : List V} (h : SqL K H a xs) : ∀ i x H3, i < xs.length → (Itl K a).yld i H x H3 → H3 = H ∧ xs[i]? = some x := fun i x H3 _ y => ⟨y.1, y.2 xs h⟩
theorem itl_stop {K : PySem.W.Frag} {H : Hp} {a : Addr} {xs : List V} (h : SqL K H a xs) : (Itl K a).stop xs.length H := ⟨xs, h, Nat.le_refl _⟩
def tCut (t : TS) : TS := fun D σ H => ∃ G : St → Hp → Prop, t { D with nx := G } σ H ∧ ∀ σ' H', G σ' H' → D.nx σ' H'
theorem ps_cut {X : Cx} {st : Stmt} {t : TS} (h : PS X st t) : PS X st (tCut t) := by
  intro pins s σ H D I ⟨G, h1, h2⟩
  refine thn (h pins s σ H { D with nx := G } I h1) fun f s' q => ?_
  cases f with
  | next => obtain ⟨σ', H', I', g⟩ := q; exact ⟨σ', H', I', h2 σ' H' g⟩
  | _ => exact q
theorem relabel_mem {scope : Scope} {env : Env} {y : Str} {k : NameKind} (h : (relabel scope env).names.lookup y = some k) (hk : k = .cell ∨ k = .free) (hc : ∀ z ∈ scope.names, z.2 ≠ .cell) : (y, NameKind.free) ∈ scope.names := by
  have hm := PySem.mem_of_lookup h
  unfold relabel at hm
  obtain ⟨⟨n, k'⟩, hz, e⟩ := List.mem_map.mp hm
  dsimp only at e
  by_cases hf : (k' == NameKind.free && env.scope.kind == .function && env.kindOf n == some .cell) = true
  · rw [if_pos hf] at e
    have e1 : n = y := congrArg Prod.fst e
    rw [Bool.and_eq_true, Bool.and_eq_true] at hf
    have e2 : k' = .free := eq_of_beq hf.1.1
    rw [← e1, ← e2]
    exact hz
  · rw [if_neg hf] at e
    have e1 : n = y := congrArg Prod.fst e
    have e2 : k' = k := congrArg Prod.snd e
    subst e1 e2
    rcases hk with rfl | rfl
    · exact absurd rfl (hc _ hz)
    · exact hz
theorem lookup_relabel_free {env : Env} (hf : env.scope.kind = .function) {y : Str} (hy : env.kindOf y = some .cell) : ∀ {names : List (Str × NameKind)}, names.lookup y = some .free →
    (names.map fun (n, k) => if (k == NameKind.free && env.scope.kind == .function && env.kindOf n == some .cell) then (n, NameKind.cell) else (n, k)).lookup y = some .cell
  | [], h => by simp at h
  | (n, k) :: r, h => by
    have ih := @lookup_relabel_free env hf y hy r
    show List.lookup y ((if (k == NameKind.free && env.scope.kind == .function && env.kindOf n == some .cell) = true then (n, NameKind.cell) else (n, k)) :: _) = _
    cases hx : y == n with
    | true =>
      simp only [List.lookup_cons, hx] at h
      have e : y = n := eq_of_beq hx
      subst e
      cases h
      have hc : (NameKind.free == NameKind.free && env.scope.kind == .function && env.kindOf y == some .cell) = true := by rw [hf, hy]; rfl
      rw [if_pos hc]
      simp only [List.lookup_cons, hx]
    | false =>
      simp only [List.lookup_cons, hx] at h
      by_cases hc : (k == NameKind.free && env.scope.kind == .function && env.kindOf n == some .cell) = true
      · rw [if_pos hc]; simp only [List.lookup_cons, hx]; exact ih h
      · rw [if_neg hc]; simp only [List.lookup_cons, hx]; exact ih h
theorem compScope1 {X : Cx} {x y : Str} {scope : Scope} {c : Addr} {i : Nat} (hclos : closureFor scope X.env = pure [(y, c)]) (hy : X.env.cells.lookup y = some c) (hc : ∀ z ∈ scope.names, z.2 ≠ .cell) (hk : scope.kind = .function)
    (hn : ∀ z ∈ scope.names, z.2 = .local → scope.names.lookup z.1 = some .local) (hx : scope.names.lookup x = some .local) (hfree : ∀ z ∈ scope.names, z.2 = .free → z.1 = y) (hxy : x ≠ y) (hi : X.N[i]? = some y)
    (hky : X.env.kindOf y = some .cell) (hkf : X.env.scope.kind = .function) (hys : scope.names.lookup y = some .free) : CompScope X x [y] [i] scope [(y, c)] where
  clos := hclos
  sub := fun z d h => by
    by_cases e : z = y
    · subst e
      have : c = d := by simpa [List.lookup_cons] using h
      rw [← this]
      exact hy
    · have hb : (z == y) = false := beq_eq_false_iff_ne.mpr e
      simp [List.lookup_cons, hb] at h
  cell := hc
  kind := hk
  names := hn
  own := hx
  has := fun z h => by
    have e : z = y := by
      rcases h with h | h
      · exact hfree _ (relabel_mem h (.inl rfl) hc) rfl
      · exact hfree _ (relabel_mem h (.inr rfl) hc) rfl
    subst e
    exact ⟨c, by simp [List.lookup_cons]⟩
  nd := by simp [hxy]
  len := rfl
  at_ := fun j z h => by
    cases j with
    | zero =>
      have e : y = z := by simpa using h
      subst e
      exact ⟨i, rfl, hi, .inl hky, c, by simp [List.lookup_cons], .inl (lookup_relabel_free hkf hky hys)⟩
    | succ j => simp at h
end L2
set_option Elab.async false
set_option linter.all false
set_option maxRecDepth 100000
set_option maxHeartbeats 4000000
namespace L2
open PySem PySem.Spec PyProof.Rows
namespace Rv
def IsRv (h : Heap) (it t : Addr) (i : Int) : Prop := ∃ o, h.get? it = some o ∧ o.cls = .type "reversed" ∧ o.data = .fields #[.ref t, rawInt i]
section
variable {prog : Program} {w : World} {A : Around} {E : Value → Shared → Prop} {s : Shared}
end
end Rv
section
variable {X : Cx} {tg : Expr}
end
end L2
set_option Elab.async false
set_option linter.all false
set_option maxRecDepth 100000
set_option maxHeartbeats 4000000
namespace L2
open PySem PySem.Spec PyProof.Rows
def intV (ns : List Int) : List V := ns.map V.int
theorem ints_at {ns : List Int} {i : Nat} {z : Int} (h : ns[i]? = some z) : (intV ns)[i]? = some (V.int z) := by
  unfold intV; rw [List.getElem?_map, h]; rfl
theorem ints_len (ns : List Int) : (intV ns).length = ns.length := List.length_map ..
theorem ints_of_at {ns : List Int} {i : Nat} {v : V} (h : (intV ns)[i]? = some v) : ∃ z, v = V.int z ∧ ns[i]? = some z := by
  unfold intV at h
  rw [List.getElem?_map] at h
  cases e : ns[i]? with
  | none => rw [e] at h; cases h
  | some z => rw [e] at h; exact ⟨z, (Option.some.inj h).symm, rfl⟩
theorem ints_app (a b : List Int) : intV (a ++ b) = intV a ++ intV b := List.map_append ..
theorem all_eq (ns ms : List Int) : ((List.range (min ns.length ms.length)).all (fun j => decide (ns[j]? = ms[j]?)) && ns.length == ms.length) = decide (ns = ms) := by
  rw [Bool.eq_iff_iff, Bool.and_eq_true, List.all_eq_true, decide_eq_true_iff, beq_iff_eq]
  constructor
  · rintro ⟨h1, h2⟩
    refine List.ext_getElem? fun i => ?_
    by_cases hi : i < ns.length
    · exact of_decide_eq_true (h1 i (List.mem_range.mpr (by omega)))
    · rw [List.getElem?_eq_none (by omega), List.getElem?_eq_none (by omega)]
  · rintro rfl
    exact ⟨fun j _ => decide_eq_true rfl, rfl⟩
section
variable {X : Cx}
def rEqTI (K : PySem.W.Frag) : R2 := fun x y H Q => ∃ a b ns ms, x = .ref a ∧ y = .ref b ∧ SqT K H a (intV ns) ∧ SqT K H b (intV ms) ∧ Q (.bl (decide (ns = ms))) H
theorem eqItems {A : Around} {s : Shared} {ns ms : List Int} {its its2 : List Value} (r1 : Vals (intV ns) its) (r2 : Vals (intV ms) its2) (j : Nat) (h1 : j < its.toArray.size) (h2 : j < its2.toArray.size) :
    SeqAt.EqAt A s its.toArray[j] its2.toArray[j] (decide (ns[j]? = ms[j]?)) := by
  have l1 := r1.length
  have l2 := r2.length
  rw [ints_len] at l1 l2
  have g1 : j < its.length := by simpa using h1
  have g2 : j < its2.length := by simpa using h2
  have e1 : ns[j]? = some ns[j] := List.getElem?_eq_getElem (by omega)
  have e2 : ms[j]? = some ms[j] := List.getElem?_eq_getElem (by omega)
  obtain ⟨u, hu, t, rfl⟩ := r1.get (ints_at e1)
  obtain ⟨v, hv, t', rfl⟩ := r2.get (ints_at e2)
  have f1 : its.toArray[j] = Value.int ns[j] t := by
    rw [List.getElem_toArray]
    exact Option.some.inj ((List.getElem?_eq_getElem g1).symm.trans hu)
  have f2 : its2.toArray[j] = Value.int ms[j] t' := by
    rw [List.getElem_toArray]
    exact Option.some.inj ((List.getElem?_eq_getElem g2).symm.trans hv)
  rw [f1, f2, e1, e2]
  have := SeqAt.EqAt.int_int (A := A) (s := s) ns[j] t ms[j] t'
  have e : decide (some ns[j] = some ms[j]) = (ns[j] == ms[j]) := by
    rw [Bool.eq_iff_iff, decide_eq_true_iff, beq_iff_eq]
    exact ⟨Option.some.inj, congrArg some⟩
  rw [e]
  exact this
theorem op_eqTI (hu : X.A.units < cLine) : OpR X (compareOp .Eq) (rEqTI X.K) := by
  intro pins s σ H x y v u Q I rx ry h
  refine L2.goal_let ?_
  intro q_
  obtain ⟨a, b, ns, ms, rfl, rfl, ha, hb, q⟩ := h
  dsimp only [q_]
  clear q_
  cases rx
  cases ry
  obtain ⟨its, r1, p1, _⟩ := I.tuple ha
  obtain ⟨its2, r2, p2, _⟩ := I.tuple hb
  refine SeqAt.eq_tupleAt (e := fun j => decide (ns[j]? = ms[j]?)) (show s.heap.IsTuple a its.toArray from p1) (show s.heap.IsTuple b its2.toArray from p2) hu (fun j h1 h2 => eqItems r1 r2 j h1 h2) ⟨.bl (decide (ns = ms)), H, I, ?_, q⟩
  have l1 := r1.length
  have l2 := r2.length
  rw [ints_len] at l1 l2
  show _ = Value.bool (decide (ns = ms))
  rw [← all_eq, List.size_toArray, List.size_toArray, ← l1, ← l2]
def rIsi (K : PySem.W.Frag) : List V → Hp → VK → Prop := fun xs H Q => ∃ x T t b, xs = [x, .ty T] ∧ TyOf K H x t ∧ PySem.W.kitOne K t (.type T) = some b ∧ Q (.bl b) H
theorem call_isi : CallR X (.builtin "isinstance") (rIsi X.K) := by
  intro pins s σ H xs us Q I r h
  refine L2.goal_let ?_
  intro q_
  obtain ⟨x, T, t, b, rfl, ty, e, q⟩ := h
  dsimp only [q_]
  clear q_
  obtain ⟨u, w', rfl, rx, ry⟩ := vals2 r
  cases ry
  exact isinst_ok I rx ty e fun tk => ⟨.bl b, H, I.tok tk, rfl, q⟩
theorem kit_self (K : PySem.W.Frag) (T : String) : PySem.W.kitOne K (.type T) (.type T) = some true := by
  unfold PySem.W.kitOne
  rw [if_pos (beq_self_eq_true _)]
theorem kit_int_bool (K : PySem.W.Frag) : PySem.W.kitOne K (.type "int") (.type "bool") = some false := by
  first | rfl | kernel_rfl | decide +kernel
end
end L2
set_option Elab.async false
set_option linter.all false
set_option maxRecDepth 100000
set_option maxHeartbeats 4000000
namespace L2
open PySem PySem.Spec PyProof.Rows
theorem Same.upd {H : Hp} {a : Addr} {o : HO} (h : H a = Option.none) : Same H (upd H a o) := fun b u e => by
  rw [upd_ne (ne_of_none e h)]
  exact e
section
variable {X : Cx}
def rCatTT : R2 := fun x y H Q => ∃ a b xs ys, x = .ref a ∧ y = .ref b ∧ H a = some (.tup xs) ∧ H b = some (.tup ys) ∧ xs.length + ys.length ≤ sizeLine ∧
  ∀ p H', Same H H' → H' p = some (.tup (xs ++ ys)) → Q (.ref p) H'
theorem cat_tup0 {prog : Program} {w : World} {A : Around} {E : Value → Shared → Prop} {s : Shared} {t b : Addr} {ws : List Value} {Q : Value → Shared → Prop} (ht : IsTup s.heap t ([] : List Value).toArray) (hb : IsTup s.heap b ws.toArray)
    (h : Q (.ref b) s) : wpAny (model prog w) A (binaryOp .Add (.ref t) (.ref b)) Q E s := by
  obtain ⟨⟨cls, dd, data, sl⟩, ho, hc, n, hd⟩ := id ht
  obtain ⟨⟨cls2, dd2, data2, sl2⟩, ho2, hc2, n2, hd2⟩ := id hb
  simp only at hc hd hc2 hd2
  subst hc hd hc2 hd2
  exact concat_meets ⟨_, ho, rfl⟩ ⟨_, ho2, rfl⟩ noFill_tuple_add seq_tuple_add PySem.F.slot_tuple_add PySem.F.entry_tuple_add (PySem.F.args_tuple_add_2 _ _)
      (tuple_addW0 t b ([] : List Value).toArray ws.toArray n n2 dd dd2 sl sl2 rfl) ⟨ho, ho2, h⟩
theorem op_catTT : OpR X (binaryOp .Add) rCatTT := by
  intro pins s σ H x y v u Q I rx ry h
  refine L2.goal_let ?_
  intro q_
  obtain ⟨a, b, xs, ys, rfl, rfl, ha, hb, hz, q⟩ := h
  dsimp only [q_]
  clear q_
  by_cases hx : xs = []
  · subst hx
    cases rx
    cases ry
    obtain ⟨its, r1, p1, _⟩ := I.tuple (SqT.of ha)
    obtain ⟨its2, r2, p2, _⟩ := I.tuple (SqT.of hb)
    have e : its = [] := r1.nil_iff.mpr rfl
    subst e
    exact cat_tup0 p1 p2 ⟨.ref b, H, I, rfl, q b H (Same.refl H) hb⟩
  · refine op_catT pins s σ H (.ref a) (.ref b) v u Q I rx ry ⟨a, b, xs, ys, rfl, rfl, SqT.of ha, SqT.of hb, hx, hz, fun e => ?_, fun _ p hp => q p _ (Same.upd hp) upd_same⟩
    subst e
    exact q a H (Same.refl H) (by rw [List.append_nil]; exact ha)
end
end L2
namespace HT
open PySem PyProof.Rows
section
variable {prog : Program} {w : World} {A : Around} {E : Value → Shared → Prop} {s : Shared}
end
theorem noFill_tuple_mul : fillsNumberSlot (.type "tuple") "mul" = pure false :=
  PySem.fillsNumberSlot_seq (id := "tuple.__mul__") (r := some (.builtin "tuple.__rmul__")) PySem.F.slot_tuple_mul.lookup (by decide +kernel) PySem.F.slot_tuple_rmul.lookup (by decide +kernel)
theorem repeat_tuple : seqRepeat? (.type "tuple") = pure (some (.builtin "tuple.__mul__")) := by
  unfold seqRepeat?
  rw [PySem.seqSlot_of (T := "tuple") (name := "__mul__") (id := "tuple.__mul__") PySem.F.slot_tuple_mul.lookup (by decide +kernel), PySem.seqSlot_of (T := "tuple") (name := "__rmul__") (id := "tuple.__rmul__") PySem.F.slot_tuple_rmul.lookup (by decide +kernel)]
  rfl
theorem int_rmul_tuple (a : Int) (t : Tok) (l : Addr) (items : Array Value) (n : Nat) (dd : Option Addr) (sl : Array (Option Value)) :
    Meets (Builtin.«int.__rmul__» ⟨[.int a t, .ref l], []⟩) (fun _ R s => s.heap.get? l = some { cls := .type "tuple", dict := dd, data := .seq items n, slots := sl } ∧ R (.ok (.ret Value.notImplemented)) s) :=
  .of_wp fun prog w A R s h => by obtain ⟨hp, g, d, tk, os⟩ := s; obtain ⟨hl, h⟩ := h; wp_walk; exact ⟨_, rfl, h⟩
theorem tuple_mul_same (l : Addr) (items : Array Value) (n : Nat) (dd : Option Addr) (sl : Array (Option Value)) (x : Int) (u : Tok) (h0 : ¬ (decide (x < -(2 ^ 63)) || decide (x ≥ 2 ^ 63)) = true) (hc : (items.isEmpty || x == 1) = true) :
    Meets (Builtin.«tuple.__mul__» ⟨[.ref l, .int x u], []⟩) (fun _ R s => s.heap.get? l = some { cls := .type "tuple", dict := dd, data := .seq items n, slots := sl } ∧ R (.ok (.ret (.ref l))) s) :=
  .of_wp fun prog w A R s h => by
    refine L2.goal_let ?_
    intro q_
    obtain ⟨hp, g, d, tk, os⟩ := s; obtain ⟨hl, h⟩ := h
    dsimp only [q_]
    clear q_
    have hT : (⟨hp, g, d, tk, os⟩ : Shared).TypeIs (.ref l) "tuple" := ⟨_, hl, rfl⟩
    wp_walk
    refine wpAny_ite_false (decide_eq_false h0) ?_
    wp_walk
    exact ⟨_, rfl, h⟩
theorem tuple_mul_none (l : Addr) (items : Array Value) (n : Nat) (dd : Option Addr) (sl : Array (Option Value)) (x : Int) (u : Tok) (h0 : ¬ (decide (x < -(2 ^ 63)) || decide (x ≥ 2 ^ 63)) = true) (hc : ¬ (items.isEmpty || x == 1) = true) (hx : (decide (x ≤ 0) || items.isEmpty) = true) :
    Meets (Builtin.«tuple.__mul__» ⟨[.ref l, .int x u], []⟩) (fun _ R s => s.heap.get? l = some { cls := .type "tuple", dict := dd, data := .seq items n, slots := sl } ∧ R (.ok (.ret (.ref s.heap.objs.size))) { s with heap := s.heap.push { cls := .type "tuple", data := .seq #[] } }) :=
  .of_wp fun prog w A R s h => by
    refine L2.goal_let ?_
    intro q_
    obtain ⟨hp, g, d, tk, os⟩ := s; obtain ⟨hl, h⟩ := h
    dsimp only [q_]
    clear q_
    have hT : (⟨hp, g, d, tk, os⟩ : Shared).TypeIs (.ref l) "tuple" := ⟨_, hl, rfl⟩
    wp_walk
    refine wpAny_ite_false (decide_eq_false h0) ?_
    wp_walk
    exact ⟨_, rfl, h⟩
theorem tuple_mul_many (l : Addr) (items : Array Value) (n : Nat) (dd : Option Addr) (sl : Array (Option Value)) (x : Int) (u : Tok) (h0 : ¬ (decide (x < -(2 ^ 63)) || decide (x ≥ 2 ^ 63)) = true) (hc : ¬ (items.isEmpty || x == 1) = true) (hx : ¬ (decide (x ≤ 0) || items.isEmpty) = true)
    (h1 : ¬ ((items.size : Int) * x > (2 ^ 63 - 1) / 8)) (h2 : ¬ (Builtin.Tuple.tupleTooMany ((items.size : Int) * x)) = true) (hz : (List.foldl (fun x1 x2 => x1 ++ x2) #[] (List.replicate x.toNat items)).size ≤ sizeLine) :
    Meets (Builtin.«tuple.__mul__» ⟨[.ref l, .int x u], []⟩) (fun _ R s => s.heap.get? l = some { cls := .type "tuple", dict := dd, data := .seq items n, slots := sl } ∧ R (.ok (.ret (.ref s.heap.objs.size))) { s with heap := s.heap.push { cls := .type "tuple", data := .seq (List.foldl (fun x1 x2 => x1 ++ x2) #[] (List.replicate x.toNat items)) } }) :=
  .of_wp fun prog w A R s h => by
    refine L2.goal_let ?_
    intro q_
    obtain ⟨hp, g, d, tk, os⟩ := s; obtain ⟨hl, h⟩ := h
    dsimp only [q_]
    clear q_
    have hT : (⟨hp, g, d, tk, os⟩ : Shared).TypeIs (.ref l) "tuple" := ⟨_, hl, rfl⟩
    wp_walk
    refine wpAny_ite_false (decide_eq_false h0) ?_
    wp_walk
    refine wpAny_ite_false (decide_eq_false h1) ?_
    wp_walk
    exact ⟨_, rfl, h⟩
end HT
namespace L2
open PySem PySem.Spec PyProof.Rows
section
variable {X : Cx} {e : Expr} {te : TE} {lo hi : Option Expr} {st : Expr} {tl th ts : TO} {pos p2 : Pos}
def rRepT : R2 := fun x y H Q => ∃ a k xs, x = .ref a ∧ y = .int k ∧ H a = some (.tup xs) ∧ -(2 ^ 63) ≤ k ∧ k < 2 ^ 63 ∧ xs.length * k.toNat ≤ sizeLine ∧
  ∀ p H', Same H H' → H' p = some (.tup (List.replicate k.toNat xs).flatten) → Q (.ref p) H'
theorem op_repT : OpR X (binaryOp .Mult) rRepT := by
  intro pins s σ H x y v u Q I rx ry h
  refine L2.goal_let ?_
  intro q_
  obtain ⟨l, k, xs, rfl, rfl, hH, h1, h2, hz, q⟩ := h
  dsimp only [q_]
  clear q_
  cases rx
  obtain ⟨t, rfl⟩ := ry
  obtain ⟨its, r, p1, hzx⟩ := I.tuple (SqT.of hH)
  have hl := r.length
  obtain ⟨⟨cls, dd, data, sl⟩, ho, hc, n, hd⟩ := id p1
  simp only at hc hd
  subst hc hd
  have h0 : ¬ (decide (k < -(2 ^ 63)) || decide (k ≥ 2 ^ 63)) = true := by
    rw [Bool.or_eq_true, decide_eq_true_iff, decide_eq_true_iff]
    omega
  have go : ∀ {S : PySem.Spec}, Meets (Builtin.«tuple.__mul__» ⟨[.ref l, .int k t], []⟩) (fun A' R s' => s'.heap.get? l = some { cls := .type "tuple", dict := dd, data := .seq its.toArray n, slots := sl } ∧ S A' R s') →
      S X.A (wants (EP X pins σ Q) X.xe) s → wpAny (model X.prog X.w) X.A (binaryOp .Mult (.ref l) (.int k t)) (EP X pins σ Q) X.xe s := fun {S} m hS =>
    wpAny_binaryOp_repeat_ref (T := "tuple") (U := "int") (by decide) ⟨_, ho, rfl⟩ (fun s' => typeIs_int s' k t) HT.noFill_tuple_mul F.fills_int_mul F.slot_int_rmul HT.repeat_tuple F.slot_int_index.lookup
      (call_meets F.slot_int_rmul (typeIs_int s k t) F.entry_int_rmul (F.args_int_rmul_2 _ _) (HT.int_rmul_tuple k t l its.toArray n dd sl)
        ⟨ho, rfl, ⟨_, ho, rfl⟩, call_meets F.slot_tuple_mul ⟨_, ho, rfl⟩ F.entry_tuple_mul (F.args_tuple_mul_2 _ _) m ⟨ho, hS⟩⟩)
  by_cases hc : (its.toArray.isEmpty || k == 1) = true
  · refine go (S := fun _ R s' => R (.ok (.ret (.ref l))) s') (HT.tuple_mul_same l its.toArray n dd sl k t h0 hc) ⟨.ref l, H, I, rfl, q l H (Same.refl H) ?_⟩
    have e : (List.replicate k.toNat xs).flatten = xs := by
      rw [Bool.or_eq_true] at hc
      rcases hc with hc | hc
      · have : its = [] := by simpa using hc
        have : xs = [] := by
          have hl' := hl
          rw [this] at hl'
          exact List.eq_nil_of_length_eq_zero hl'
        subst this
        simp
      · have : k = 1 := by simpa using hc
        subst this
        simp
    rw [e]
    exact hH
  · by_cases hx : (decide (k ≤ 0) || its.toArray.isEmpty) = true
    · refine go (S := fun _ R s' => R (.ok (.ret (.ref s'.heap.objs.size))) { s' with heap := s'.heap.push { cls := .type "tuple", data := .seq #[] } }) (HT.tuple_mul_none l its.toArray n dd sl k t h0 hc hx) ?_
      refine ⟨.ref s.heap.objs.size, _, I.laid (t' := s.toks) (o := .tup []) (fun b ob q => Heap.get?_push_of_some _ q) (Nat.le_refl _) ?_, rfl, q _ _ (Same.upd (I.hok.fresh (Nat.le_refl _))) ?_⟩
      · exact ⟨Nat.zero_le _, [], .nil, IsTup.new _ _⟩
      · have e : k.toNat = 0 := by
          rw [Bool.or_eq_true, decide_eq_true_iff] at hx
          rcases hx with hx | hx
          · omega
          · exact absurd (by rw [Bool.or_eq_true]; exact .inl hx) hc
        rw [e, upd_same]
        rfl
    · have hk : 0 < k := by
        rw [Bool.or_eq_true, decide_eq_true_iff] at hx
        omega
      have hfl : List.foldl (fun x1 x2 => x1 ++ x2) #[] (List.replicate k.toNat its.toArray) = (List.replicate k.toNat its).flatten.toArray := by
        have := foldl_rep its k.toNat []
        rw [List.nil_append] at this
        exact this
      have hlen : (List.replicate k.toNat its).flatten.length ≤ sizeLine := by rw [len_rep, Nat.mul_comm, ← hl]; exact hz
      have hsz : ((its.toArray.size : Int) * k) = ((xs.length * k.toNat : Nat) : Int) := by
        rw [List.size_toArray, ← hl, Int.natCast_mul, Int.toNat_of_nonneg (by omega)]
      have hline : (sizeLine : Nat) ≤ (2 ^ 63 - 1) / 8 := by decide
      refine go (S := fun _ R s' => R (.ok (.ret (.ref s'.heap.objs.size))) { s' with heap := s'.heap.push { cls := .type "tuple", data := .seq (List.foldl (fun x1 x2 => x1 ++ x2) #[] (List.replicate k.toNat its.toArray)) } })
        (HT.tuple_mul_many l its.toArray n dd sl k t h0 hc hx (by rw [hsz]; omega) (by unfold Builtin.Tuple.tupleTooMany; rw [decide_eq_true_iff, hsz]; omega) (by rw [hfl, List.size_toArray]; exact hlen)) ?_
      rw [hfl]
      refine ⟨.ref s.heap.objs.size, _, I.laid (t' := s.toks) (o := .tup (List.replicate k.toNat xs).flatten) (fun b ob q => Heap.get?_push_of_some _ q) (Nat.le_refl _) ?_, rfl, q _ _ (Same.upd (I.hok.fresh (Nat.le_refl _))) upd_same⟩
      exact ⟨by rw [len_rep, Nat.mul_comm]; exact hz, _, r.rep k.toNat, IsTup.new _ _⟩
end
end L2
set_option Elab.async false
set_option linter.all false
set_option maxRecDepth 100000
set_option maxHeartbeats 4000000
namespace L2
open PySem PySem.Spec PyProof.Rows
def tx (l : List Nat) : Str := ⟨l.toArray⟩
theorem tx_len (l : List Nat) : (tx l).length = l.length := by
  show l.toArray.size = l.length
  simp
theorem str_ext {x y : Str} (h : x.cps.toList = y.cps.toList) : x = y := by
  obtain ⟨a⟩ := x
  obtain ⟨b⟩ := y
  have : a = b := Array.toList_inj.mp h
  rw [this]
theorem tx_of (x : Str) : x = tx x.cps.toList := str_ext rfl
theorem tx_app (a b : List Nat) : tx a ++ tx b = tx (a ++ b) := by
  refine str_ext ?_
  show ((tx a).cps ++ (tx b).cps).toList = (a ++ b)
  rw [Array.toList_append]
  rfl
section
variable {X : Cx} {pos : Pos}
theorem pe_strX {x : Str} {l : List Nat} {j} (h : x = tx l) : PE X (.Constant (.str x) j pos) (tC (.str (tx l))) := by
  rw [← h]
  exact pe_str
def digs (n : Int) : List Nat := (toString n : Str).cps.toList
theorem log_small {n : Nat} (h : n < 10000000000) : n.log2 < 1920 := by
  rcases Nat.eq_zero_or_pos n with e | e
  · subst e; decide
  · have h1 : 2 ^ n.log2 ≤ n := Nat.log2_self_le (by omega)
    have h2 : (10000000000 : Nat) < 2 ^ 1920 := by decide +kernel
    exact (Nat.pow_lt_pow_iff_right (by decide : 1 < 2)).mp (Nat.lt_of_le_of_lt h1 (Nat.lt_trans h h2))
theorem digs_len {n : Int} (h0 : 0 ≤ n) (h : n < 10000000000) : (digs n).length ≤ 10 := by
  have := toString_length_le (v := n) h0 (k := 10) (by decide) h
  exact this
end
end L2
set_option Elab.async false
set_option linter.all false
set_option maxRecDepth 100000
set_option maxHeartbeats 4000000
namespace L2
open PySem PySem.Spec PyProof.Rows
structure Def (K : PySem.W.Frag) (mg : Str → Option Value) (x : Str) (st : Stmt) (ps : List Str) (f : Addr) (fd : FuncData) : Prop where
  F : Fun K x x st f fd
  m : mg x = some (.ref f)
  b : Binds K fd ps []
section
variable {X : Cx}
end
theorem cut_ints (ns : List Int) (lo hi : Option Int) : cutV (intV ns) lo hi = intV ((ns.drop (HT.sIx ns.length 0 lo)).take (HT.sIx ns.length ns.length hi - HT.sIx ns.length 0 lo)) := by
  unfold cutV intV
  rw [List.length_map, List.map_take, List.map_drop]
theorem emod_nat (r : Int) {n : Nat} (h : 0 < n) : ∃ j : Nat, r % (n : Int) = (j : Int) ∧ j < n := by
  have h1 := Int.emod_nonneg r (show (n : Int) ≠ 0 by omega)
  have h2 := Int.emod_lt_of_pos r (show (0 : Int) < (n : Int) by omega)
  exact ⟨(r % (n : Int)).toNat, by omega, by omega⟩
end L2
set_option Elab.async false
set_option linter.all false
set_option maxRecDepth 100000
namespace L2
open PySem PySem.Spec PyProof.Rows
section
variable {κ : Type} [DecidableEq κ]
def valV (kvs : List (κ × V)) (k : κ) : Option V := (kvs.find? fun kv => decide (kv.1 = k)).map (·.2)
def putK (kvs : List (κ × V)) (k : κ) (v : V) : List (κ × V) :=
  if (kvs.any fun kv => decide (kv.1 = k)) = true then kvs.map (fun kv => if kv.1 = k then (kv.1, v) else kv) else kvs ++ [(k, v)]
def dropK (kvs : List (κ × V)) (k : κ) : List (κ × V) := kvs.filter fun kv => decide (kv.1 ≠ k)
theorem valV_pos {p : κ × V} {r : List (κ × V)} {k : κ} (e : p.1 = k) : valV (p :: r) k = some p.2 := by simp [valV, List.find?_cons, e]
theorem valV_neg {p : κ × V} {r : List (κ × V)} {k : κ} (e : ¬ p.1 = k) : valV (p :: r) k = valV r k := by simp [valV, List.find?_cons, e]
theorem valV_any (k : κ) : ∀ kvs : List (κ × V), (kvs.any fun kv => decide (kv.1 = k)) = (valV kvs k).isSome
  | [] => rfl
  | p :: r => by
    rw [List.any_cons]
    by_cases e : p.1 = k
    · simp only [valV_pos e, decide_eq_true e, Bool.true_or, Option.isSome_some]
    · rw [valV_neg e, decide_eq_false e, Bool.false_or]; exact valV_any k r
theorem valV_map (k j : κ) (y : V) : ∀ kvs : List (κ × V), valV (kvs.map fun kv => if kv.1 = k then (kv.1, y) else kv) j = (valV kvs j).map fun x => if j = k then y else x
  | [] => rfl
  | p :: r => by
    have ih := valV_map k j y r
    rw [List.map_cons]
    by_cases h : p.1 = k
    · rw [if_pos h]
      by_cases e : p.1 = j
      · rw [valV_pos (p := (p.1, y)) e, valV_pos e, Option.map_some, if_pos (e.symm.trans h)]
      · rw [valV_neg (p := (p.1, y)) e, valV_neg e, ih]
    · rw [if_neg h]
      by_cases e : p.1 = j
      · rw [valV_pos (p := p) e, valV_pos e, Option.map_some, if_neg (fun z => h (e.trans z))]
      · rw [valV_neg (p := p) e, valV_neg e, ih]
theorem valV_snoc (k j : κ) (y : V) : ∀ kvs : List (κ × V), valV kvs k = none → valV (kvs ++ [(k, y)]) j = if j = k then some y else valV kvs j
  | [], _ => by
    by_cases e : k = j
    · rw [if_pos e.symm]; exact valV_pos (p := (k, y)) e
    · rw [if_neg (fun z => e z.symm)]; exact valV_neg (p := (k, y)) e
  | p :: r, hn => by
    rw [List.cons_append]
    have hk : ¬ p.1 = k := fun z => by rw [valV_pos z] at hn; cases hn
    rw [valV_neg hk] at hn
    have ih := valV_snoc k j y r hn
    by_cases e : p.1 = j
    · rw [valV_pos e, valV_pos e, if_neg (fun z => hk (e.trans z))]
    · rw [valV_neg e, valV_neg e, ih]
theorem valV_put (kvs : List (κ × V)) (k j : κ) (y : V) : valV (putK kvs k y) j = if j = k then some y else valV kvs j := by
  unfold putK
  by_cases a : (kvs.any fun kv => decide (kv.1 = k)) = true
  · rw [if_pos a, valV_map]
    rw [valV_any] at a
    by_cases e : j = k
    · obtain ⟨x, hx⟩ := Option.isSome_iff_exists.mp a
      rw [if_pos e, e, hx, Option.map_some, if_pos rfl]
    · rw [if_neg e]
      cases valV kvs j with
      | none => rfl
      | some x => rw [Option.map_some, if_neg e]
  · rw [if_neg a]
    refine valV_snoc k j y kvs ?_
    rw [valV_any] at a
    cases q : valV kvs k with
    | none => rfl
    | some x => rw [q] at a; exact (a rfl).elim
theorem length_putK (kvs : List (κ × V)) (k : κ) (v : V) : (putK kvs k v).length ≤ kvs.length + 1 := by
  unfold putK
  split
  · rw [List.length_map]; omega
  · rw [List.length_append, List.length_cons, List.length_nil]; omega
theorem putK_new {kvs : List (κ × V)} {k : κ} (v : V) (h : valV kvs k = none) : putK kvs k v = kvs ++ [(k, v)] := by
  unfold putK
  rw [valV_any, h]
  exact if_neg (by decide)
theorem RelO.isSome_eq {o : Option V} {u : Option Value} (r : RelO o u) : o.isSome = u.isSome := by
  cases o with
  | none => cases u with
    | none => rfl
    | some _ => exact (show False from r).elim
  | some _ => cases u with
    | none => exact (show False from r).elim
    | some _ => rfl
theorem KV.val {kvs : List (κ × V)} {vs : List (κ × Value)} (r : KV kvs vs) (k : κ) : RelO (valV kvs k) (valueAt vs k) := by
  unfold KV at r
  induction r with
  | nil => exact True.intro
  | @cons p q ps qs h t ih =>
    obtain ⟨h1, h2⟩ := h
    by_cases e : p.1 = k
    · have e' : q.1 = k := h1.symm.trans e
      have b : valueAt (q :: qs) k = some q.2 := by simp [valueAt, List.find?_cons, e']
      rw [valV_pos e, b]; exact h2
    · have e' : ¬ q.1 = k := fun z => e (h1.trans z)
      have b : valueAt (q :: qs) k = valueAt qs k := by simp [valueAt, List.find?_cons, e']
      rw [valV_neg e, b]; exact ih
theorem KV.any {kvs : List (κ × V)} {vs : List (κ × Value)} (r : KV kvs vs) (k : κ) : (kvs.any fun kv => decide (kv.1 = k)) = vs.any fun kv => decide (kv.1 = k) := by
  unfold KV at r
  induction r with
  | nil => rfl
  | cons h t ih => rw [List.any_cons, List.any_cons, ih, h.1]
theorem KV.repl {kvs : List (κ × V)} {vs : List (κ × Value)} (r : KV kvs vs) (k : κ) {y : V} {u : Value} (ry : RelV y u) :
    KV (kvs.map fun kv => if kv.1 = k then (kv.1, y) else kv) (vs.map fun kv => if kv.1 = k then (kv.1, u) else kv) := by
  unfold KV at r ⊢
  induction r with
  | nil => exact .nil
  | @cons p q ps qs h t ih =>
    rw [List.map_cons, List.map_cons]
    refine .cons ?_ ih
    obtain ⟨h1, h2⟩ := h
    by_cases e : p.1 = k
    · rw [if_pos e, if_pos (h1.symm.trans e)]; exact ⟨h1, ry⟩
    · rw [if_neg e, if_neg (fun z => e (h1.trans z))]; exact ⟨h1, h2⟩
theorem KV.put {kvs : List (κ × V)} {vs : List (κ × Value)} (r : KV kvs vs) (k : κ) {y : V} {u : Value} (ry : RelV y u) : KV (putK kvs k y) (stored vs k u) := by
  unfold putK stored
  rw [r.any k]
  by_cases e : (vs.any fun kv => decide (kv.1 = k)) = true
  · rw [if_pos e, if_pos e]; exact r.repl k ry
  · rw [if_neg e, if_neg e]; exact Paired.snoc r ⟨rfl, ry⟩
theorem KV.length {kvs : List (κ × V)} {vs : List (κ × Value)} (r : KV kvs vs) : kvs.length = vs.length := Paired.length r
end
theorem kV_is {P : Program} {w : World} {k : Key} {u : Value} (r : RelV (kV k) u) : (mixKind P w).is k u = true := by
  cases k with
  | inl i => obtain ⟨t, e⟩ := (show ∃ t, u = Value.int i t from r); subst e; exact mixKind_int P w i t
  | inr x => obtain ⟨t, e⟩ := (show ∃ t, u = Value.str x t from r); subst e; exact mixKind_str P w x t
theorem items_are {P : Program} {w : World} : ∀ {ks : List Key} {us : List Value}, Vals (ks.map kV) us → ItemsAre (mixKind P w) ks us
  | [], _, r => by rw [List.map_nil] at r; cases r; exact .nil
  | k :: ks, _, r => by
    rw [List.map_cons] at r
    cases r with
    | cons h t => exact .cons (kV_is h) (items_are t)
abbrev KT (H : Hp) : List (List Key × V) → List (List Key × Addr × Value) → Prop := Paired fun p q => p.1 = q.1 ∧ H q.2.1 = some (.tup (p.1.map kV)) ∧ RelV p.2 q.2.2
theorem KT.val {H : Hp} {kvs : List (List Key × V)} {xs : List (List Key × Addr × Value)} (r : KT H kvs xs) (k : List Key) : RelO (valV kvs k) ((atKey xs k).map (·.2)) := by
  induction r with
  | nil => exact True.intro
  | @cons p q ps qs h t ih =>
    obtain ⟨h1, _, h2⟩ := h
    by_cases e : p.1 = k
    · have e' : q.1 = k := h1.symm.trans e
      have b : atKey (q :: qs) k = some q.2 := by simp [atKey, List.find?_cons, e']
      rw [valV_pos e, b]; exact h2
    · have e' : ¬ q.1 = k := fun z => e (h1.trans z)
      have b : atKey (q :: qs) k = atKey qs k := by simp [atKey, List.find?_cons, e']
      rw [valV_neg e, b]; exact ih
theorem KT.repl {H : Hp} {kvs : List (List Key × V)} {xs : List (List Key × Addr × Value)} (r : KT H kvs xs) (k : List Key) {y : V} {u : Value} (ry : RelV y u) :
    KT H (kvs.map fun kv => if kv.1 = k then (kv.1, y) else kv) (xs.map (putAt k u)) := by
  induction r with
  | nil => exact .nil
  | @cons p q ps qs h t ih =>
    rw [List.map_cons, List.map_cons]
    refine .cons ?_ ih
    obtain ⟨h1, h2, h3⟩ := h
    unfold putAt
    by_cases e : p.1 = k
    · rw [if_pos e, if_pos (h1.symm.trans e)]; exact ⟨h1, h2, ry⟩
    · rw [if_neg e, if_neg (fun z => e (h1.trans z))]; exact ⟨h1, h2, h3⟩
theorem KT.put {H : Hp} {kvs : List (List Key × V)} {xs : List (List Key × Addr × Value)} (r : KT H kvs xs) (k : List Key) {b : Addr} {y : V} {u : Value} (hb : H b = some (.tup (k.map kV))) (ry : RelV y u) :
    KT H (putK kvs k y) (storedH xs k b u) := by
  have e : (kvs.any fun kv => decide (kv.1 = k)) = (atKey xs k).isSome := by
    rw [valV_any, (r.val k).isSome_eq, Option.isSome_map]
  unfold putK storedH
  rw [e]
  by_cases q : (atKey xs k).isSome = true
  · rw [if_pos q, if_pos q]; exact r.repl k ry
  · rw [if_neg q, if_neg q]; exact Paired.snoc r ⟨rfl, hb, ry⟩
theorem KT.keeps {H H' : Hp} {kvs : List (List Key × V)} {xs : List (List Key × Addr × Value)} (r : KT H kvs xs) (ht : ∀ b ys, H b = some (.tup ys) → H' b = some (.tup ys)) : KT H' kvs xs :=
  Paired.mapP r fun _ _ z => ⟨z.1, ht _ _ z.2.1, z.2.2⟩
section
variable {P : Program} {w : World} {H : Hp} {h : Heap} {a : Addr}
theorem rd_of {u : HO} (ok : HOk P w H h) (e : Rd H a u) : ObjOk P w H h a u := e.ok ok
theorem dk_rd {kvs : List (Key × V)} (ok : HOk P w H h) (e : Rd H a (.dK kvs)) : kvs.length ≤ sizeLine ∧ (a == sysModules) = false ∧ ∃ vs, KV kvs vs ∧ h.DictOf (mixKind P w) a vs :=
  show ObjOk P w H h a (.dK kvs) from rd_of ok e
theorem dk_of {kvs : List (Key × V)} (ok : HOk P w H h) (e : H a = some (.dK kvs)) : kvs.length ≤ sizeLine ∧ (a == sysModules) = false ∧ ∃ vs, KV kvs vs ∧ h.DictOf (mixKind P w) a vs := dk_rd ok (.inl e)
theorem key_of {ks : List Key} (ok : HOk P w H h) (e : H a = some (.tup (ks.map kV))) : (tupleKind (mixKind P w)).is h ks a := by
  obtain ⟨_, its, r, o, h1, h2, n, h3⟩ := (show ObjOk P w H h a (.tup (ks.map kV)) from ok a _ e)
  exact ⟨o, its.toArray, n, h1, h2, h3, by simpa using items_are r⟩
theorem dt_rd {kvs : List (List Key × V)} (ok : HOk P w H h) (e : Rd H a (.dT kvs)) : kvs.length ≤ sizeLine ∧ (a == sysModules) = false ∧
    ∃ xs, KT H kvs xs ∧ h.DictOfH (tupleKind (mixKind P w)) a xs := by
  obtain ⟨z, y, xs, r, o, es, ep, h1, h2, h3, h4, h5⟩ := (show ObjOk P w H h a (.dT kvs) from rd_of ok e)
  refine ⟨z, y, xs, r, o, es, ep, h1, h2, h3, h4, fun x hx => ?_, h5⟩
  have all : ∀ {l : List (List Key × V)} {m : List (List Key × Addr × Value)}, KT H l m → ∀ x ∈ m, (tupleKind (mixKind P w)).is h x.1 x.2.1 := by
    intro l m q
    induction q with
    | nil => intro x hx; exact nomatch hx
    | @cons p q ps qs hq t ih =>
      intro x hx
      rcases List.mem_cons.mp hx with e | hx
      · subst e
        exact key_of ok (by rw [← hq.1]; exact hq.2.1)
      · exact ih x hx
  exact all r x hx
theorem dt_of {kvs : List (List Key × V)} (ok : HOk P w H h) (e : H a = some (.dT kvs)) : kvs.length ≤ sizeLine ∧ (a == sysModules) = false ∧
    ∃ xs, KT H kvs xs ∧ h.DictOfH (tupleKind (mixKind P w)) a xs := dt_rd ok (.inl e)
end
def DGet (H : Hp) (a : Addr) (y : V) (r : Option V) : Prop :=
  (∃ kvs k, Rd H a (.dK kvs) ∧ y = kV k ∧ r = valV kvs k) ∨ ∃ kvs k b, Rd H a (.dT kvs) ∧ y = .ref b ∧ H b = some (.tup (k.map kV)) ∧ r = valV kvs k
def DPut (H : Hp) (a : Addr) (y v : V) (H' : Hp) : Prop :=
  (∃ kvs k, H a = some (.dK kvs) ∧ y = kV k ∧ kvs.length < sizeLine ∧ H' = upd H a (.dK (putK kvs k v))) ∨
  ∃ kvs k b, H a = some (.dT kvs) ∧ y = .ref b ∧ H b = some (.tup (k.map kV)) ∧ kvs.length < sizeLine ∧ H' = upd H a (.dT (putK kvs k v))
theorem DGet.k {H : Hp} {a : Addr} {kvs : List (Key × V)} {k : Key} (e : H a = some (.dK kvs)) : DGet H a (kV k) (valV kvs k) := .inl ⟨kvs, k, .inl e, rfl, rfl⟩
theorem DPut.k {H : Hp} {a : Addr} {kvs : List (Key × V)} {k : Key} {v : V} (e : H a = some (.dK kvs)) (hl : kvs.length < sizeLine) : DPut H a (kV k) v (upd H a (.dK (putK kvs k v))) := .inl ⟨kvs, k, e, rfl, hl, rfl⟩
section
variable {X : Cx} {pins : List (Addr × Obj)} {σ : St} {H : Hp} {s : Shared} {a : Addr} {y v : V} {u r : Value} {o : Option V} {A : Around} {E : Value → Shared → Prop}
theorem Inv.big (I : Inv X pins σ H s) : sysModules < s.heap.objs.size := by
  have h : mainGlobals < s.heap.objs.size := (I.mod.glob.keeps I.bk).lt
  exact Nat.lt_trans (by decide) h
theorem d_getItem {Q : Value → Shared → Prop} (hu : A.units + 1 < cLine) (I : Inv X pins σ H s) (g : DGet H a y (some v)) (ry : RelV y u) (h : ∀ w' s', Inv X pins σ H s' → RelV v w' → Q w' s') :
    wpAny (model X.prog X.w) A (getItem (.ref a) u) Q E s := by
  rcases g with ⟨kvs, k, e, ey, l⟩ | ⟨kvs, k, b, e, ey, eb, l⟩
  · subst ey
    obtain ⟨z, hd, vs, rel, dd⟩ := dk_rd I.hok e
    obtain ⟨w', hw, rw'⟩ := RelO.some_of (v := v) (o := valueAt vs k) (by rw [l]; exact rel.val k)
    exact wpAny_getItem_of (kV_is ry) dd.mapOf hw (h w' _ (I.tok _) rw')
  · subst ey
    cases (show u = Value.ref b from ry)
    obtain ⟨z, hd, xs, rel, dd⟩ := dt_rd I.hok e
    obtain ⟨w', hw, rw'⟩ := RelO.some_of (v := v) (o := (atKey xs k).map (·.2)) (by rw [l]; exact rel.val k)
    obtain ⟨p, hp, hp2⟩ := Option.map_eq_some_iff.mp hw
    refine wpAny_getItem_heap (tupleKind_room_in1 hu) (key_of I.hok eb) dd hp ?_
    rw [hp2]
    exact h w' _ (I.tok _) rw'
theorem d_notIn {Q : Value → Shared → Prop} (hu : A.units + 1 < cLine) (I : Inv X pins σ H s) (g : DGet H a y o) (ry : RelV y u) (h : ∀ s', Inv X pins σ H s' → Q (.bool (!o.isSome)) s') :
    wpAny (model X.prog X.w) A (compareOp .NotIn u (.ref a)) Q E s := by
  rcases g with ⟨kvs, k, e, ey, l⟩ | ⟨kvs, k, b, e, ey, eb, l⟩
  · subst ey
    obtain ⟨z, hd, vs, rel, dd⟩ := dk_rd I.hok e
    refine wpAny_notIn_of (kV_is ry) hd dd.mapOf ?_
    rw [← (rel.val k).isSome_eq, ← l]
    exact h _ (I.tok _)
  · subst ey
    cases (show u = Value.ref b from ry)
    obtain ⟨z, hd, xs, rel, dd⟩ := dt_rd I.hok e
    refine wpAny_notIn_heap (tupleKind_room_in1 hu) (key_of I.hok eb) hd dd ?_
    have q := (rel.val k).isSome_eq
    rw [Option.isSome_map] at q
    rw [← q, ← l]
    exact h _ (I.tok _)
theorem d_write {h' : Heap} {t' : Nat} {ob : HO} (I : Inv X pins σ H s) (mu : Mut (H a)) (hs : Heap.SameBut a s.heap h') (he : ∃ q, h'.get? a = some q) (new : ObjOk X.prog X.w (upd H a ob) h' a ob) :
    Inv X pins σ (upd H a ob) { s with heap := h', toks := t' } :=
  I.write (x := a) (e := a) mu (.inl rfl) (fun b q hb z => (hs.2 b hb).trans z) he new
theorem dk_new {P : Program} {w : World} {H' : Hp} {h' : Heap} {kvs : List (Key × V)} {vs : List (Key × Value)} (z : kvs.length ≤ sizeLine) (hd : (a == sysModules) = false) (rel : KV kvs vs) (dd : h'.DictOf (mixKind P w) a vs) :
    ObjOk P w H' h' a (.dK kvs) := ⟨z, hd, vs, rel, dd⟩
theorem d_setItem {H' : Hp} {Q : Unit → Shared → Prop} (hu : A.units + 1 < cLine) (I : Inv X pins σ H s) (g : DPut H a y v H') (ry : RelV y u) (rv : RelV v r) (h : ∀ s', Inv X pins σ H' s' → Q () s') :
    wpAny (model X.prog X.w) A (setItem (.ref a) u r) Q E s := by
  rcases g with ⟨kvs, k, e, ey, l, eH⟩ | ⟨kvs, k, b, e, ey, eb, l, eH⟩
  · subst ey eH
    obtain ⟨z, hd, vs, rel, dd⟩ := dk_of I.hok e
    have hz : vs.length ≤ sizeLine := by rw [← rel.length]; exact z
    have hl : (putK kvs k v).length ≤ sizeLine := by have := length_putK kvs k v; omega
    refine wpAny_setItem_pairs (hsz := hz) (kV_is ry) dd fun h' dd' hs => h _ ?_
    have he : ∃ q, h'.get? a = some q := let ⟨q, _, _, hq, _⟩ := dd'; ⟨q, hq⟩
    exact d_write I (by rw [e]; exact True.intro) hs he (dk_new hl hd (rel.put k rv) dd')
  · subst ey eH
    cases (show u = Value.ref b from ry)
    obtain ⟨z, hd, xs, rel, dd⟩ := dt_of I.hok e
    have hz : xs.length ≤ sizeLine := by rw [← Paired.length rel]; exact z
    have hl : (putK kvs k v).length ≤ sizeLine := by have := length_putK kvs k v; omega
    refine wpAny_setItem_heap (hsz := hz) (tupleKind_room_in1 hu) (key_of I.hok eb) dd fun h' dd' hs => h _ ?_
    refine L2.goal_let ?_
    intro q_
    obtain ⟨q, es, ep, hq, h2, h3, h4, _, h5⟩ := dd'
    dsimp only [q_]
    clear q_
    refine d_write I (by rw [e]; exact True.intro) hs ⟨q, hq⟩ ⟨hl, hd, _, (rel.put k eb rv).keeps fun c ys ec => ?_, q, es, ep, hq, h2, h3, h4, h5⟩
    rw [upd_ne (ne_of ec e (fun z => nomatch z))]
    exact ec
end
section
variable {X : Cx} {pins : List (Addr × Obj)} {σ : St} {H : Hp} {s : Shared} {a : Addr} {kvs : List (Key × V)} {k : Key} {u : Value} {A : Around} {E : Value → Shared → Prop}
end
def NoSl (i : Expr) : Prop := ∀ ov iv, subscripted i false ov iv = operate [ov, iv] (getItem ov iv)
theorem subD_of {prog : Program} {w : World} {A : Around} {E : Value → Shared → Prop} {s : Shared} {env : Env} {value slice : Expr} {pos : Pos} {T id : String} {Q : Value → Shared → Prop}
    (hl : typeLookup (.type T) "__getitem__" = pure (some (.builtin id))) (hs : NoSl slice)
    (h : wpAny (model prog w) A (eval value env) (fun o s₁ => wpAny (model prog w) A (eval slice env) (fun i s₂ => s₂.TypeIs o T ∧ wpAny (model prog w) A (getItem o i) Q E s₂) E s₁) E s) :
    wpAny (model prog w) A (eval (.Subscript value slice pos) env) Q E s := by
  refine Subscript_ (wpAny_mono h (fun o s₁ h₁ => wpAny_mono h₁ (fun i s₂ h₂ => ?_) fun _ _ x => x) fun _ _ x => x)
  obtain ⟨hT, h₂⟩ := h₂
  unfold subscriptTail
  refine wpAny_bind ?_
  rw [getitemInPython_of_ne hT.not_modules]
  refine wpAny_bind (wpAny_specialOf hT hl ?_)
  have fin : wpAny (model prog w) A (subscripted slice false o i) (fun r s₃ => wpAny (model prog w) A (letTemporaryGo value o r >>= fun _ => pure r) Q E s₃) E s₂ := by
    rw [hs o i]
    exact wpAny_operating (wpAny_mono h₂ (fun r s₃ h₃ => wpAny_bind (wpAny_letTemporaryGo (wpAny_pure h₃))) fun _ _ x => x)
  first
    | exact wpAny_pure (wpAny_bind fin)
    | exact wpAny_bind (wpAny_pure (wpAny_bind fin))
    | exact wpAny_bind fin
theorem dict_typeIs {X : Cx} {pins : List (Addr × Obj)} {σ : St} {H : Hp} {s : Shared} {a : Addr} {y : V} {o : Option V} (I : Inv X pins σ H s) (g : DGet H a y o) : s.TypeIs (.ref a) "dict" := by
  rcases g with ⟨kvs, k, e, _, _⟩ | ⟨kvs, k, b, e, _, _, _⟩
  · obtain ⟨_, _, vs, _, dd⟩ := dk_rd I.hok e
    exact dd.typeIs
  · obtain ⟨_, _, xs, _, dd⟩ := dt_rd I.hok e
    exact dd.typeIs
def tDGet (td ty : TE) : TE := fun σ H Q => td σ H fun x H1 => ty σ H1 fun y H2 => ∃ a v, x = .ref a ∧ DGet H2 a y (some v) ∧ Q v H2
def tDNotIn (ty td : TE) : TE := fun σ H Q => ty σ H fun y H1 => td σ H1 fun x H2 => ∃ a o, x = .ref a ∧ DGet H2 a y o ∧ Q (.bl (!o.isSome)) H2
def sDPut (td ty tv : TE) : TS := fun D σ H => tv σ H fun v H1 => td σ H1 fun x H2 => ty σ H2 fun y H3 => ∃ a H4, x = .ref a ∧ DPut H3 a y v H4 ∧ D.nx σ H4
section
variable {X : Cx} {o i e value : Expr} {pos pos' tpos : Pos} {td ty tv : TE}
theorem pe_dget (hu : X.A.units + 1 < cLine) (ho : PE X o td) (hi : PE X i ty) (hs : NoSl i) : PE X (.Subscript o i pos) (tDGet td ty) := by
  intro pins s σ H Q I h
  refine subD_of PySem.F.slot_dict_getitem.lookup hs (thn (ho pins s σ H _ I h) fun u s1 ⟨x, H1, I1, rx, q1⟩ => thn (hi pins s1 σ H1 _ I1 q1) fun iv s2 hh_ => ?_)
  refine L2.goal_let ?_
  intro q_
  obtain ⟨y, H2, I2, ry, a, v, ex, g, q2⟩ := hh_
  dsimp only [q_]
  clear q_
  subst ex
  obtain rfl : u = Value.ref a := rx
  exact ⟨dict_typeIs I2 g, d_getItem hu I2 g ry fun w' s3 I3 rw' => ⟨v, H2, I3, rw', q2⟩⟩
theorem pc_dnotin (hu : X.A.units + 1 < cLine) (hi : PE X i ty) (ho : PE X o td) : PC X .NotIn i o (tDNotIn ty td) := by
  intro pins s σ H Q I h
  refine thn (hi pins s σ H _ I h) fun iv s1 ⟨y, H1, I1, ry, q1⟩ => thn (ho pins s1 σ H1 _ I1 q1) fun u s2 hh_ => ?_
  refine L2.goal_let ?_
  intro q_
  obtain ⟨x, H2, I2, rx, a, ov, ex, g, q2⟩ := hh_
  dsimp only [q_]
  clear q_
  subst ex
  obtain rfl : u = Value.ref a := rx
  exact d_notIn hu I2 g ry fun s3 I3 => ⟨.bl (!ov.isSome), H2, I3, rfl, q2⟩
theorem ps_dput (hu : X.A.units + 1 < cLine) (ho : PE X o td) (hi : PE X i ty) (hv : PE X value tv) (hs : swapsWith value (some (.Subscript o i pos')) pos.line X.env = pure false) :
    PS X (.Assign [.Subscript o i pos'] value pos) (sDPut td ty tv) := by
  intro pins s σ H D I h
  refine wpAny_Assign_Subscript (thn (hv pins s σ H _ I h) fun r s1 ⟨v, H1, I1, rv, q1⟩ => thn (ho pins s1 σ H1 _ I1 q1) fun u s2 ⟨x, H2, I2, rx, q2⟩ => thn (hi pins s2 σ H2 _ I2 q2) fun iv s3 ⟨y, H3, I3, ry, a, H4, ex, g, q3⟩ => ?_) hs
  subst ex
  obtain rfl : u = Value.ref a := rx
  exact d_setItem hu I3 g ry rv fun s4 I4 => ⟨σ, H4, I4, q3⟩
end
theorem dk_empty {P : Program} {w : World} {H : Hp} (h : Heap) (hb : sysModules < h.objs.size) : ObjOk P w H (h.push { cls := .type "dict", data := .dict #[] }) h.objs.size (.dK []) :=
  ⟨Nat.zero_le _, beq_eq_false_iff_ne.mpr (Ne.symm (Nat.ne_of_lt hb)), [], .nil, Heap.DictOf.new h⟩
def tDNewK : TE := fun _ H Q => ∀ p, H p = none → Q (.ref p) (upd H p (.dK []))
section
variable {X : Cx} {pos : Pos}
theorem pe_dnewK : PE X (.Dict [] [] pos) tDNewK := fun pins s σ H Q I h =>
  wpAny_Dict_empty ⟨.ref s.heap.objs.size, _, I.laid (a := s.heap.objs.size) (o := .dK []) (t' := s.toks) (fun _ _ q => Heap.get?_push_of_some _ q) (Nat.le_refl _) (dk_empty s.heap I.big), rfl, h _ (I.hok.fresh (Nat.le_refl _))⟩
end
def tPairs : List (TE × TE) → St → Hp → (List (V × V) → Hp → Prop) → Prop
  | [], _, H, Q => Q [] H
  | (tk, tv) :: r, σ, H, Q => tk σ H fun x H1 => tv σ H1 fun y H2 => tPairs r σ H2 fun ps H3 => Q ((x, y) :: ps) H3
abbrev VV : List (V × V) → List (Value × Value) → Prop := Paired fun p q => RelV p.1 q.1 ∧ RelV p.2 q.2
def PPs (X : Cx) (pos : Pos) (keys : List (Option Expr)) (values : List Expr) (trs : List (TE × TE)) : Prop :=
  ∀ (pins : List (Addr × Obj)) (s : Shared) (σ : St) (H : Hp) (Q : List (V × V) → Hp → Prop), Inv X pins σ H s → tPairs trs σ H Q →
    wpAny (model X.prog X.w) X.A (evalPairs (pairTrees keys values X.env pos)) (fun vs s' => ∃ ps H', Inv X pins σ H' s' ∧ VV ps vs ∧ Q ps H') X.xe s
theorem pps_nil {X : Cx} {pos : Pos} : PPs X pos [] [] [] := fun pins s σ H Q I h => pairTrees_nil_walk ⟨[], H, I, .nil, h⟩
theorem pps_cons {X : Cx} {pos : Pos} {k v : Expr} {ks : List (Option Expr)} {vs : List Expr} {tk tv : TE} {trs : List (TE × TE)} (hk : PE X k tk) (hv : PE X v tv) (hr : PPs X pos ks vs trs) :
    PPs X pos (some k :: ks) (v :: vs) ((tk, tv) :: trs) := fun pins s σ H Q I h =>
  pairTrees_cons_walk (thn (hk pins s σ H _ I h) fun u s1 ⟨x, H1, I1, rx, q1⟩ => thn (hv pins s1 σ H1 _ I1 q1) fun w2 s2 ⟨y, H2, I2, ry, q2⟩ =>
    thn (hr pins s2 σ H2 _ I2 q2) fun ws s3 ⟨ps, H3, I3, rel, q3⟩ => ⟨(x, y) :: ps, H3, I3, .cons ⟨rx, ry⟩ rel, q3⟩)
def mergeK (kvs more : List (Key × V)) : List (Key × V) := more.foldl (fun acc kv => putK acc kv.1 kv.2) kvs
theorem KV.merge : ∀ {more : List (Key × V)} {rs : List (Key × Value)} {kvs : List (Key × V)} {vs : List (Key × Value)}, KV more rs → KV kvs vs → KV (mergeK kvs more) (merged vs rs) := by
  intro more rs kvs vs r
  unfold KV at r
  induction r generalizing kvs vs with
  | nil => intro q; exact q
  | @cons p q ps qs h t ih =>
    intro r0
    have e : KV (putK kvs p.1 p.2) (stored vs q.1 q.2) := by
      have := r0.put p.1 h.2
      rw [← h.1]; exact this
    exact ih e
theorem length_mergeK : ∀ (more kvs : List (Key × V)), (mergeK kvs more).length ≤ kvs.length + more.length
  | [], kvs => by show kvs.length ≤ kvs.length + 0; omega
  | p :: r, kvs => by
    have h1 := length_mergeK r (putK kvs p.1 p.2)
    have h2 := length_putK kvs p.1 p.2
    show (mergeK (putK kvs p.1 p.2) r).length ≤ _
    rw [List.length_cons]; omega
theorem carries_of {P : Program} {w : World} : ∀ {kvs : List (Key × V)} {ws : List (Value × Value)}, VV (kvs.map fun kv => (kV kv.1, kv.2)) ws → ∃ rs, Carries (mixKind P w) ws rs ∧ KV kvs rs
  | [], _, r => by rw [List.map_nil] at r; cases r; exact ⟨[], True.intro, .nil⟩
  | p :: kvs, _, r => by
    rw [List.map_cons] at r
    cases r with
    | @cons a b as bs h t =>
      obtain ⟨rs, c, q⟩ := carries_of (P := P) (w := w) t
      obtain ⟨b1, b2⟩ := b
      exact ⟨(p.1, b2) :: rs, ⟨kV_is h.1, rfl, c⟩, .cons ⟨rfl, h.2⟩ q⟩
def tDisp (trs : List (TE × TE)) : TE := fun σ H Q => ∀ p, H p = none → tPairs trs σ (upd H p (.dK [])) fun ps H2 => H2 p = some (.dK []) ∧ ∃ kvs : List (Key × V), ps = kvs.map (fun kv => (kV kv.1, kv.2)) ∧ kvs.length ≤ 15 ∧ Q (.ref p) (upd H2 p (.dK (mergeK [] kvs)))
theorem pe_disp {X : Cx} {pos : Pos} {keys : List (Option Expr)} {values : List Expr} {trs : List (TE × TE)} (h : PPs X pos keys values trs) (hall : keys.all (·.isSome) = true) (hl : keys.length = values.length) (h0 : keys ≠ [])
    (h15 : keys.length ≤ 15) : PE X (.Dict keys values pos) (tDisp trs) := by
  intro pins s σ H Q I q
  have hn := I.hok.fresh (Nat.le_refl s.heap.objs.size)
  have I1 := I.laid (a := s.heap.objs.size) (o := .dK []) (h' := s.heap.push { cls := .type "dict", data := .dict #[] }) (t' := s.toks) (fun _ _ q => Heap.get?_push_of_some _ q) (Nat.le_refl _) (dk_empty s.heap I.big)
  refine wpAny_Dict_walk (knd := mixKind X.prog X.w) hall hl h0 h15 (thn (h pins _ σ _ _ I1 (q _ hn)) fun ws s2 hh_ => ?_)
  refine L2.goal_let ?_
  intro q_
  obtain ⟨ps, H2, I2, rel, e, kvs, ep, lk, q2⟩ := hh_
  dsimp only [q_]
  clear q_
  subst ep
  obtain ⟨rs, c, rk⟩ := carries_of (P := X.prog) (w := X.w) rel
  obtain ⟨z, hd, vs0, r0, dd⟩ := dk_of I2.hok e
  cases r0
  refine ⟨rs, c, dd, fun h' dd' hs => ⟨.ref s.heap.objs.size, _, ?_, rfl, q2⟩⟩
  have hz : (mergeK [] kvs).length ≤ sizeLine := by
    have h1 := length_mergeK kvs []
    rw [List.length_nil] at h1
    rw [sizeLine_eq]; omega
  have he : ∃ q, h'.get? s.heap.objs.size = some q := let ⟨q, _, _, hq, _⟩ := dd'; ⟨q, hq⟩
  exact d_write I2 (by rw [e]; exact True.intro) hs he (dk_new hz hd (rk.merge .nil) dd')
structure M1 (X : Cx) (o : Expr) (m : Str) (apos : Pos) (e : Expr) (cpos : Pos) : Prop where
  base : attributeBase o m X.env (eval o X.env) = eval o X.env
  few : ((backTo cpos (starEach [e] X.env)).all (fun x => !x.1) && (backToKw cpos (keywordEach [] X.env)).all (fun x => x.1.isSome)
    && decide (([e] : List Expr).length + ([] : List Keyword).length + (if ([] : List Keyword).isEmpty then 0 else 1) < 30)) = true
  line : (apos.endLine == cpos.line) = true
  trees : backTo cpos (starEach [e] X.env) = [(false, eval e X.env)]
structure M2 (X : Cx) (o : Expr) (m : Str) (apos : Pos) (e f : Expr) (cpos : Pos) : Prop where
  base : attributeBase o m X.env (eval o X.env) = eval o X.env
  few : ((backTo cpos (starEach [e, f] X.env)).all (fun x => !x.1) && (backToKw cpos (keywordEach [] X.env)).all (fun x => x.1.isSome)
    && decide (([e, f] : List Expr).length + ([] : List Keyword).length + (if ([] : List Keyword).isEmpty then 0 else 1) < 30)) = true
  line : (apos.endLine == cpos.line) = true
  trees : backTo cpos (starEach [e, f] X.env) = [(false, eval e X.env), (false, eval f X.env)]
section
variable {X : Cx} {pins : List (Addr × Obj)} {σ : St} {H : Hp} {s : Shared} {a : Addr} {y d : V} {u r : Value} {o : Option V} {A : Around} {E : Value → Shared → Prop}
end
section
variable {X : Cx} {o e f : Expr} {apos cpos : Pos} {td ty tx : TE}
end
section
variable {X : Cx} {pins : List (Addr × Obj)} {σ : St} {H : Hp} {s : Shared} {a : Addr} {kvs : List (Key × V)} {A : Around} {E : Value → Shared → Prop}
end
section
variable {X : Cx} {pins : List (Addr × Obj)} {σ : St} {H : Hp} {s : Shared} {a : Addr} {y : V} {u : Value} {A : Around} {E : Value → Shared → Prop}
end
end L2
set_option Elab.async false
set_option linter.all false
set_option maxRecDepth 100000
set_option maxHeartbeats 4000000
namespace L2
open PySem PySem.Spec PyProof.Rows
section
variable {X : Cx} {pos : Pos}
end
end L2
set_option Elab.async false
set_option linter.all false
set_option maxRecDepth 100000
set_option maxHeartbeats 4000000
namespace L2
open PySem PySem.Spec PyProof.Rows
section
variable {X : Cx} {pins : List (Addr × Obj)} {σ : St} {H : Hp} {s : Shared} {h' : Heap}
theorem Inv.turnLaid {fp : List Addr} {a : Addr} {o : HO} {t' : Nat} (I : Inv X pins σ H s) (k : ∀ b u, b ∉ fp → s.heap.get? b = some u → h'.get? b = some u) (hf : ∀ b ∈ fp, FpOk X pins H b)
    (hp : s.heap.objs.size ≤ a) (new : ObjOk X.prog X.w (upd H a o) h' a o) : Inv X pins σ (upd H a o) { s with heap := h', toks := t' } := by
  have hn := I.hok.fresh hp
  have nf : ∀ b u, H b = some u → b ∉ fp := fun b u e z => by rw [(hf b z).1] at e; cases e
  refine I.step (g' := s.gens) (d' := s.drawn) (ch := fp) (fun b hb => ⟨(hf b hb).2.2.2.1, (hf b hb).2.1, (hf b hb).2.2.2.2.1, (hf b hb).2.2.2.2.2⟩) (fun b o _ _ hc e _ => k b o hc e) (fun b o _ _ hc e _ => ⟨o.slots, k b o hc e⟩)
    (fun b o _ e n => by rw [upd_ne (Nat.ne_of_lt (Nat.lt_of_lt_of_le (Heap.lt_size e) hp))]; exact n) (fun b o hc e => ⟨o, k b o hc e⟩) (fun b xs e => by rw [upd_ne (ne_of_none e hn)]; exact e)
    (fun b o u e => by rw [upd_ne (ne_of_none e hn)]; exact e) (fun b ps e => ⟨#[], by rw [upd_ne (ne_of_none e hn), e]; simp⟩) (fun m hm => ?_) (fun b u e => ?_) I.bare
  · refine L2.goal_let ?_
    intro q_
    obtain ⟨o, es, ep, ho, r⟩ := hm
    dsimp only [q_]
    clear q_
    exact ⟨o, es, ep, k _ o (fun z => (hf _ z).2.1 rfl) ho, r⟩
  · by_cases hb : b = a
    · subst hb; rw [upd_same] at e; cases e; exact new
    · rw [upd_ne hb] at e
      refine (I.hok b u e).stay (fun c v hc q => k c v ?_ q) (fun c q => by rw [upd_ne (ne_of_none q hn)]; exact q) fun c xs q => by rw [upd_ne (ne_of_none q hn)]; exact q
      rcases hc with z | z
      · rw [z]; exact nf b u e
      · exact nf c _ z
theorem Inv.turnedL {fp : List Addr} {t' : Nat} (I : Inv X pins σ H s) (k : ∀ b u, b ∉ fp → s.heap.get? b = some u → h'.get? b = some u) (hf : ∀ b ∈ fp, FpOk X pins H b) : Inv X pins σ H { s with heap := h', toks := t' } := by
  have nf : ∀ b u, H b = some u → b ∉ fp := fun b u e z => by rw [(hf b z).1] at e; cases e
  refine I.step (g' := s.gens) (d' := s.drawn) (ch := fp) (fun b hb => ⟨(hf b hb).2.2.2.1, (hf b hb).2.1, (hf b hb).2.2.2.2.1, (hf b hb).2.2.2.2.2⟩) (fun b o _ _ hc e _ => k b o hc e) (fun b o _ _ hc e _ => ⟨o.slots, k b o hc e⟩)
    (fun b o _ e n => n) (fun b o hc e => ⟨o, k b o hc e⟩) (fun b xs e => e) (fun b o u e => e) (fun b ps e => ⟨#[], by rw [e]; simp⟩) (fun m hm => ?_) (fun b u e => ?_) I.bare
  · refine L2.goal_let ?_
    intro q_
    obtain ⟨o, es, ep, ho, r⟩ := hm
    dsimp only [q_]
    clear q_
    exact ⟨o, es, ep, k _ o (fun z => (hf _ z).2.1 rfl) ho, r⟩
  · refine (I.hok b u e).stay (fun c v hc q => k c v ?_ q) (fun c q => q) fun c xs q => q
    rcases hc with z | z
    · rw [z]; exact nf b u e
    · exact nf c _ z
end
namespace En
section
variable {prog : Program} {w : World} {A : Around} {E : Value → Shared → Prop} {s : Shared}
theorem next_pair {e it : Addr} {fp : List Addr} {n i : Nat} {j : Int} {P : Nat → Value → Prop} {St : Nat → Heap → Prop} {old : Value} {Q : Option Value → Shared → Prop} (D : Draws prog w A.in1 it fp n P St)
    (he : IsEnum s.heap e it j old) (hst : St i s.heap) (hlt : i < n) (hne : e ≠ it) (hef : e ∉ fp)
    (hQ : ∀ x h' tk, P i x → IsEnumOut h' e it (j + 1) x s.heap.objs.size → St (i + 1) h' → h'.get? s.heap.objs.size = some { cls := .type "tuple", data := .seq #[.int j tk, x] } →
      (∀ b o, b ≠ e → b ≠ it → s.heap.get? b = some o → h'.get? b = some o) → Q (some (.ref s.heap.objs.size)) { s with heap := h', toks := tk + 1 }) :
    wpAny (model prog w) A (pyNext (.ref e)) Q E s := by
  have hT : s.TypeIs (.ref e) "enumerate" := ⟨_, he, rfl⟩
  unfold pyNext
  refine wpAny_bind (wpAny_attempt (wpAny_callSpecial?_slot (name := Str.ofString "__next__") hT F.slot_enumerate_next (wpAny_call_entry F.slot_enumerate_next hT F.entry_enumerate_next ?_ (F.args_enumerate_next_1 _))))
  refine L2.goal_let ?_
  intro q_
  obtain ⟨hp, g, d, tk₀, os⟩ := s
  dsimp only [q_]
  clear q_
  show wpAny _ _ (field (.ref e) 2 >>= _) _ _ _
  refine wpAny_bind (wpAny_field he rfl (x := .ref it) rfl (wpAny_bind (D.item i _ _ _ hlt hst fun x h₁ tk hPx hit₁ hs₁ => ?_)))
  replace hs₁ : Heap.SameBut it hp h₁ := hs₁
  have he₁ : IsEnum h₁ e it j old := (hs₁.2 e hne).trans he
  show wpAny _ _ (field (.ref e) 3 >>= _) _ _ ⟨h₁, g, d, tk, os⟩
  refine wpAny_bind (wpAny_field he₁ rfl (x := rawInt j) rfl ?_)
  show wpAny _ _ (field (.ref e) 4 >>= _) _ _ ⟨h₁, g, d, tk, os⟩
  refine wpAny_bind (wpAny_field he₁ rfl (x := .none) rfl ?_)
  show wpAny _ _ (mkInt j >>= _) _ _ ⟨h₁, g, d, tk, os⟩
  refine wpAny_bind (wpAny_mkInt ?_)
  show wpAny _ _ (setField (.ref e) 3 (rawInt (j + 1)) >>= _) _ _ ⟨h₁, g, d, tk + 1, os⟩
  refine wpAny_bind (wpAny_setField_rec he₁ (by simp) fun h₂ he₂ hs₂ => ?_)
  replace hs₂ : Heap.SameBut e h₁ h₂ := hs₂
  replace he₂ : IsEnum h₂ e it (j + 1) old := he₂
  show wpAny _ _ (setField (.ref e) 4 .none >>= _) _ _ ⟨h₂, g, d, tk + 1, os⟩
  refine wpAny_bind (wpAny_setField_rec he₂ (by simp) fun h₃ he₃ hs₃ => ?_)
  replace hs₃ : Heap.SameBut e h₂ h₃ := hs₃
  replace he₃ : IsEnum h₃ e it (j + 1) old := he₃
  show wpAny _ _ (newTuple [.int j tk, x] >>= _) _ _ ⟨h₃, g, d, tk + 1, os⟩
  refine wpAny_bind (wpAny_newTuple ?_)
  have he₄ : IsEnum (h₃.push { cls := .type "tuple", data := .seq #[.int j tk, x] }) e it (j + 1) old := Heap.get?_push_of_some _ he₃
  generalize hh₄ : h₃.push { cls := .type "tuple", data := .seq #[.int j tk, x] } = h₄ at he₄
  have hsz : h₃.objs.size = hp.objs.size := by rw [hs₃.1, hs₂.1, hs₁.1]
  have hel : e < hp.objs.size := Heap.lt_size he
  have ht₄ : h₄.get? hp.objs.size = some { cls := .type "tuple", data := .seq #[.int j tk, x] } := by rw [← hh₄, ← hsz]; exact Heap.get?_push_size _ rfl
  have hk₄ : ∀ b o, b ≠ e → b ≠ it → hp.get? b = some o → h₄.get? b = some o := fun b o hbe hbi hb => by
    rw [← hh₄]
    exact Heap.get?_push_of_some _ (hs₃.extBut b o hbe (hs₂.extBut b o hbe (hs₁.extBut b o hbi hb)))
  have hit₄ : St (i + 1) h₄ := D.frame _ _ _ hit₁ fun b hb o y => by
    have hbe : b ≠ e := fun q => hef (q ▸ hb)
    rw [← hh₄]
    exact Heap.get?_push_of_some _ (hs₃.extBut b o hbe (hs₂.extBut b o hbe y))
  show wpAny _ _ (Builtin.SmallTypes.ownedTupleIsFree (.ref e) >>= _) _ _ ⟨h₄, g, d, tk + 1, os⟩
  rw [hsz]
  clear hh₄ he₃ hs₃ he₂ hs₂ he₁ hs₁ hit₁ hsz h₃ h₂ h₁
  refine wpAny_bind ?_
  unfold Builtin.SmallTypes.ownedTupleIsFree
  refine wpAny_bind (wpAny_field he₄ rfl (x := .none) rfl (wpAny_pure ?_))
  simp only [if_true]
  refine wpAny_bind (wpAny_rule (wpAny_bind (wpAny_field he₄ rfl (x := old) rfl (wpAny_bind (wpAny_setField_rec he₄ (by simp) fun h₅ he₅ hs₅ => ?_)))))
  replace hs₅ : Heap.SameBut e h₄ h₅ := hs₅
  replace he₅ : IsEnum h₅ e it (j + 1) x := he₅
  show wpAny _ _ (Builtin.SmallTypes.ownedTupleHandOut (.ref e) (.ref hp.objs.size) >>= _) _ _ ⟨h₅, g, d, tk + 1, os⟩
  refine wpAny_bind ?_
  unfold Builtin.SmallTypes.ownedTupleHandOut
  refine wpAny_bind (wpAny_setField_rec he₅ (by simp) fun h₆ he₆ hs₆ => ?_)
  replace hs₆ : Heap.SameBut e h₅ h₆ := hs₆
  replace he₆ : IsEnumOut h₆ e it (j + 1) x hp.objs.size := he₆
  refine wpAny_setField_rec he₆ (by simp) fun h₇ he₇ hs₇ => ?_
  replace hs₇ : Heap.SameBut e h₆ h₇ := hs₇
  replace he₇ : IsEnumOut h₇ e it (j + 1) x hp.objs.size := he₇
  refine wpAny_bind (wpAny_letGo (wpAny_pure ⟨_, rfl, wpAny_pure (hQ x h₇ tk hPx he₇ ?_ ?_ ?_)⟩))
  · exact D.frame _ _ _ hit₄ fun b hb o y => by
      have hbe : b ≠ e := fun q => hef (q ▸ hb)
      exact hs₇.extBut b o hbe (hs₆.extBut b o hbe (hs₅.extBut b o hbe y))
  · exact hs₇.extBut _ _ (Nat.ne_of_gt hel) (hs₆.extBut _ _ (Nat.ne_of_gt hel) (hs₅.extBut _ _ (Nat.ne_of_gt hel) ht₄))
  · exact fun b o hbe hbi hb => hs₇.extBut b o hbe (hs₆.extBut b o hbe (hs₅.extBut b o hbe (hk₄ b o hbe hbi hb)))
end
end En
end L2
set_option Elab.async false
set_option linter.all false
set_option maxRecDepth 100000
set_option maxHeartbeats 4000000
namespace L2
open PySem PySem.Spec PyProof.Rows
section
variable {X : Cx}
end
end L2
set_option Elab.async false
set_option linter.all false
set_option maxRecDepth 100000
set_option maxHeartbeats 4000000
namespace L2
open PySem PySem.Spec PyProof.Rows
section
variable {X : Cx}
end
end L2
set_option Elab.async false
set_option linter.all false
set_option maxRecDepth 100000
set_option maxHeartbeats 4000000
namespace L2
open PySem PySem.Spec PyProof.Rows
def CXw (P : Program) (w : World) : CXT := fun outer H s E e s' => ∃ (x C : Addr) (B : Heap) (H' : Hp) (a0 : Value), e = .ref x ∧ s'.os = s.os ∧ AllBare s'.gens ∧ Heap.FlyingW B outer x (.ref C) a0 s'.heap ∧
  Un (frs outer) [] H H' s.heap s'.heap ∧ HOk P w H' B ∧ (∀ b o, s.heap.get? b = some o → H b = none → b ∉ frs outer → B.get? b = some o) ∧ (∀ b o, s.heap.get? b = some o → b ∉ frs outer → ∃ o', B.get? b = some o') ∧ E (.ref C) none H'
section
variable {P : Program} {w : World} {K : PySem.W.Frag} {mg : Str → Option Value} {base : Heap} {N : List Str} {qual : Str} {scope : Scope} {f : Addr} {cd : Value} {A : Around} {outer : List Env} {s : Shared} {H : Hp} {E : XK}
  {pins : List (Addr × Obj)} {σ : St} {H1 : Hp} {s1 : Shared}
theorem ex_frames {b : Addr} {o : Obj} (I : Inv (cxOf (CXw P w) P w K mg base N qual scope f cd A outer s H E) pins σ H1 s1) (e : s.heap.get? b = some o) (hb : b ∉ frs outer) : b ∉ frs (cxOf (CXw P w) P w K mg base N qual scope f cd A outer s H E).stack := fun z => by
  rcases List.mem_cons.mp (show b ∈ s.heap.objs.size :: frs outer from z) with z | z
  · exact absurd (Heap.lt_size e) (by rw [z]; exact Nat.lt_irrefl _)
  · exact hb z
theorem leave_made {e C : Addr} {vs : List Value} {h' : Heap} (I : Inv (cxOf (CXw P w) P w K mg base N qual scope f cd A outer s H E) pins σ H1 s1) (hm : Heap.MadeExcOf s1.heap h' e (.ref C) vs) (q : E (.ref C) none H1) :
    (cxOf (CXw P w) P w K mg base N qual scope f cd A outer s H E).xe (.ref e) { s1 with heap := h' } := by
  have hfr := I.ok.frames
  have hin : ∀ env ∈ (cxOf (CXw P w) P w K mg base N qual scope f cd A outer s H E).stack, ∀ b, env.frame = some b → b ∈ frs (cxOf (CXw P w) P w K mg base N qual scope f cd A outer s H E).stack := fun env he b hb => List.mem_filterMap.mpr ⟨env, he, hb⟩
  have hff := PySem.W.funFrames_hide I.stack hin
  refine wpAny_leaves_madeW (s := { s1 with heap := h' }) (base := PySem.W.hideAll s1.heap (frs (cxOf (CXw P w) P w K mg base N qual scope f cd A outer s H E).stack)) (h := s1.heap) (L := s.heap.objs.size) hfr rfl (fun b o z => PySem.W.of_hideAll _ z) hff hm fun h'' t fl tup hnt ups => ?_
  have kb : ∀ b o, s.heap.get? b = some o → H b = none → b ∉ frs outer → (PySem.W.hideAll s1.heap (frs (cxOf (CXw P w) P w K mg base N qual scope f cd A outer s H E).stack)).get? b = some o := fun b o e1 e2 e3 =>
    PySem.W.hideAll_get _ (I.base.keep b o e1 e2 e3 (by simp [cxOf])) (ex_frames I e1 e3)
  have tb : ∀ b o, s.heap.get? b = some o → b ∉ frs outer → ∃ o', (PySem.W.hideAll s1.heap (frs (cxOf (CXw P w) P w K mg base N qual scope f cd A outer s H E).stack)).get? b = some o' := fun b o e1 e3 => by
    obtain ⟨o', e4⟩ := I.base.there b o e1 (by simp [cxOf])
    exact ⟨o', PySem.W.hideAll_get _ e4 (ex_frames I e1 e3)⟩
  have fr : ∀ b o, s1.heap.get? b = some o → b ∈ frs outer → ∃ sl, h''.get? b = some { o with slots := sl } := fun b o e1 e2 => by
    obtain ⟨_, o2, e3, nf⟩ := I.stack.mem (show b ∈ frs (cxOf (CXw P w) P w K mg base N qual scope f cd A outer s H E).stack from List.mem_cons_of_mem _ e2)
    rw [e1] at e3
    cases e3
    exact ups b o (hm.keeps b o e1) nf
  refine ⟨e, C, _, H1, .ref t, rfl, I.os, I.bare, fl, ?_, ?_, kb, tb, q⟩
  · refine ⟨fun b o e1 e2 e3 _ => fl.1 b o (kb b o e1 e2 e3), fun b o e1 e2 e3 _ => ?_, fun b o e1 e2 _ => I.base.free b o e1 e2 (by simp [cxOf]), fun b o e1 _ => ?_, I.base.tups, I.base.frzs, I.base.tbls⟩
    · obtain ⟨sl, e4⟩ := I.base.slot b o e1 e2 e3 (by simp [cxOf])
      obtain ⟨sl2, e5⟩ := fr b _ e4 e3
      exact ⟨sl2, e5⟩
    · by_cases hb : b ∈ frs outer
      · obtain ⟨o', e4⟩ := I.base.there b o e1 (by simp [cxOf])
        obtain ⟨sl, e5⟩ := fr b o' e4 hb
        exact ⟨_, e5⟩
      · obtain ⟨o', e4⟩ := tb b o e1 hb
        exact ⟨o', fl.1 b o' e4⟩
  · intro b u e1
    have nfr : ∀ c v, H1 c = some v → c ∉ frs (cxOf (CXw P w) P w K mg base N qual scope f cd A outer s H E).stack := fun c v e2 z => by
      rw [I.stkFree c z] at e2
      cases e2
    refine (I.hok b u e1).stay (fun c v hc z => PySem.W.hideAll_get _ z ?_) (fun c z => z) fun c xs z => z
    rcases hc with z2 | z2
    · rw [z2]; exact nfr b u e1
    · exact nfr c _ z2
theorem pass1 : Passes (CXw P w) (cxOf (CXw P w) P w K mg base N qual scope f cd A outer s H E) E := by
  intro pins σ H1 s1 e s2 I cx
  refine L2.goal_let ?_
  intro q_
  obtain ⟨x, C, B, H', a0, rfl, os, bare, fl, un, hokB, kb, tb, q⟩ := cx
  dsimp only [q_]
  clear q_
  refine wpAny_leaves_onW (L := s.heap.objs.size) I.ok.frames rfl fl fun h'' fl' ups => ?_
  have kb' : ∀ b o, s.heap.get? b = some o → H b = none → b ∉ frs outer → B.get? b = some o := fun b o e1 e2 e3 =>
    kb b o (I.base.keep b o e1 e2 e3 (by simp [cxOf])) (I.base.free b o e1 e2 (by simp [cxOf])) (ex_frames I e1 e3)
  have tb' : ∀ b o, s.heap.get? b = some o → b ∉ frs outer → ∃ o', B.get? b = some o' := fun b o e1 e3 => by
    obtain ⟨o', e4⟩ := I.base.there b o e1 (by simp [cxOf])
    exact tb b o' e4 (ex_frames I e1 e3)
  have fr : ∀ b o, s1.heap.get? b = some o → b ∈ frs outer → ∃ sl, h''.get? b = some { o with slots := sl } := fun b o e1 e2 => by
    have hin : b ∈ frs (cxOf (CXw P w) P w K mg base N qual scope f cd A outer s H E).stack := List.mem_cons_of_mem _ e2
    obtain ⟨_, o2, e3, nf⟩ := I.stack.mem hin
    rw [e1] at e3
    cases e3
    obtain ⟨sl, e4⟩ := un.slot b o e1 (I.stkFree b hin) hin (by simp)
    obtain ⟨sl2, e5⟩ := ups b _ e4 nf
    exact ⟨sl2, e5⟩
  refine ⟨x, C, B, H', a0, rfl, os.trans I.os, bare, fl', ⟨fun b o e1 e2 e3 _ => fl'.1 b o (kb' b o e1 e2 e3), fun b o e1 e2 e3 _ => ?_, fun b o e1 e2 _ => ?_, fun b o e1 _ => ?_, fun b xs e1 => un.tups b xs (I.base.tups b xs e1), fun b o xs e1 => un.frzs b o xs (I.base.frzs b o xs e1), fun b ps e1 => ?_⟩, hokB, kb', tb', q⟩
  · obtain ⟨sl, e4⟩ := I.base.slot b o e1 e2 e3 (by simp [cxOf])
    obtain ⟨sl2, e5⟩ := fr b _ e4 e3
    exact ⟨sl2, e5⟩
  · obtain ⟨o', e4⟩ := I.base.there b o e1 (by simp [cxOf])
    exact un.free b o' e4 (I.base.free b o e1 e2 (by simp [cxOf])) (by simp)
  · by_cases hb : b ∈ frs outer
    · obtain ⟨o', e4⟩ := I.base.there b o e1 (by simp [cxOf])
      obtain ⟨sl, e5⟩ := fr b o' e4 hb
      exact ⟨_, e5⟩
    · obtain ⟨o', e4⟩ := tb' b o e1 hb
      exact ⟨o', fl'.1 b o' e4⟩
  · obtain ⟨m1, e2⟩ := I.base.tbls b ps e1
    obtain ⟨m2, e3⟩ := un.tbls b _ e2
    exact ⟨m1 ++ m2, by rw [e3, Array.append_assoc]⟩
end
end L2
set_option Elab.async false
set_option linter.all false
set_option maxRecDepth 100000
set_option maxHeartbeats 4000000
namespace L2
open PySem PySem.Spec PyProof.Rows
section
variable {X : Cx} {pos : Pos}
abbrev TJ := St → Hp → List Nat → VK → Prop
def PJ (X : Cx) (es : List Expr) (t : TJ) : Prop :=
  ∀ (pins : List (Addr × Obj)) (s : Shared) (σ : St) (H : Hp) (acc : List Nat) (Q : VK), Inv X pins σ H s → t σ H acc Q → wpAny (model X.prog X.w) X.A (joinParts (tx acc) (evalEach es X.env)) (EP X pins σ Q) X.xe s
theorem pj_nil : PJ X [] (fun σ H acc Q => acc.length ≤ 1000000 ∧ Q (.str (tx acc)) H) := fun pins s σ H acc Q I h =>
  joinParts_nil ⟨.str (tx acc), H, I.tok _, ⟨_, rfl⟩, h.2⟩ (by rw [tx_len]; exact Nat.le_trans h.1 (by decide))
theorem pj_cons {e : Expr} {es : List Expr} {te : TE} {t : TJ} (he : PE X e te) (hr : PJ X es t) (hs : evalEach (e :: es) X.env = eval e X.env :: evalEach es X.env := by rfl) :
    PJ X (e :: es) (fun σ H acc Q => te σ H fun v H1 => ∃ l, v = .str (tx l) ∧ acc.length + l.length ≤ 1000000 ∧ t σ H1 (acc ++ l) Q) := by
  intro pins s σ H acc Q I h
  rw [hs]
  refine joinParts_cons (thn (he pins s σ H _ I h) fun v s1 hh_ => ?_)
  refine L2.goal_let ?_
  intro q_
  obtain ⟨x, H1, I1, r, l, e1, hl, q⟩ := hh_
  dsimp only [q_]
  clear q_
  subst e1
  obtain ⟨t', rfl⟩ := r
  refine ⟨?_, ?_⟩
  · rw [tx_app, tx_len, List.length_append]
    exact Nat.le_trans hl (by decide)
  · rw [tx_app]
    exact hr pins s1 σ H1 (acc ++ l) Q I1 q
theorem pe_joined {a b : Expr} {es : List Expr} {t : TJ} (h : PJ X (a :: b :: es) t) (hs : evalEach (a :: b :: es) X.env = eval a X.env :: eval b X.env :: evalEach es X.env := by rfl) : PE X (.JoinedStr (a :: b :: es) pos) (fun σ H Q => t σ H [] Q) := by
  intro pins s σ H Q I q
  refine JoinedStr_many ?_
  have := h pins s σ H [] Q I q
  rw [hs] at this
  exact this
theorem pe_fmtI {e : Expr} {te : TE} (he : PE X e te) : PE X (.FormattedValue e (-1) none pos) (fun σ H Q => te σ H fun v H1 => ∃ n : Int, v = .int n ∧ n.natAbs < 10000000000 ∧ Q (.str (tx (digs n))) H1) := by
  intro pins s σ H Q I h
  refine FormattedValue_plain (thn (he pins s σ H _ I h) fun v s1 hh_ => ?_)
  refine L2.goal_let ?_
  intro q_
  obtain ⟨x, H1, I1, r, n, e1, hl, q⟩ := hh_
  dsimp only [q_]
  clear q_
  subst e1
  obtain ⟨t', rfl⟩ := r
  refine formatField_int_small (log_small hl) ?_
  exact ⟨.str (tx (digs n)), H1, I1.tok _, ⟨_, by rw [tx_of (toString n : Str)]; rfl⟩, q⟩
abbrev mroV : List Value := [.type "ValueError", .type "Exception", .type "BaseException", .type "object"]
abbrev ExcC (K : PySem.W.Frag) (C : Addr) : Prop := PySem.W.excIn K C mroV "ValueError.__new__" = true
theorem exc_obj {K : PySem.W.Frag} {h : Heap} {C : Addr} (XK : K.In h) (q : ExcC K C) : ∃ bm N nm qn bs hdct sn sub ab col dd k0 k1 k2 k3 k5 mN,
    h.get? C = some (excClassObj nm qn C N bs bm hdct sn sub ab col dd k0 k1 k2 k3 k5 "ValueError.__new__") ∧ h.Ns N mN ∧ mN "__init__" = none ∧ OwnTail h mroV bm := by
  have q' : PySem.W.excIn K C mroV "ValueError.__new__" = true := q
  unfold PySem.W.excIn at q'
  split at q'
  · rename_i dd cls slt hlook
    split at q'
    · rename_i C2 bm a0 a1 a2 a3 nid a5 hmro hslots
      simp only [Bool.and_eq_true, beq_iff_eq, Bool.not_eq_true'] at q'
      refine L2.goal_let ?_
      intro q_
      obtain ⟨⟨⟨⟨⟨rfl, rfl⟩, hdel⟩, htail⟩, hns⟩, hinit⟩ := q'
      dsimp only [q_]
      clear q_
      refine L2.goal_let ?_
      intro q_
      obtain ⟨nm, bs, mro, ns, qn, hd, sn, sub, ab, col, del⟩ := cls
      dsimp only [q_]
      clear q_
      dsimp only at hmro hdel hns hinit
      subst hmro hdel
      have hsl : slt = #[a0, a1, a2, a3, some (.builtin "ValueError.__new__"), a5] := by
        obtain ⟨l⟩ := slt
        simp only at hslots
        rw [hslots]
      subst hsl
      exact ⟨bm, ns, nm, qn, bs, hd, sn, sub, ab, col, dd, a0, a1, a2, a3, a5, _, XK _ _ hlook, .of_isNs (PySem.W.isNs_of_in XK hns), PySem.W.nsMap_none_of_in XK hns hinit, PySem.W.tail_of_in XK htail⟩
    · cases q'
  · cases q'
def tRaise (C : Addr) (E : XK) (te : TE) : TS := fun _ σ H => te σ H fun _ H1 => E (.ref C) none H1
theorem ps_raise {x : Str} {C : Addr} {E : XK} {e₀ : Expr} {te : TE} {np cpos : Pos} (hc : X.calm = true) (hg : Gl X x) (hm : X.mg x = some (.ref C)) (hC : ExcC X.K C) (he : PE X e₀ te)
    (hx : ∀ (pins : List (Addr × Obj)) (σ : St) (H : Hp) (s : Shared) (h' : Heap) (e : Addr) (vs : List Value), Inv X pins σ H s → Heap.MadeExcOf s.heap h' e (.ref C) vs → E (.ref C) none H → X.xe (.ref e) { s with heap := h' })
    (hs : starEach [e₀] X.env = [(false, eval e₀ X.env)] := by rfl) (hdb : (x == ("__debug__" : Str)) = false := by decide) :
    PS X (.Raise (some (.Call (.Name x np) [e₀] [] cpos)) none pos) (tRaise C E te) := by
  intro pins s σ H D I h
  obtain ⟨bm, N, nm, qn, bs, hdct, sn, sub, ab, col, dd, k0, k1, k2, k3, k5, mN, o1, o2, o3, o4⟩ := exc_obj I.ok.mod.kin hC
  have kp : ∀ {σ' H' s'}, Inv X pins σ' H' s' → ∀ b o, X.base.get? b = some o → s'.heap.get? b = some o := fun J b o q => (J.bs b o q).1
  refine wpAny_Raise_call_subT (C := C) (nm := nm) (q := qn) (N := N) (bs := bs) (bm := bm) (hdct := hdct) (sn := sn) (sub := sub) (ab := ab) (col := col) (dd := dd) (k0 := k0) (k1 := k1) (k2 := k2) (k3 := k3) (k5 := k5)
    F.excBase_ValueError (mN := mN) (o4.hasType (by decide +kernel)) (I.ok.hd hc) (by rw [hs]; rfl) o3 (ld_glob I hg hm ⟨rfl, ?_⟩ hdb)
  rw [hs]
  refine Calls.evalArgs_plain (Calls.spliced_cons (thn (he pins s σ H _ I h) fun v s1 ⟨y, H1, I1, r, q⟩ => Calls.spliced_nil ?_))
  exact ⟨rfl, by show 1 ≤ sizeLine; decide, kp I1 _ _ o1, o2.keeps (kp I1), o4.keeps (kp I1), fun h' e hmk => hx pins σ H1 s1 h' e _ I1 hmk q⟩
end
section
variable {P : Program} {w : World} {K : PySem.W.Frag} {mg : Str → Option Value} {base : Heap}
theorem Fun.okX {x qual : Str} {st : Stmt} {f : Addr} {fd : FuncData} {N ps : List Str} {k : Nat} {sp : Sp} (F : Fun K x qual st f fd) (S : FnScope N ps (defScope st)) (len : ∀ vs H Q E, sp vs H Q E → vs.length = ps.length)
    (hbody : ∀ (cdv : Value) (A : Around) (outer : List Env) (s : Shared) (H : Hp) (vs : List V) (Q : VK) (E : XK), Room k (A.deeper (envOfC qual (defScope st) s.heap.objs.size f cdv)) → sp vs H Q E →
      ∃ t, PSs (cxOf (CXw P w) P w K mg base N qual (defScope st) f cdv A outer s H E) (defBody st) t ∧ t { nx := fun _ H' => Q .non H', rt := Q } (start N vs) H) : FnOk P w K mg base (CXw P w) (k + 1) f fd ps sp := by
  obtain ⟨oc, od, kV, doc, pm, an, cdv, ct, osl, rfl, lk, hcd⟩ := F.ex
  exact fn_of lk hcd S len fun A outer s H vs Q E hr hsp => hbody cdv A outer s H vs Q E hr hsp
end
end L2
set_option Elab.async false
set_option linter.all false
set_option maxRecDepth 100000
set_option maxHeartbeats 4000000
namespace L2
open PySem PySem.Spec PyProof.Rows
theorem ObjOk.get {P : Program} {w : World} {H : Hp} {h : Heap} {a : Addr} {o : HO} (x : ObjOk P w H h a o) : ∃ u, h.get? a = some u := by
  cases o with
  | lst xs => obtain ⟨_, _, _, _, e⟩ := x; exact ⟨_, e⟩
  | tup xs => obtain ⟨_, _, _, ob, e, _⟩ := x; exact ⟨_, e⟩
  | dK kvs => obtain ⟨_, _, _, _, o, _, _, e, _⟩ := x; exact ⟨_, e⟩
  | dT kvs => obtain ⟨_, _, _, _, o, _, _, e, _⟩ := x; exact ⟨_, e⟩
  | set S n => obtain ⟨o, _, _, _, e, _⟩ := x; exact ⟨_, e⟩
  | ins C dx fs => obtain ⟨_, _, _, e, _⟩ := x; exact ⟨_, e⟩
  | own y => exact x
  | xd fs => obtain ⟨_, ⟨_, _, _, e, _⟩, _⟩ := x; exact ⟨_, e⟩
  | rng lo hi => obtain ⟨_, _, _, e⟩ := x; exact ⟨_, e⟩
  | frz ob u => obtain ⟨e, _⟩ := x; exact ⟨_, e⟩
  | tbl ps => exact ⟨_, show h.get? a = some _ from x⟩
  | met f y => exact ⟨_, show h.get? a = some _ from x⟩
  | ext φ => obtain ⟨_, e, _⟩ := x; exact e
def ExAt (x C : Addr) (h : Heap) : Prop := ∃ ob vs, h.get? x = some ob ∧ ob.cls = .ref C ∧ ob.data = .fields vs
def ExO (x C : Addr) : HO := .ext (ExAt x C)
theorem ExAt.stay {x C : Addr} {h1 h2 : Heap} (p : ExAt x C h1) (k : ∀ o, h1.get? x = some o → h2.get? x = some o) : ExAt x C h2 := by
  obtain ⟨ob, vs, e, r⟩ := p
  exact ⟨ob, vs, k _ e, r⟩
def Thr (X : Cx) (pins : List (Addr × Obj)) (σ : St) (H' : Hp) (x C : Addr) (s : Shared) : Prop :=
  ∃ (B : Heap) (H1 : Hp) (s1 : Shared) (a0 : Value), Inv X pins σ H1 s1 ∧ s.os = s1.os ∧ AllBare s.gens ∧ Heap.FlyingW B X.stack x (.ref C) a0 s.heap ∧ Un (frs X.stack) [] H1 H' s1.heap s.heap ∧ HOk X.prog X.w H' B ∧
    (∀ b o, s1.heap.get? b = some o → H1 b = none → b ∉ frs X.stack → B.get? b = some o) ∧ (∀ b o, s1.heap.get? b = some o → b ∉ frs X.stack → ∃ o', B.get? b = some o')
section
variable {X : Cx} {pins : List (Addr × Obj)} {σ : St} {H' : Hp} {x C : Addr} {s : Shared}
theorem Thr.of {E : XK} {H : Hp} {s1 : Shared} {e : Value} (I : Inv X pins σ H s1) (cx : CXw X.prog X.w X.stack H s1 E e s) : ∃ x C H', e = .ref x ∧ Thr X pins σ H' x C s ∧ E (.ref C) none H' := by
  refine L2.goal_let ?_
  intro q_
  obtain ⟨x, C, B, H', a0, rfl, os, bare, fl, un, hokB, kb, tb, q⟩ := cx
  dsimp only [q_]
  clear q_
  exact ⟨x, C, H', rfl, ⟨B, H, s1, a0, I, os, bare, fl, un, hokB, kb, tb⟩, q⟩
theorem Inv.noRec {H : Hp} {s1 : Shared} (I : Inv X pins σ H s1) {b : Addr} (hb : b ∈ frs X.stack) : ∃ o, s1.heap.get? b = some o ∧ ∀ vs, o.data ≠ .fields vs := by
  obtain ⟨_, o, e, n⟩ := I.stack.mem hb
  exact ⟨o, e, n⟩
theorem Thr.look {Q : Unit → Shared → Prop} {E : Value → Shared → Prop} {A : Around} (t : Thr X pins σ H' x C s) (hst : X.stack = X.env :: X.outer) (hf : X.env.frame = some X.env.locals) (hA : A.frames = some X.stack)
    (h : ∀ h', Thr X pins σ H' x C { s with heap := h' } → Q () { s with heap := h' }) :
    wpAny (model X.prog X.w) A (noteFrame (.ref x) X.env) (fun _ s2 => wpAny (model X.prog X.w) A (setFlight (.ref x) none) Q E s2) E s := by
  refine L2.goal_let ?_
  intro q_
  obtain ⟨B, H1, s1, a0, I, os, bare, fl, un, hok, kb, tb⟩ := t
  dsimp only [q_]
  clear q_
  have fl' := fl
  rw [hst] at fl'
  refine wpAny_looks_onW (base := B) (hA.trans (by rw [hst])) hf fl' fun h2 hh u1 => ?_
  refine wpAny_landsW hh fun h3 fl3 u2 => h h3 ?_
  have u := u1.trans u2
  have fr : ∀ b o, s1.heap.get? b = some o → b ∈ frs X.stack → ∃ sl, h3.get? b = some { o with slots := sl } := fun b o e hb => by
    obtain ⟨o2, e2, nr⟩ := I.noRec hb
    rw [e] at e2
    cases e2
    obtain ⟨sl, e4⟩ := un.slot b o e (I.stkFree b hb) hb (by simp)
    obtain ⟨sl2, e5⟩ := u b _ e4 nr
    exact ⟨sl2, e5⟩
  refine ⟨B, H1, s1, a0, I, os, bare, by rw [hst]; exact fl3, ⟨fun b o e1 e2 e3 _ => fl3.1 b o (kb b o e1 e2 e3), fun b o e1 _ e3 _ => fr b o e1 e3, un.free, fun b o e1 _ => ?_, un.tups, un.frzs, un.tbls⟩, hok, kb, tb⟩
  by_cases hb : b ∈ frs X.stack
  · obtain ⟨sl, e5⟩ := fr b o e1 hb
    exact ⟨_, e5⟩
  · obtain ⟨o', e4⟩ := tb b o e1 hb
    exact ⟨o', fl3.1 b o' e4⟩
theorem Thr.again {Q : Unit → Shared → Prop} {E : Value → Shared → Prop} {A : Around} (t : Thr X pins σ H' x C s) (h : ∀ h', Thr X pins σ H' x C { s with heap := h' } → Q () { s with heap := h' }) :
    wpAny (model X.prog X.w) A (setFlight (.ref x) none) Q E s := by
  refine L2.goal_let ?_
  intro q_
  obtain ⟨B, H1, s1, a0, I, os, bare, fl, un, hok, kb, tb⟩ := t
  dsimp only [q_]
  clear q_
  refine lands_againW fl fun h3 fl3 u => h h3 ?_
  have fr : ∀ b o, s1.heap.get? b = some o → b ∈ frs X.stack → ∃ sl, h3.get? b = some { o with slots := sl } := fun b o e hb => by
    obtain ⟨o2, e2, nr⟩ := I.noRec hb
    rw [e] at e2
    cases e2
    obtain ⟨sl, e4⟩ := un.slot b o e (I.stkFree b hb) hb (by simp)
    obtain ⟨sl2, e5⟩ := u b _ e4 nr
    exact ⟨sl2, e5⟩
  refine ⟨B, H1, s1, a0, I, os, bare, fl3, ⟨fun b o e1 e2 e3 _ => fl3.1 b o (kb b o e1 e2 e3), fun b o e1 _ e3 _ => fr b o e1 e3, un.free, fun b o e1 _ => ?_, un.tups, un.frzs, un.tbls⟩, hok, kb, tb⟩
  by_cases hb : b ∈ frs X.stack
  · obtain ⟨sl, e5⟩ := fr b o e1 hb
    exact ⟨_, e5⟩
  · obtain ⟨o', e4⟩ := tb b o e1 hb
    exact ⟨o', fl3.1 b o' e4⟩
theorem Thr.inv (t : Thr X pins σ H' x C s) : Inv X pins σ H' s := by
  refine L2.goal_let ?_
  intro q_
  obtain ⟨B, H1, s1, a0, I, os, bare, fl, un, hok, kb, tb⟩ := t
  dsimp only [q_]
  clear q_
  exact I.call' (ch := []) os un (hok.kept fl.1) bare (fun b z => absurd z (by simp))
theorem Thr.none (t : Thr X pins σ H' x C s) : H' x = none := by
  refine L2.goal_let ?_
  intro q_
  obtain ⟨B, H1, s1, a0, I, os, bare, fl, un, hok, kb, tb⟩ := t
  dsimp only [q_]
  clear q_
  cases e : H' x with
  | none => rfl
  | some u =>
    obtain ⟨o, e1⟩ := (hok x u e).get
    rw [fl.2.1] at e1
    cases e1
theorem Thr.invX (t : Thr X pins σ H' x C s) : Inv X pins σ (upd H' x (ExO x C)) s := by
  have hn := t.none
  refine L2.goal_let ?_
  intro q_
  obtain ⟨B, H1, s1, a0, I, os, bare, fl, un, hok, kb, tb⟩ := t
  dsimp only [q_]
  clear q_
  obtain ⟨oe, vs, he, hc, hd, _⟩ := fl.first
  have ne : ∀ b u, H' b = some u → b ≠ x := fun b u e z => by rw [z, hn] at e; cases e
  refine I.call' (ch := []) os ⟨un.keep, un.slot, fun b o e1 e2 e3 => ?_, un.there, fun b xs e => ?_, fun b o u e => ?_, fun b ps e => ?_⟩ (fun b u e => ?_) bare (fun b z => absurd z (by simp))
  · refine (upd_ne ?_).trans (un.free b o e1 e2 e3)
    rintro rfl
    by_cases hb : b ∈ frs X.stack
    · obtain ⟨o2, e4, nr⟩ := I.noRec hb
      rw [e1] at e4
      cases e4
      obtain ⟨sl, e5⟩ := un.slot b o e1 e2 hb (by simp)
      rw [he] at e5
      cases e5
      exact nr vs hd
    · have := kb b o e1 e2 hb
      rw [fl.2.1] at this
      cases this
  · have := un.tups b xs e
    rw [upd_ne (ne _ _ this)]
    exact this
  · have := un.frzs b o u e
    rw [upd_ne (ne _ _ this)]
    exact this
  · obtain ⟨m, this⟩ := un.tbls b ps e
    exact ⟨m, by rw [upd_ne (ne _ _ this)]; exact this⟩
  · by_cases hb : b = x
    · subst hb
      rw [upd_same] at e
      cases e
      exact ⟨⟨oe, vs, he, hc, hd⟩, ⟨oe, he⟩, fun h1 h2 p k => p.stay k⟩
    · rw [upd_ne hb] at e
      exact (hok b u e).stay (fun c v _ q => fl.1 c v q) (fun c q => by rw [upd_ne (ne _ _ q)]; exact q) fun c xs q => by rw [upd_ne (ne _ _ q)]; exact q
theorem Thr.at (t : Thr X pins σ H' x C s) : ExAt x C s.heap := by
  refine L2.goal_let ?_
  intro q_
  obtain ⟨B, H1, s1, a0, I, os, bare, fl, un, hok, kb, tb⟩ := t
  dsimp only [q_]
  clear q_
  obtain ⟨oe, vs, he, hc, hd, _⟩ := fl.first
  exact ⟨oe, vs, he, hc, hd⟩
abbrev Cx.mkd (X : Cx) (x : Addr) : Cx := { X with A := X.A.mark (some (.ref x)), calm := false, xe := fun _ _ => False }
theorem Inv.mkd {H : Hp} (I : Inv X pins σ H s) (x : Addr) : Inv (X.mkd x) pins σ H s :=
  ⟨⟨I.ok.mod, I.ok.kind, I.ok.glob, I.ok.blt, I.ok.above, I.ok.inj, I.ok.has, I.ok.cab, (fun z => by cases z), I.ok.frames, I.ok.stk, I.ok.exf, I.ok.bs, I.ok.bsz, I.ok.noex, I.ok.exfs, I.ok.funs, I.ok.frf⟩, I.os, I.bare, I.base, I.loc, I.cell, I.free, I.freeC, I.pin, I.hok, I.len⟩
theorem Inv.unmkd {H : Hp} (ok : X.Ok) (I : Inv (X.mkd x) pins σ H s) : Inv X pins σ H s := ⟨ok, I.os, I.bare, I.base, I.loc, I.cell, I.free, I.freeC, I.pin, I.hok, I.len⟩
theorem gone_ok {M : Model} {A : Around} {E : Value → Shared → Prop} {H : Hp} {i : Nat} {n : Str} {pos : Pos} {Q : Unit → Shared → Prop} (I : Inv X pins σ H s) (hN : X.N.Nodup) (hi : X.N[i]? = some n) (hx : X.env.scope.names.lookup n = some .local)
    (h : ∀ s', Inv X pins (σ.set i none) H s' → Q () s') : wpAny M A (do bindName X.env n .none; unbindBehindTheSuite X.env n pos) Q E s := by
  obtain ⟨m, hn, hl⟩ := id I.loc
  have hcls : (X.env.scope.kind == .class || (X.env.scope.kind == .module && X.env.locals != X.env.globals)) = false := by rw [I.ok.kind]; rfl
  have hiσ : i < σ.length := by rw [I.len]; exact (List.getElem?_eq_some_iff.mp hi).1
  refine wpAny_nameGoes_keeps hx hn hcls fun h' v hn' hs => ?_
  obtain ⟨oL, _, _, hoL, _⟩ := id hn
  have neL : ∀ b o, X.s₀.heap.get? b = some o → b ≠ X.env.locals := fun b o e => Nat.ne_of_lt (Nat.lt_of_lt_of_le (Heap.lt_size e) I.ok.above)
  refine h _ ⟨I.ok, I.os, I.bare, ⟨fun b o e k hb hx => (hs.2 b (neL b o e)).trans (I.base.keep b o e k hb hx), fun b o e k hb hx => ?_, I.base.free, fun b o e hx => ?_, I.base.tups, I.base.frzs, I.base.tbls⟩, ⟨_, hn', fun j y v' e1 e2 e3 => ?_⟩, fun y c e => ?_, I.free, I.freeC, fun p hp => ?_, fun b ob e => ?_, by simpa using I.len⟩
  · obtain ⟨sl, e1⟩ := I.base.slot b o e k hb hx
    exact ⟨sl, (hs.2 b (neL b o e)).trans e1⟩
  · obtain ⟨o', e1⟩ := I.base.there b o e hx
    exact ⟨o', (hs.2 b (neL b o e)).trans e1⟩
  · by_cases hj : j = i
    · subst hj
      rw [List.getElem?_set_self hiσ] at e2
      cases e2
    · rw [List.getElem?_set_ne (Ne.symm hj)] at e2
      obtain ⟨u', r', q⟩ := hl j y v' e1 e2 e3
      refine ⟨u', r', ?_⟩
      rcases q with ⟨k, e⟩ | ⟨k, c, e, z⟩
      · refine .inl ⟨k, ?_⟩
        have : y ≠ n := fun e => hj (nodup_ix hN e1 (e ▸ hi))
        simp [this, e]
      · exact .inr ⟨k, c, e, z.sameBut hs (I.cne y c e)⟩
  · obtain ⟨w', z⟩ := I.cell y c e
    exact ⟨w', z.sameBut hs (I.cne y c e)⟩
  · obtain ⟨e, k, ne, nf, d⟩ := I.pin p hp
    exact ⟨(hs.2 p.1 ne).trans e, k, ne, nf, d⟩
  · refine (I.hok b ob e).stay (fun c w' hc q => (hs.2 c ?_).trans q) (fun _ q => q) fun _ _ q => q
    rintro rfl
    rcases hc with rfl | hc
    · rw [I.free] at e; cases e
    · rw [I.free] at hc; cases hc
end
abbrev XR := Addr → St → Hp → Prop
abbrev TEX := St → Hp → VK → XR → Prop
abbrev TSX := Ends → XR → St → Hp → Prop
def XP (X : Cx) (pins : List (Addr × Obj)) (R : XR) (e : Value) (s : Shared) : Prop := ∃ x C σ H, e = .ref x ∧ Thr X pins σ H x C s ∧ R C σ H
def PEX (X : Cx) (e : Expr) (t : TEX) : Prop :=
  ∀ (pins : List (Addr × Obj)) (s : Shared) (σ : St) (H : Hp) (Q : VK) (R : XR), Inv X pins σ H s → t σ H Q R → wpAny (model X.prog X.w) X.A (eval e X.env) (EP X pins σ Q) (XP X pins R) s
def PSX (X : Cx) (st : Stmt) (t : TSX) : Prop :=
  ∀ (pins : List (Addr × Obj)) (s : Shared) (σ : St) (H : Hp) (D : Ends) (R : XR), Inv X pins σ H s → t D R σ H → wpAny (model X.prog X.w) X.A (exec st X.env) (SP X pins D) (XP X pins R) s
section
variable {X : Cx} {k : Nat} {f : Addr} {fd : FuncData} {ps : List Str} {sp : Sp} {x : Str} {p pos : Pos} {e : Expr} {es : List Expr} {t : TA}
def tCallX (sp : Sp) (t : TA) : TEX := fun σ H Q R => t σ H fun vs H1 => sp vs H1 Q fun c _ H2 => ∃ C, c = .ref C ∧ R C σ H2
theorem pex_call (F : FnOk X.prog X.w X.K X.mg X.base (CXw X.prog X.w) k f fd ps sp) (hr : Room k X.A) (hg : Gl X x) (hm : X.mg x = some (.ref f)) (hk : PySem.W.keepIn X.K (.ref f) = true) (hb : Binds X.K fd ps [])
    (ha : PA X.nox (e :: es) t) (hdb : (x == ("__debug__" : Str)) = false := by decide) (he : starEach (e :: es) X.env = (false, eval e X.env) :: starEach es X.env := by rfl) (hpl : (backTo pos (starEach es X.env)).any (·.1) = false := by rfl) :
    PEX X (.Call (.Name x p) (e :: es) [] pos) (tCallX sp t) := by
  intro pins s σ H Q R I h
  refine wpAny_Call_Name_kw (ld_glob I hg hm ?_ hdb)
  refine PySem.W.callWith_K (h₀ := X.base) I.ok.mod.kin hk (wpAny_mono (ha pos pins s σ H _ (I.wish _) h) (fun us s1 ⟨vs, H1, I1, r, q⟩ => ⟨I1.kIn, ?_⟩) fun _ _ z => False.elim z) he hpl
  have J := I1.unwish
  have hl : (us ++ []).length = ps.length := by rw [List.append_nil, ← r.length]; exact F.len _ _ _ _ q
  have hbb := hb s1 us J.kIn hl
  rw [List.append_nil] at hbb
  refine wpAny_call (codeAny_mono (F.run X.A X.stack s1 H1 ⟨us, []⟩ us vs Q _ hr J.env0 hbb r q) fun r s' hq => ?_)
  cases r with
  | error e =>
    have hq : CXw X.prog X.w X.stack H1 s1 (fun c _ H2 => ∃ C, c = Value.ref C ∧ R C σ H2) e s' := hq
    obtain ⟨x, C, H', rfl, th, C', e1, z⟩ := Thr.of J hq
    cases e1
    exact ⟨x, C, σ, H', rfl, th, z⟩
  | ok fl =>
    cases fl with
    | ret u => exact J.after hq
    | next => exact False.elim hq
    | brk => exact False.elim hq
    | cont => exact False.elim hq
def tDropX (te : TEX) : TSX := fun D R σ H => te σ H (fun _ H1 => D.nx σ H1) R
theorem psx_expr {te : TEX} (he : PEX X e te) (hs : swapsWith e none pos.line X.env = pure false := by rfl) : PSX X (.Expr e pos) (tDropX te) := by
  intro pins s σ H D R I h
  exact wpAny_Expr_any (thn (he pins s σ H _ R I h) fun v s1 ⟨x, H1, I1, r1, q1⟩ => ⟨σ, H1, I1, q1⟩) I.quiet hs
end
abbrev TH := Ends → Addr → St → Hp → Prop
def PH (X : Cx) (hs : List ExceptHandler) (t : TH) : Prop :=
  ∀ (pins : List (Addr × Obj)) (s : Shared) (σ : St) (H : Hp) (x C : Addr) (D : Ends), Thr X pins σ H x C s → t D C σ H → wpAny (model X.prog X.w) X.A (handleBy (.ref x) X.env hs) (SP X pins D) X.xe s
section
variable {X : Cx} {y n : Str} {Y : Addr} {np pos : Pos} {b₀ : Stmt} {suite : List Stmt} {rest : List ExceptHandler} {tb : TS} {tr : TH} {i : Nat}
theorem ExAt.looks {M : Model} {x C : Addr} {h : Heap} (p : ExAt x C h) : PySem.W.Looks M h (typeOf (.ref x)) (.ref C) := by
  refine L2.goal_let ?_
  intro q_
  obtain ⟨o, _, h1, h2, _⟩ := p
  dsimp only [q_]
  clear q_
  exact h2 ▸ (PySem.W.Looks.ld h1).andThen .now
def tHas (K : PySem.W.Frag) (Y : Addr) (i : Nat) (tb : TS) (tr : TH) : TH := fun D C σ H => ∃ b, PySem.W.exmOne K (.ref C) (.ref Y) = some b ∧
  if b = true then ∀ x, H x = none → tb { nx := fun σ' H' => D.nx (σ'.set i none) H', rt := D.rt, bk := fun σ' H' => D.bk (σ'.set i none) H', ct := fun σ' H' => D.ct (σ'.set i none) H' } (σ.set i (some (.ref x))) (upd H x (ExO x C)) else tr D C σ H
theorem ph_as (hN : X.N.Nodup) (hi : X.N[i]? = some n) (hx : X.env.scope.names.lookup n = some .local) (hg : Gl X y) (hm : X.mg y = some (.ref Y)) (hb : ∀ x, PSs (X.mkd x) (b₀ :: suite) tb) (hr : PH X rest tr) (hdb : (y == ("__debug__" : Str)) = false := by decide) :
    PH X (.ExceptHandler (some (.Name y np)) (some n) (b₀ :: suite) pos :: rest) (tHas X.K Y i tb tr) := by
  intro pins s σ H x C D th h
  obtain ⟨b, hb1, h⟩ := h
  have I := th.inv
  refine wpAny_handleBy_cons (codeAny_handlers_test ?_) (by intro q; cases q)
  refine ld_glob (X := X.mkd x) (I.mkd x) hg hm ?_ hdb
  refine PySem.W.exm_one I.kIn th.at.looks hb1 _ _ _ _ (fun _ _ e => e) ?_
  cases b with
  | false => exact hr pins s σ H x C D th h
  | true =>
    have h := h x th.none
    refine codeAny_handlers_suite_as (th.again fun h' th' => ?_)
    have J := th'.invX
    refine store_ok (X := X.mkd x) (J.mkd x) hN hi (.inl hx) (v := .ref x) rfl (fun s2 I2 => ?_) (.inr hx)
    refine wpAny_mono (hb x pins s2 _ _ _ I2 h) (fun fl s3 q => ?_) fun _ _ z => False.elim z
    show wpAny _ _ _ _ _ _
    cases fl with
    | next => obtain ⟨σ', H', I3, q⟩ := q; exact gone_ok (I3.unmkd I.ok) hN hi hx fun s4 I4 => ⟨_, _, I4, q⟩
    | brk => obtain ⟨σ', H', I3, q⟩ := q; exact gone_ok (I3.unmkd I.ok) hN hi hx fun s4 I4 => ⟨_, _, I4, q⟩
    | cont => obtain ⟨σ', H', I3, q⟩ := q; exact gone_ok (I3.unmkd I.ok) hN hi hx fun s4 I4 => ⟨_, _, I4, q⟩
    | ret u => obtain ⟨v, σ', H', I3, r, q⟩ := q; exact gone_ok (I3.unmkd I.ok) hN hi hx fun s4 I4 => ⟨v, _, _, I4, r, q⟩
def tHno : TH := fun _ _ _ _ => False
theorem ph_no : PH X rest tHno := fun _ _ _ _ _ _ _ _ h => h.elim
def tTry (t : TSX) (th : TH) : TS := fun D σ H => t D (fun C σ1 H1 => th D C σ1 H1) σ H
theorem ps_try {st : Stmt} {t : TSX} {h₀ : ExceptHandler} {hs : List ExceptHandler} {th : TH} (hst : X.stack = X.env :: X.outer) (hf : X.env.frame = some X.env.locals) (hb : PSX X st t) (hh : PH X (h₀ :: hs) th) :
    PS X (.Try [st] (h₀ :: hs) [] [] pos) (tTry t th) := by
  intro pins s σ H D I h
  refine wpAny_Try_except (wpAny_execs_cons (wpAny_mono (hb pins s σ H D _ I h) (fun fl s1 q => ?_) fun e s1 q => ?_))
  · cases fl with
    | next => exact wpAny_execs_nil (wpAny_execs_nil q)
    | ret v => exact q
    | brk => exact q
    | cont => exact q
  · refine L2.goal_let ?_
    intro q_
    obtain ⟨x, C, σ1, H1, rfl, th, q⟩ := q
    dsimp only [q_]
    clear q_
    exact th.look hst hf I.ok.frames fun h' th' => hh pins _ σ1 H1 x C D th' q
end
end L2
set_option Elab.async false
set_option linter.all false
set_option maxRecDepth 100000
set_option maxHeartbeats 4000000
namespace L2
open PySem PySem.Spec PyProof.Rows PySem.Calls PySem.W Builtin Builtin.ObjectAttr Builtin.Getset_descriptor
structure ExcI (K : PySem.W.Frag) (C : Addr) : Prop where
  ga : findIn K (.ref C) "__getattribute__" = some (some (.builtin "BaseException.__getattribute__"))
  gt : findIn K (.ref C) "__getattr__" = some none
  cl : isClsIn K C = true
  at_ : findIn K (.ref C) "__class__" = some (some (.builtin "object.__class__"))
  gs : specialIn K (.builtin "object.__class__") "__get__" = some (some (.builtin "getset_descriptor.__get__"))
  tk : takesIn K (.builtin "object.__class__") = some true
  mo : mroIn K C (.type "object") = some true
  be : subIn K (.ref C) (.type "BaseException") = some true
section
variable {prog : Program} {w : World} {A : Around} {E : Value → Shared → Prop} {s : Shared} {K : PySem.W.Frag} {x C : Addr}
theorem exc_class_get {R : Result → Shared → Prop} {tp : Value} (X : K.In s.heap) (L0 : Looks (model prog w) s.heap (typeOf (.ref x)) (.ref C)) (hm : mroIn K C (.type "object") = some true)
    (h : R (.ok (.ret (.ref C))) s) : codeAny (model prog w) A (.call (.builtin "getset_descriptor.__get__") ⟨[.builtin "object.__class__", .ref x, tp], []⟩) R s := by
  refine L2.goal_let ?_
  intro q_
  obtain ⟨hh, g, dr, t, os⟩ := s
  dsimp only [q_]
  clear q_
  have L1 := looks_mroIn (M := model prog w) X hm
  refine codeAny_call_builtin KF.slot_gs.plain KF.entry_gs (KF.slot_gs.check _ _ _ _ _ _ _ _ KF.type_class (KF.args_gs _ _ _) ?_)
  unfold Builtin.«getset_descriptor.__get__» descrGet
  rw [dga_obj]
  refine wpAny_bind (wpAny_pure ?_)
  unfold descrGetter descrCheckInstance descrNameAndClass isInstance
  simp only [KF.owner_class]
  repeat lk
  refine ⟨Code.quiet_builtin _ (by decide +kernel), codeAny_builtin KF.entry_class ?_⟩
  unfold Builtin.«object.__class__» shownTypeOf
  repeat lk
  exact h
theorem exc_check {M : Model} {nameV : Value} {Q : Unit → Shared → Prop} {h : Heap} {g : Array GenState} {d : Drawn} {t : Nat} {os : OsState} (L0 : Looks M h (typeOf (.ref x)) (.ref C)) (Lb : Looks M h (isSubtype (.ref C) (.type "BaseException")) true) (hq : Q () ⟨h, g, d, t, os⟩) :
    wpAny M A (checkBuiltinCall "BaseException.__getattribute__" ⟨[.ref x, nameV], []⟩) Q E ⟨h, g, d, t, os⟩ := by
  have hk : builtinKind "BaseException.__getattribute__" = some .slot := by decide +kernel
  have hsplit : splitId "BaseException.__getattribute__" = some ("BaseException", "__getattribute__") := by decide +kernel
  have ha := F.args_bexc_ga (.ref x) nameV
  have LI : Looks M h (isInstance (.ref x) (.type "BaseException")) true := L0.andThen Lb
  simp only [checkBuiltinCall, hk, hsplit]
  refine wpAny_bind (LI.at ?_)
  repeat (any_goals (first | assumption | wp_step))
theorem exc_class {Q : Option Value → Shared → Prop} (X : K.In s.heap) (p : ExAt x C s.heap) (hC : ExcI K C) (h : Q (some (.ref C)) { s with toks := s.toks + 1 }) : wpAny (model prog w) A (getAttr? (.ref x) "__class__") Q E s := by
  refine L2.goal_let ?_
  intro q_
  obtain ⟨hga, hgt, hc, ha, hn, htk, hm, hbe⟩ := hC
  dsimp only [q_]
  clear q_
  refine L2.goal_let ?_
  intro q_
  obtain ⟨hh, g, d, t, os⟩ := s
  dsimp only [q_]
  clear q_
  have L0 : Looks (model prog w) hh (typeOf (.ref x)) (.ref C) := p.looks
  have L1 := looks_findIn (M := model prog w) X hga
  have L2 := looks_findIn (M := model prog w) X hgt
  have Lb : Looks (model prog w) hh (isSubtype (.ref C) (.type "BaseException")) true := looks_subIn X hbe
  have La := looks_findIn (M := model prog w) X ha
  have Ln : Looks (model prog w) hh (getOf (some (.builtin "object.__class__"))) (some (.builtin "getset_descriptor.__get__")) := looks_specialIn X hn
  have Lt := looks_takesIn (M := model prog w) X htk
  have Lf : Looks (model prog w) hh (find (.ref x) (.ref C) "__class__") (.bind (.builtin "getset_descriptor.__get__") (.builtin "object.__class__")) :=
    La.andThen (Ln.andThen ((show Looks (model prog w) hh (dataDescriptor? (some (.builtin "object.__class__")) (some (.builtin "getset_descriptor.__get__"))) (some (.builtin "getset_descriptor.__get__", .builtin "object.__class__")) from Lt.andThen .now).andThen (Looks.tag .now)))
  have hx2 : (Value.builtin "BaseException.__getattribute__" == Value.builtin "object.__getattribute__") = false := by decide +kernel
  have hx1 : (onTheHeap (Value.ref C) && Value.builtin "BaseException.__getattribute__" == Value.builtin "object.__getattribute__") = false := by rw [hx2]; rfl
  have f3 := F.excAttr_ValueError.ga.bind (.ref x)
  unfold getAttr? getAttrBy? getAttrBy
  refine wpAny_bind (wpAny_mkText (wpAny_bind (wpAny_attempt (wpAny_holding (wpAny_bind (L0.at (wpAny_bind (L1.at ?_))))))))
  dsimp only
  rw [if_neg (by rw [hx1]; decide)]
  unfold getAttrByItsOwn hookBefore
  rw [if_pos (show onTheHeap (Value.ref C) = true from rfl)]
  refine wpAny_bind (L2.at (wpAny_bind (wpAny_attempt (wpAny_holding ?_))))
  unfold callGetattribute boundAndCalled
  rw [if_neg (by decide), f3]
  refine wpAny_bind (wpAny_pure ?_)
  show wpAny _ _ (call (.builtin "BaseException.__getattribute__") [.ref x, .str "__class__" t]) _ _ _
  refine wpAny_call (codeAny_call_builtin F.excAttr_ValueError.ga.plain F.entry_bexc_ga (exc_check L0 Lb ?_))
  unfold Builtin.«object.__getattribute__»
  repeat (any_goals (first | with_reducible refine wpAny_call (exc_class_get (s := ⟨hh, g, d, t + 1, os⟩) X L0 hm ?_) | lk))
  exact h
theorem kitx_exc (hC : ExcI K C) : KitX K (.ref x) (.ref C) (ExAt x C) where
  ty := fun _ _ _ p => p.looks
  it := fun _ _ X _ => by
    have hc : (clsIn K C).isSome = true := hC.cl
    unfold clsIn at hc
    split at hc
    · rename_i c' d' cd' sl' ho
      intro A' Q' E' s' k q
      unfold isType loadHead
      exact wpAny_bind (wpAny_loadPart (k _ _ (X _ _ ho)) (wpAny_pure q))
    · cases hc
  ne := fun h tp dd its n sl X htp => by
    have hc : (clsIn K C).isSome = true := hC.cl
    refine Bool.eq_false_iff.mpr fun q => ?_
    have e : C = tp := Value.ref.inj (beq_iff_eq.mp q)
    subst e
    unfold clsIn at hc
    split at hc
    · rename_i c' d' cd' sl' ho
      have z := (X _ _ ho).symm.trans htp
      cases z
    · cases hc
  ca := fun X p h => exc_class X p hC h
end
section
variable {X : Cx}
def vOf : V → Option Value
  | .ref a => some (.ref a)
  | .ty n => some (.type n)
  | _ => none
theorem vOf_rel {v : V} {u u' : Value} (h : vOf v = some u) (r : RelV v u') : u' = u := by
  cases v <;> first | (cases h; exact r) | cases h
def rIsiE (K : PySem.W.Frag) : List V → Hp → VK → Prop := fun xs H Q => ∃ x C y b, xs = [.ref x, y] ∧ H x = some (ExO x C) ∧ ExcI K C ∧
  ((∃ c, vOf y = some c ∧ PySem.W.kitOne K (.ref C) c = some b ∧ H x = some (ExO x C)) ∨ (∃ tp ys cs, y = .ref tp ∧ H tp = some (.tup ys) ∧ ys.map vOf = cs.map some ∧ PySem.W.kitAny K (.ref C) cs = some b)) ∧ Q (.bl b) H
theorem vals_of : ∀ {ys : List V} {cs its : List Value}, ys.map vOf = cs.map some → Vals ys its → its = cs
  | [], [], _, _, .nil => rfl
  | [], _ :: _, _, e, _ => by cases e
  | _ :: _, [], _, e, _ => by cases e
  | y :: ys, c :: cs, _, e, .cons r t => by
    simp only [List.map_cons, List.cons.injEq] at e
    rw [vOf_rel e.1 r, vals_of e.2 t]
theorem call_isiE : CallR X (.builtin "isinstance") (rIsiE X.K) := by
  intro pins s σ H xs us Q I r h
  refine L2.goal_let ?_
  intro q_
  obtain ⟨x, C, y, b, rfl, hx, hC, hy, q⟩ := h
  dsimp only [q_]
  clear q_
  obtain ⟨u, w', rfl, rx, ry⟩ := vals2 r
  cases rx
  obtain ⟨p, _, _⟩ := I.hok x _ hx
  have hne : (Value.ref x) ≠ .builtin "__main__.__loader__#opaque" := fun z => by cases z
  rcases hy with ⟨c, e1, e2, _⟩ | ⟨tp, ys, cs, rfl, e1, e2, e3⟩
  · have := vOf_rel e1 ry
    subst this
    exact kia_one (kitx_exc hC) I.kIn p e2 hne fun tk => ⟨.bl b, H, I.tok tk, rfl, q⟩
  · cases ry
    obtain ⟨_, its, rv, o, e4, e5⟩ := I.hok tp _ e1
    have e6 := vals_of e2 rv
    subst e6
    obtain ⟨oc, od, oda, osl⟩ := o
    obtain ⟨e5, n, e7⟩ := e5
    dsimp only at e5 e7
    subst e5 e7
    exact kia_tup (kitx_exc hC) I.kIn p e4 e3 hne fun tk => ⟨.bl b, H, I.tok tk, rfl, q⟩
end
end L2
set_option Elab.async false
set_option linter.all false
set_option maxRecDepth 100000
set_option maxHeartbeats 4000000
namespace L2
open PySem PySem.Spec PyProof.Rows
theorem passF {P : Program} {w : World} {X : Cx} : Passes (CXw P w) X (fun _ _ _ => False) := fun _ _ _ _ _ _ _ h => by
  refine L2.goal_let ?_
  intro q_
  obtain ⟨x, C, B, H', a0, _, _, _, _, _, _, _, _, q⟩ := h
  dsimp only [q_]
  clear q_
  exact q.elim
theorem noCX {P : Program} {w : World} {outer : List Env} {H : Hp} {s s' : Shared} {e : Value} (h : CXw P w outer H s (fun _ _ _ => False) e s') : False := by
  refine L2.goal_let ?_
  intro q_
  obtain ⟨x, C, B, H', a0, _, _, _, _, _, _, _, _, q⟩ := h
  dsimp only [q_]
  clear q_
  exact q
section
variable {P : Program} {w : World} {K : PySem.W.Frag} {mg : Str → Option Value} {base : Heap}
theorem Fun.okN {CX : CXT} {x qual : Str} {st : Stmt} {f : Addr} {fd : FuncData} {N ps : List Str} {k : Nat} {sp : Sp} (F : Fun K x qual st f fd) (S : FnScope N ps (defScope st)) (len : ∀ vs H Q E, sp vs H Q E → vs.length = ps.length)
    (hbody : ∀ (cdv : Value) (A : Around) (outer : List Env) (s : Shared) (H : Hp) (vs : List V) (Q : VK) (E : XK), Room k (A.deeper (envOfC qual (defScope st) s.heap.objs.size f cdv)) → sp vs H Q E →
      ∃ t, PSs (cxOf CX P w K mg base N qual (defScope st) f cdv A outer s H E).nox (defBody st) t ∧ t { nx := fun _ H' => Q .non H', rt := Q } (start N vs) H) : FnOk P w K mg base CX (k + 1) f fd ps sp := by
  obtain ⟨oc, od, kV, doc, pm, an, cdv, ct, osl, rfl, lk, hcd⟩ := F.ex
  refine fn_of lk hcd S len fun A outer s H vs Q E hr hsp => ?_
  obtain ⟨t, h1, h2⟩ := hbody cdv A outer s H vs Q E hr hsp
  exact ⟨t, h1.nox, h2⟩
end
end L2
set_option Elab.async false
set_option linter.all false
set_option maxRecDepth 100000
set_option maxHeartbeats 4000000
namespace L2
open PySem PySem.Spec PyProof.Rows
section
variable {X : Cx}
end
end L2
set_option Elab.async false
set_option linter.all false
set_option maxRecDepth 100000
set_option maxHeartbeats 4000000
namespace L2
open PySem PySem.Spec PyProof.Rows
section
variable {prog : Program} {w : World} {A : Around} {R : Result → Shared → Prop} {s : Shared}
theorem compLoopIf_go {elt target iter c : Expr} {scope : Scope} {pos : Pos} {it acc : Value} {env : Env} (I : Nat → Shared → Prop)
    (turn : ∀ n s, I n s → wpAny (model prog w) A (pyNext it) (fun r s₁ => match r with
      | none => R (.ok .next) s₁
      | some v => wpAny (model prog w) A (letOwnedTupleGo target it v) (fun _ s₀ => wpAny (model prog w) A (assign target env v) (fun _ s₂ => wpAny (model prog w) A (isTrue c env (eval c env)) (fun b s₅ =>
          match b with
          | true => wpAny (model prog w) A (eval elt env) (fun x s₃ => wpAny (model prog w) A (call (.builtin "list.append") [acc, x]) (fun _ s₄ => ∃ m, m < n ∧ I m s₄) (fun _ _ => False) s₃) (fun _ _ => False) s₅
          | false => ∃ m, m < n ∧ I m s₅) (fun _ _ => False) s₂) (fun _ _ => False) s₀) (fun _ _ => False) s₁) (fun _ _ => False) s)
    (n : Nat) (h : I n s) : codeAny (model prog w) A (.compLoop (.ListComp elt [⟨target, iter, [c], 0⟩] scope pos) 0 it acc env) R s := by
  refine codeAny_loop rfl I (fun n s hI => ?_) n h
  show wpAny _ _ ((compTurn (.ListComp elt [⟨target, iter, [c], 0⟩] scope pos) 0 it acc env).onRaise (fun x => do noteFrame x env; theTreesLotGoes x)) _ _ s
  refine wpAny_noted ?_
  rw [compTurn_list]
  refine wpAny_bind (wpAny_standAt (wpAny_bind (wpAny_mono (turn n s hI) (fun r s₁ h₁ => ?_) fun _ _ h' => h'.elim)))
  cases r with
  | none => exact wpAny_pure h₁
  | some v =>
    refine wpAny_bind (wpAny_mono h₁ (fun _ s₀ h₀ => ?_) fun _ _ h' => h'.elim)
    refine wpAny_bind (wpAny_mono h₀ (fun _ s₂ h₂ => wpAny_bind (wpAny_tests_one (wpAny_mono h₂ (fun ok s₃ h₃ => ?_) fun _ _ h' => h'.elim))) fun _ _ h' => h'.elim)
    cases ok with
    | false => exact wpAny_pure ⟨rfl, h₃⟩
    | true =>
      exact wpAny_bind (wpAny_bind (wpAny_mono h₃ (fun x s₄ h₄ => wpAny_bind (wpAny_mono h₄ (fun _ s₅ h₅ => wpAny_pure (wpAny_pure ⟨rfl, h₅⟩)) fun _ _ h' => h'.elim)) fun _ _ h' => h'.elim))
end
def CompGoIf (tt : TT) (te : TE) (fv : St) (Q : VK) (J : It) (H1 : Hp) : Prop := ∃ W : Nat → Nat → List V → Hp → Prop, (∃ m, W 0 m [] H1) ∧ ∀ i m ys H2, W i m ys H2 →
  (J.stop i H2 ∧ ys.length ≤ sizeLine ∧ ∀ D, H2 D = none → Q (.ref D) (upd H2 D (.lst ys))) ∨
  (J.go i H2 ∧ ys.length < sizeLine ∧ ∀ x H3, J.yld i H2 x H3 → tt (some x :: fv) H3 fun b H4 => match b with
    | true => te (some x :: fv) H4 fun y H5 => ∃ m', m' < m ∧ W (i + 1) m' (ys ++ [y]) H5
    | false => ∃ m', m' < m ∧ W (i + 1) m' ys H4)
def tCompIf (wi : TI) (fv : St → St) (tt : TT) (te : TE) : TE := fun σ H Q => wi σ H (CompGoIf tt te (fv σ) Q)
section
variable {X : Cx} {elt iter cnd : Expr} {x : Str} {px pos : Pos} {scope : Scope} {cl : List (Str × Addr)} {fns : List Str} {ixs : List Nat} {wi : TI} {tt : TT} {te : TE}
end
end L2
set_option Elab.async false
set_option linter.all false
set_option maxRecDepth 10000
set_option maxHeartbeats 400000
namespace L2
open PySem PySem.Spec PyProof.Rows
section
variable {X : Cx}
end
end L2
set_option Elab.async false
set_option linter.all false
set_option maxRecDepth 100000
set_option maxHeartbeats 4000000
namespace L2
open PySem PySem.Spec PyProof.Rows
section
variable {X : Cx}
end
end L2
set_option Elab.async false
set_option linter.all false
set_option maxRecDepth 100000
set_option maxHeartbeats 4000000
namespace L2
open PySem PySem.Spec PyProof.Rows
section
variable {X : Cx} {tg : Expr}
end
end L2
set_option Elab.async false
set_option linter.all false
set_option maxRecDepth 100000
set_option maxHeartbeats 4000000
namespace L2
open PySem PySem.Spec PyProof.Rows
section
variable {X : Cx} {elt iter cnd : Expr} {x : Str} {px pos : Pos} {scope : Scope} {cl : List (Str × Addr)} {fns : List Str} {ixs : List Nat} {wi : TI} {tt : TT} {te : TE}
theorem ps_setComp {iy : Nat} {y : Str} {py spos : Pos} (hN : X.N.Nodup) (hiy : X.N[iy]? = some y) (hy : Loc X.env.scope y) (hc : X.calm = true) (hi : PI X (.Name x px) iter wi) (S : CompScope X x fns ixs scope cl)
    (he : ∀ (C : Addr) (s : Shared) (H : Hp) (ex : List Addr), PE (cxComp X (x :: fns) scope cl C s H ex) elt te)
    (hs : ∀ x, foldedSetIterable iter X.env x = pure x := by intro _; rfl) (hsw : swapsWith (.ListComp elt [⟨.Name x px, iter, [], 0⟩] scope pos) (some (.Name y py)) spos.line X.env = pure true := by rfl)
    (hfy : X.fn y = true ∨ X.env.scope.names.lookup y = some .local := by first | exact .inl rfl | exact .inr rfl | assumption) :
    PS X (.Assign [.Name y py] (.ListComp elt [⟨.Name x px, iter, [], 0⟩] scope pos) spos) (tAsg (tComp wi (fvOf ixs) te) (gName iy)) := by
  intro pins s σ H DD I h
  rw [exec_Assign_Name_used _ _ _ _ hsw]
  refine wpAny_bind (wpAny_standAt (wpAny_bind ?_))
  show wpAny _ X.A (do let _ ← comprehension (.ListComp elt [⟨.Name x px, iter, [], 0⟩] scope pos) scope X.env _ (newList []) false (eval iter X.env) (some (assign (.Name y py) X.env))) _ _ s
  refine wpAny_bind (wpAny_mono (wpAny_comprehension_free (use := some (assign (.Name y py) X.env)) (Q := fun _ s' => SP X pins DD .next s') rfl hs S.clos S.kind S.names (thn (hi pins s σ H _ I h) fun v s1 h1 => thn h1 fun itv s2 h2 => ?_)) (fun _ s' hq => wpAny_pure (wpAny_pure hq)) fun _ _ e => e)
  refine L2.goal_let ?_
  intro q_
  obtain ⟨it, fp, tn, J, H2, e, I2, T, st2, f2, W, ⟨m0, w0⟩, turn⟩ := h2
  dsimp only [q_]
  clear q_
  subst e
  have hfpLt : ∀ b ∈ fp, b < s2.heap.objs.size := fun b hb => by
    obtain ⟨o, ho, _⟩ := T.obj _ _ st2 b hb
    exact Heap.lt_size ho
  refine wpAny_newObj_type (wpAny_newFunctionEnv S.cell (by intro y hy; simp at hy) (fun h₁ hns₁ hsb₁ => ?_) S.kind)
  dsimp only at hns₁ hsb₁ ⊢
  generalize hH3 : s2.heap.push { cls := .type "list", dict := none, data := .seq ([] : List Value).toArray } = hp3 at hns₁ hsb₁ ⊢
  generalize hD : s2.heap.objs.size = D at hfpLt ⊢
  have hC : hp3.objs.size = D + 1 := by rw [← hH3, Heap.size_push, hD]
  generalize hCe : hp3.objs.size = C at hC hns₁ hsb₁ ⊢
  have hDltC : D < C := by omega
  have hDC : D ≠ C := Nat.ne_of_lt hDltC
  have k23 : ∀ b u, s2.heap.get? b = some u → hp3.get? b = some u := fun b u q => by rw [← hH3]; exact Heap.get?_push_of_some _ q
  have ltD : ∀ {b u}, s2.heap.get? b = some u → b < D := fun q => by rw [← hD]; exact Heap.lt_size q
  have k34 : ∀ b u, hp3.get? b = some u → h₁.get? b = some u := fun b u q =>
    hsb₁.extBut b u (Nat.ne_of_lt (Nat.lt_of_lt_of_le (Heap.lt_size q) (Nat.le_of_eq hCe))) (Heap.get?_push_of_some _ q)
  have hDo : hp3.get? D = some { cls := .type "list", dict := none, data := .seq ([] : List Value).toArray } := by rw [← hH3, ← hD]; exact Heap.get?_push_size _ rfl
  have I3 : Inv X pins σ H2 { s2 with heap := hp3 } := I2.kept (t' := s2.toks) k23
  have hnD : H2 D = none := I2.hok.fresh (by omega)
  have hnC : H2 C = none := I2.hok.fresh (by omega)
  have nstk : ∀ b ∈ D :: fp, b ∉ frs X.stack := fun b hb z => by
    rcases List.mem_cons.mp (I2.stkSub b z) with e | z
    · rcases List.mem_cons.mp hb with e2 | hb
      · exact absurd I2.lt (by rw [← e, e2, ← hD]; exact Nat.lt_irrefl _)
      · exact (f2 b hb).2.1 e
    · rcases List.mem_cons.mp hb with e2 | hb
      · exact I2.nofs (by rw [e2, ← hD]; exact Nat.le_refl _) z
      · exact (f2 b hb).2.2.1 z
  have cne : ∀ y c, cl.lookup y = some c → ∀ b ∈ D :: fp, c ≠ b := fun y c q b hb z => by
    obtain ⟨v, hv⟩ := I2.cell y c (S.sub y c q)
    rcases List.mem_cons.mp hb with e2 | hb
    · exact absurd hv.lt (by rw [z, e2, ← hD]; exact Nat.lt_irrefl _)
    · exact (f2 b hb).2.2.2.2.1 y c (S.sub y c q) z
  -- the block's context
  let Xc : Cx := cxComp X (x :: fns) scope cl C { s2 with heap := hp3 } H2 (D :: fp)
  have ok : Xc.Ok := {
    mod := I2.ok.mod
    kind := S.kind
    glob := I2.ok.glob
    blt := I2.ok.blt
    above := by show hp3.objs.size ≤ C; omega
    inj := fun y z c q1 q2 => I2.ok.inj y z c (S.sub _ _ q1) (S.sub _ _ q2)
    has := S.has
    cab := fun y c q => nomatch q
    hd := I2.ok.hd
    frames := I2.ok.frames
    stk := .inl rfl
    exf := fun b hb => ⟨by
      rcases List.mem_cons.mp hb with e2 | hb
      · rw [e2]; exact hDC
      · exact Nat.ne_of_lt (Nat.lt_trans (hfpLt b hb) hDltC), fun y c q => cne y c q b hb⟩
    bs := I3.bs
    bsz := Nat.le_trans I3.ok.bsz I3.sz
    noex := fun b o q hb => by
      rcases List.mem_cons.mp hb with e2 | hb
      · exact absurd (ltD (I2.bs b o q).1) (by rw [e2]; exact Nat.lt_irrefl _)
      · rcases (f2 b hb).2.2.2.1 with z | z
        · exact I2.ok.noex b o q z
        · exact absurd (Heap.lt_size (I2.ok.bs b o q).1) (Nat.not_lt.mpr z)
    exfs := nstk
    funs := I3.stack
    frf := I3.stkFree }
  have start : ∀ (v0 : Option V) , v0 = none → Inv Xc [(D, { cls := .type "list", dict := none, data := .seq ([] : List Value).toArray })] (v0 :: fvOf ixs σ) H2 { s2 with heap := h₁, toks := s2.toks + ([] : List (Str × Value)).length } := fun v0 hv0 => {
    ok := ok
    os := rfl
    bare := I2.bare
    base := Un.kept k34
    loc := ⟨_, hns₁, fun i y v e1 e2 e3 => by
      cases i with
      | zero => rw [hv0] at e2; cases e2
      | succ j =>
        have e1' : fns[j]? = some y := e1
        have e2' : (fvOf ixs σ)[j]? = some (some v) := e2
        obtain ⟨i, hi1, hi2, hk, c, hc1, hc2⟩ := S.at_ j y e1'
        unfold fvOf at e2'
        rw [List.getElem?_map, hi1] at e2'
        have e3' : σ[i]? = some (some v) := by
          have z : (σ[i]?).join = some v := Option.some.inj e2'
          cases q : σ[i]? with
          | none => rw [q] at z; cases z
          | some o => rw [q] at z; rw [show o = some v from z]
        obtain ⟨m, _, hl⟩ := I2.loc
        obtain ⟨u, r, l⟩ := hl i y v hi2 e3' (hk.elim (fun z => .inr (.inl z)) fun z => .inr (.inr z))
        refine ⟨u, r, .inr ⟨hc2, c, hc1, ?_⟩⟩
        rcases l with ⟨z, _⟩ | ⟨_, c', hc', hcell⟩
        · rcases hk with hk | hk <;> (rw [hk] at z; cases z)
        · have : c' = c := Option.some.inj (hc'.symm.trans (S.sub _ _ hc1))
          subst this
          obtain ⟨o, ho, hd⟩ := hcell
          exact ⟨o, k34 _ _ (k23 _ _ ho), hd⟩⟩
    cell := fun y c q => by
      obtain ⟨v, o, ho, hd⟩ := I2.cell y c (S.sub y c q)
      exact ⟨v, o, k34 _ _ (k23 _ _ ho), hd⟩
    free := hnC
    freeC := fun y c q => I2.freeC y c (S.sub y c q)
    pin := fun p hp => by
      have hp' : p = (D, { cls := .type "list", dict := none, data := .seq ([] : List Value).toArray }) := by simpa [Xc, cxComp] using hp
      subst hp'
      exact ⟨k34 _ _ hDo, hnD, hDC, nstk D (List.mem_cons_self ..), fun v z => nomatch z⟩
    hok := (I2.hok.kept k23).kept k34
    len := by show (v0 :: fvOf ixs σ).length = (x :: fns).length; simp [fvOf, S.len] }
  -- what stays true of the iterator's objects
  have fpc : ∀ {H' : Hp} {pins' : List (Addr × Obj)}, (∀ b ∈ fp, H' b = none) → (∀ p ∈ pins', p.1 = D) → ∀ b ∈ fp, FpOk Xc pins' H' b := fun {H' pins'} hn hp b hb =>
    ⟨hn b hb, Nat.ne_of_lt (Nat.lt_trans (hfpLt b hb) hDltC), nstk b (List.mem_cons_of_mem _ hb), .inl (List.mem_cons_of_mem _ hb), fun y c q => cne y c q b (List.mem_cons_of_mem _ hb), fun p q => by
      have q' : p ∈ pins' := by simpa [Xc, cxComp] using q
      rw [hp p q']
      exact Nat.ne_of_gt (hfpLt b hb)⟩
  let RR_ : Result → Shared → Prop := compPost (model X.prog X.w) X.A X.xe (some (assign (.Name y py) X.env)) (fun _ s' => SP X pins DD .next s') (.ref D) C
  have loop : codeAny (model X.prog X.w) X.A (.compLoop (.ListComp elt [⟨.Name x px, iter, [], 0⟩] scope pos) 0 (.ref it) (.ref D) (compEnvC scope cl C X.env))
      RR_ { s2 with heap := h₁, toks := s2.toks + ([] : List (Str × Value)).length } := by
    let II_ : Nat → Shared → Prop := fun n s' => ∃ (i : Nat) (ys : List V) (its : List Value) (nn : Nat) (v0 : Option V) (H' : Hp), Inv Xc [(D, { cls := .type "list", dict := none, data := .seq its.toArray nn })] (v0 :: fvOf ixs σ) H' s' ∧ tn i s'.heap ∧ (∀ b ∈ fp, H' b = none) ∧ Vals ys its ∧ W i n ys H'
    refine compLoop_go II_ ?_ m0
      ⟨0, [], [], 0, none, H2, start none rfl, T.keep _ _ _ st2 fun b _ o q => k34 _ _ (k23 _ _ q), fun b hb => (f2 b hb).1, .nil, w0⟩
    intro n s3 hh_
    refine L2.goal_let ?_
    intro q_
    obtain ⟨i, ys, its, nn, v0, H3, J3, tn3, fr3, vv, w3⟩ := hh_
    dsimp only [q_]
    clear q_
    have pinD : ∀ p ∈ ([(D, ({ cls := .type "list", dict := none, data := .seq its.toArray nn } : Obj))] : List (Addr × Obj)), p.1 = D := fun p hp => by
      have : p = (D, { cls := .type "list", dict := none, data := .seq its.toArray nn }) := by simpa using hp
      rw [this]
    rcases turn i n ys H3 w3 with ⟨stop, hlen, q⟩ | ⟨go, hlen, step⟩
    · -- the end
      refine thn (T.done Xc rfl rfl rfl hc i _ s3 _ H3 _ J3 (fpc fr3 pinD) tn3 stop) fun r s4 hh_ => ?_
      refine L2.goal_let ?_
      intro q_
      obtain ⟨hr, J4⟩ := hh_
      dsimp only [q_]
      clear q_
      subst hr
      obtain ⟨m, hn, _⟩ := J4.loc
      generalize hh4 : s4.heap = h''
      have hsb : Heap.SameBut C s4.heap h'' := by rw [← hh4]; exact ⟨rfl, fun _ _ => rfl⟩
      obtain ⟨gD, nD, _, _, _⟩ := J4.pin (D, { cls := .type "list", dict := none, data := .seq its.toArray nn }) (by simp [Xc, cxComp])
      have B := J4.base
      have kC : ∀ b u, b ≠ C → s4.heap.get? b = some u → h''.get? b = some u := fun b u hb q => (hsb.2 b hb).trans q
      have ne : ∀ {b o}, s2.heap.get? b = some o → b ≠ C ∧ b ≠ D := fun q => ⟨Nat.ne_of_lt (Nat.lt_trans (ltD q) hDltC), Nat.ne_of_lt (ltD q)⟩
      have nex : ∀ {b o}, s2.heap.get? b = some o → b ∉ fp → b ∉ D :: fp := fun q hx z => (List.mem_cons.mp z).elim (ne q).2 hx
      have uu : Un (frs X.stack) fp H2 (upd H3 D (.lst ys)) s2.heap h'' := {
        keep := fun b o q n hb hx => kC b o (ne q).1 (B.keep b o (k23 b o q) n hb (nex q hx))
        slot := fun b o q n hb hx => by
          obtain ⟨sl, e⟩ := B.slot b o (k23 b o q) n hb (nex q hx)
          exact ⟨sl, kC b _ (ne q).1 e⟩
        free := fun b o q n hx => by rw [upd_ne (ne q).2]; exact B.free b o (k23 b o q) n (nex q hx)
        there := fun b o q hx => by
          obtain ⟨o', e⟩ := B.there b o (k23 b o q) (nex q hx)
          exact ⟨o', kC b _ (ne q).1 e⟩
        tups := fun b xs q => by rw [upd_ne (ne_of_none q hnD)]; exact B.tups b xs q
        frzs := fun b o xs q => by rw [upd_ne (ne_of_none q hnD)]; exact B.frzs b o xs q
        tbls := fun b ps q => by
          obtain ⟨more, e⟩ := B.tbls b ps q
          exact ⟨more, by rw [upd_ne (ne_of_none q hnD)]; exact e⟩ }
      have hok : HOk X.prog X.w (upd H3 D (.lst ys)) h'' := fun b u e => by
        by_cases hb : b = D
        · subst hb
          rw [upd_same] at e
          cases e
          exact ⟨hlen, its, nn, vv, kC _ _ hDC gD⟩
        · rw [upd_ne hb] at e
          refine (J4.hok b u e).stay (fun c v hc q => kC c v ?_ q) (fun c q => by rw [upd_ne (ne_of_none q nD)]; exact q) fun c xs q => by rw [upd_ne (ne_of_none q nD)]; exact q
          have fC : H3 C = none := J4.free
          rcases hc with rfl | hc
          · exact ne_of_none e fC
          · exact ne_of_none hc fC
      have I5 : Inv X pins σ (upd H3 D (.lst ys)) s4 := I2.call' (s' := s4) J4.os (by rw [hh4]; exact uu) (by rw [hh4]; exact hok) J4.bare (fun b hb => ⟨(f2 b hb).2.2.2.1, (f2 b hb).2.1, (f2 b hb).2.2.2.2.1, (f2 b hb).2.2.2.2.2⟩)
      show wpAny _ X.A (assign (.Name y py) X.env (.ref D)) _ _ _
      have cL : X.env.locals ≠ C := fun z => by
        have h1 := I2.lt
        rw [hD, z] at h1
        exact absurd (Nat.lt_trans h1 hDltC) (Nat.lt_irrefl _)
      have cC : ∀ z c, X.env.cells.lookup z = some c → c ≠ C := fun z c hz e => by
        obtain ⟨v, hv⟩ := I2.cell z c hz
        have h1 := hv.lt
        rw [hD, e] at h1
        exact absurd (Nat.lt_trans h1 hDltC) (Nat.lt_irrefl _)
      have hCn : upd H3 D (.lst ys) C = none := by
        rw [upd_ne (Ne.symm hDC)]
        exact J4.free
      refine wpAny_assign_Name (store_ok2 I5 hN hiy hy (v := .ref D) rfl (fun s5 I6 hsame => ?_) hfy)
      obtain ⟨a5, sb5, ha5⟩ := hsame
      have neC : C ≠ a5 := by
        rcases ha5 with e | e
        · rw [e]; exact Ne.symm cL
        · exact Ne.symm (cC y a5 e)
      refine ⟨m, hn.sameBut sb5 neC, fun h6 sb6 => ?_⟩
      refine ⟨_, _, I6.turned (t' := s5.toks) (it := C) (fun b o hb e => (sb6.2 b hb).trans e) hCn (Ne.symm cL) (.inr (by
        have := I2.sz
        rw [hD] at this
        exact Nat.le_trans this (Nat.le_of_lt hDltC))) cC (fun p hp z => ?_), q D nD⟩
      have hlt := Heap.lt_size (I2.pin p hp).1
      rw [hD, z] at hlt
      exact absurd (Nat.lt_trans hlt hDltC) (Nat.lt_irrefl _)
    · -- a turn
      refine thn (T.item Xc rfl rfl rfl hc i _ s3 _ H3 _ J3 (fpc fr3 pinD) tn3 go) fun r s4 hh_ => ?_
      refine L2.goal_let ?_
      intro q_
      obtain ⟨u, hr, h4⟩ := hh_
      dsimp only [q_]
      clear q_
      subst hr
      refine thn h4 fun _ s5 hh_ => ?_
      refine L2.goal_let ?_
      intro q_
      obtain ⟨xv, H5, J5, r5, y5, tn5, fr5⟩ := hh_
      dsimp only [q_]
      clear q_
      have J5' := J5.pinned (fpc fr5 pinD) (T.obj _ _ tn5)
      have hg : PG Xc (.Name x px) (gName 0) := pg_name (X := Xc) (i := 0) S.nd rfl (.inl (relabel_own S.own)) (.inr (relabel_own S.own))
      refine thn (hg _ s5 _ H5 xv u (fun σ' H' => σ' = some xv :: fvOf ixs σ ∧ H' = H5) J5' r5 ⟨rfl, rfl⟩) fun _ s6 hh_ => ?_
      refine L2.goal_let ?_
      intro q_
      obtain ⟨σ6, H6, J6, e6, e6'⟩ := hh_
      dsimp only [q_]
      clear q_
      subst e6 e6'
      refine thn (he C { s2 with heap := hp3 } H2 (D :: fp) _ s6 _ H6 _ J6 (step xv H6 y5)) fun yv s7 hh_ => ?_
      refine L2.goal_let ?_
      intro q_
      obtain ⟨y, H7, J7, r7, m', hm', w7⟩ := hh_
      dsimp only [q_]
      clear q_
      obtain ⟨gD, nD, _, _, _⟩ := J7.pin (D, { cls := .type "list", dict := none, data := .seq its.toArray nn }) (by simp [Xc, cxComp])
      have tn7 : tn (i + 1) s7.heap := T.keep _ _ _ tn5 fun b hb o e => (J7.pin (b, o) (List.mem_append_right _ (List.mem_append_right _ (mem_pinsAt hb e)))).1
      have fr7 : ∀ b ∈ fp, H7 b = none := fun b hb => by
        obtain ⟨o, e, d⟩ := T.obj _ _ tn5 b hb
        exact (J7.pin (b, o) (List.mem_append_right _ (List.mem_append_right _ (mem_pinsAt hb e)))).2.1
      have J7' : Inv Xc [] (some xv :: fvOf ixs σ) H7 s7 := J7.pins_of fun p hp => nomatch hp
      refine wpAny_list_append_plain (hsz := by rw [List.size_toArray, ← vv.length]; omega) ⟨nn, gD⟩ fun h8 pl8 sb8 => ?_
      obtain ⟨n8, g8⟩ := pl8
      have J8 : Inv Xc [] (some xv :: fvOf ixs σ) H7 { s7 with heap := h8 } := J7'.turned (t' := s7.toks) (it := D) (fun b o hb e => (sb8.2 b hb).trans e) nD (hDC) (.inl (List.mem_cons_self ..))
        (fun y c q => cne y c q D (List.mem_cons_self ..)) (fun p hp => by simp [Xc, cxComp] at hp)
      refine ⟨m', hm', i + 1, ys ++ [y], its ++ [yv], n8, some xv, H7, J8.pins_of fun p hp => ?_, ?_, fr7, vv.append (.cons r7 .nil), w7⟩
      · have : p = (D, { cls := .type "list", dict := none, data := .seq (its ++ [yv]).toArray n8 }) := by simpa using hp
        subst this
        refine ⟨?_, nD, hDC, nstk D (List.mem_cons_self ..), fun v z => nomatch z⟩
        have : its.toArray.push yv = (its ++ [yv]).toArray := by simp
        rw [this] at g8
        exact g8
      · exact T.keep _ _ _ tn7 fun b hb o e => (sb8.2 b (Nat.ne_of_lt (hfpLt b hb))).trans e
  exact codeAny_compStart_list loop (T.self _ 0 _ _ _ (T.keep _ _ _ st2 fun b _ o q => k34 _ _ (k23 _ _ q)) loop)
theorem ps_setCompIf {iy : Nat} {y : Str} {py spos : Pos} (hN : X.N.Nodup) (hiy : X.N[iy]? = some y) (hy : Loc X.env.scope y) (hc : X.calm = true) (hi : PI X (.Name x px) iter wi) (S : CompScope X x fns ixs scope cl)
    (ht : ∀ (C : Addr) (s : Shared) (H : Hp) (ex : List Addr), PT (cxComp X (x :: fns) scope cl C s H ex) cnd tt) (he : ∀ (C : Addr) (s : Shared) (H : Hp) (ex : List Addr), PE (cxComp X (x :: fns) scope cl C s H ex) elt te)
    (hs : ∀ x, foldedSetIterable iter X.env x = pure x := by intro _; rfl) (hsw : swapsWith (.ListComp elt [⟨.Name x px, iter, [cnd], 0⟩] scope pos) (some (.Name y py)) spos.line X.env = pure true := by rfl)
    (hfy : X.fn y = true ∨ X.env.scope.names.lookup y = some .local := by first | exact .inl rfl | exact .inr rfl | assumption) :
    PS X (.Assign [.Name y py] (.ListComp elt [⟨.Name x px, iter, [cnd], 0⟩] scope pos) spos) (tAsg (tCompIf wi (fvOf ixs) tt te) (gName iy)) := by
  intro pins s σ H DD I h
  rw [exec_Assign_Name_used _ _ _ _ hsw]
  refine wpAny_bind (wpAny_standAt (wpAny_bind ?_))
  show wpAny _ X.A (do let _ ← comprehension (.ListComp elt [⟨.Name x px, iter, [cnd], 0⟩] scope pos) scope X.env _ (newList []) false (eval iter X.env) (some (assign (.Name y py) X.env))) _ _ s
  refine wpAny_bind (wpAny_mono (wpAny_comprehension_free (use := some (assign (.Name y py) X.env)) (Q := fun _ s' => SP X pins DD .next s') rfl hs S.clos S.kind S.names (thn (hi pins s σ H _ I h) fun v s1 h1 => thn h1 fun itv s2 h2 => ?_)) (fun _ s' hq => wpAny_pure (wpAny_pure hq)) fun _ _ e => e)
  refine L2.goal_let ?_
  intro q_
  obtain ⟨it, fp, tn, J, H2, e, I2, T, st2, f2, W, ⟨m0, w0⟩, turn⟩ := h2
  dsimp only [q_]
  clear q_
  subst e
  have hfpLt : ∀ b ∈ fp, b < s2.heap.objs.size := fun b hb => by
    obtain ⟨o, ho, _⟩ := T.obj _ _ st2 b hb
    exact Heap.lt_size ho
  refine wpAny_newObj_type (wpAny_newFunctionEnv S.cell (by intro y hy; simp at hy) (fun h₁ hns₁ hsb₁ => ?_) S.kind)
  dsimp only at hns₁ hsb₁ ⊢
  generalize hH3 : s2.heap.push { cls := .type "list", dict := none, data := .seq ([] : List Value).toArray } = hp3 at hns₁ hsb₁ ⊢
  generalize hD : s2.heap.objs.size = D at hfpLt ⊢
  have hC : hp3.objs.size = D + 1 := by rw [← hH3, Heap.size_push, hD]
  generalize hCe : hp3.objs.size = C at hC hns₁ hsb₁ ⊢
  have hDltC : D < C := by omega
  have hDC : D ≠ C := Nat.ne_of_lt hDltC
  have k23 : ∀ b u, s2.heap.get? b = some u → hp3.get? b = some u := fun b u q => by rw [← hH3]; exact Heap.get?_push_of_some _ q
  have ltD : ∀ {b u}, s2.heap.get? b = some u → b < D := fun q => by rw [← hD]; exact Heap.lt_size q
  have k34 : ∀ b u, hp3.get? b = some u → h₁.get? b = some u := fun b u q =>
    hsb₁.extBut b u (Nat.ne_of_lt (Nat.lt_of_lt_of_le (Heap.lt_size q) (Nat.le_of_eq hCe))) (Heap.get?_push_of_some _ q)
  have hDo : hp3.get? D = some { cls := .type "list", dict := none, data := .seq ([] : List Value).toArray } := by rw [← hH3, ← hD]; exact Heap.get?_push_size _ rfl
  have I3 : Inv X pins σ H2 { s2 with heap := hp3 } := I2.kept (t' := s2.toks) k23
  have hnD : H2 D = none := I2.hok.fresh (by omega)
  have hnC : H2 C = none := I2.hok.fresh (by omega)
  have nstk : ∀ b ∈ D :: fp, b ∉ frs X.stack := fun b hb z => by
    rcases List.mem_cons.mp (I2.stkSub b z) with e | z
    · rcases List.mem_cons.mp hb with e2 | hb
      · exact absurd I2.lt (by rw [← e, e2, ← hD]; exact Nat.lt_irrefl _)
      · exact (f2 b hb).2.1 e
    · rcases List.mem_cons.mp hb with e2 | hb
      · exact I2.nofs (by rw [e2, ← hD]; exact Nat.le_refl _) z
      · exact (f2 b hb).2.2.1 z
  have cne : ∀ y c, cl.lookup y = some c → ∀ b ∈ D :: fp, c ≠ b := fun y c q b hb z => by
    obtain ⟨v, hv⟩ := I2.cell y c (S.sub y c q)
    rcases List.mem_cons.mp hb with e2 | hb
    · exact absurd hv.lt (by rw [z, e2, ← hD]; exact Nat.lt_irrefl _)
    · exact (f2 b hb).2.2.2.2.1 y c (S.sub y c q) z
  -- the block's context
  let Xc : Cx := cxComp X (x :: fns) scope cl C { s2 with heap := hp3 } H2 (D :: fp)
  have ok : Xc.Ok := {
    mod := I2.ok.mod
    kind := S.kind
    glob := I2.ok.glob
    blt := I2.ok.blt
    above := by show hp3.objs.size ≤ C; omega
    inj := fun y z c q1 q2 => I2.ok.inj y z c (S.sub _ _ q1) (S.sub _ _ q2)
    has := S.has
    cab := fun y c q => nomatch q
    hd := I2.ok.hd
    frames := I2.ok.frames
    stk := .inl rfl
    exf := fun b hb => ⟨by
      rcases List.mem_cons.mp hb with e2 | hb
      · rw [e2]; exact hDC
      · exact Nat.ne_of_lt (Nat.lt_trans (hfpLt b hb) hDltC), fun y c q => cne y c q b hb⟩
    bs := I3.bs
    bsz := Nat.le_trans I3.ok.bsz I3.sz
    noex := fun b o q hb => by
      rcases List.mem_cons.mp hb with e2 | hb
      · exact absurd (ltD (I2.bs b o q).1) (by rw [e2]; exact Nat.lt_irrefl _)
      · rcases (f2 b hb).2.2.2.1 with z | z
        · exact I2.ok.noex b o q z
        · exact absurd (Heap.lt_size (I2.ok.bs b o q).1) (Nat.not_lt.mpr z)
    exfs := nstk
    funs := I3.stack
    frf := I3.stkFree }
  have start : ∀ (v0 : Option V) , v0 = none → Inv Xc [(D, { cls := .type "list", dict := none, data := .seq ([] : List Value).toArray })] (v0 :: fvOf ixs σ) H2 { s2 with heap := h₁, toks := s2.toks + ([] : List (Str × Value)).length } := fun v0 hv0 => {
    ok := ok
    os := rfl
    bare := I2.bare
    base := Un.kept k34
    loc := ⟨_, hns₁, fun i y v e1 e2 e3 => by
      cases i with
      | zero => rw [hv0] at e2; cases e2
      | succ j =>
        have e1' : fns[j]? = some y := e1
        have e2' : (fvOf ixs σ)[j]? = some (some v) := e2
        obtain ⟨i, hi1, hi2, hk, c, hc1, hc2⟩ := S.at_ j y e1'
        unfold fvOf at e2'
        rw [List.getElem?_map, hi1] at e2'
        have e3' : σ[i]? = some (some v) := by
          have z : (σ[i]?).join = some v := Option.some.inj e2'
          cases q : σ[i]? with
          | none => rw [q] at z; cases z
          | some o => rw [q] at z; rw [show o = some v from z]
        obtain ⟨m, _, hl⟩ := I2.loc
        obtain ⟨u, r, l⟩ := hl i y v hi2 e3' (hk.elim (fun z => .inr (.inl z)) fun z => .inr (.inr z))
        refine ⟨u, r, .inr ⟨hc2, c, hc1, ?_⟩⟩
        rcases l with ⟨z, _⟩ | ⟨_, c', hc', hcell⟩
        · rcases hk with hk | hk <;> (rw [hk] at z; cases z)
        · have : c' = c := Option.some.inj (hc'.symm.trans (S.sub _ _ hc1))
          subst this
          obtain ⟨o, ho, hd⟩ := hcell
          exact ⟨o, k34 _ _ (k23 _ _ ho), hd⟩⟩
    cell := fun y c q => by
      obtain ⟨v, o, ho, hd⟩ := I2.cell y c (S.sub y c q)
      exact ⟨v, o, k34 _ _ (k23 _ _ ho), hd⟩
    free := hnC
    freeC := fun y c q => I2.freeC y c (S.sub y c q)
    pin := fun p hp => by
      have hp' : p = (D, { cls := .type "list", dict := none, data := .seq ([] : List Value).toArray }) := by simpa [Xc, cxComp] using hp
      subst hp'
      exact ⟨k34 _ _ hDo, hnD, hDC, nstk D (List.mem_cons_self ..), fun v z => nomatch z⟩
    hok := (I2.hok.kept k23).kept k34
    len := by show (v0 :: fvOf ixs σ).length = (x :: fns).length; simp [fvOf, S.len] }
  -- what stays true of the iterator's objects
  have fpc : ∀ {H' : Hp} {pins' : List (Addr × Obj)}, (∀ b ∈ fp, H' b = none) → (∀ p ∈ pins', p.1 = D) → ∀ b ∈ fp, FpOk Xc pins' H' b := fun {H' pins'} hn hp b hb =>
    ⟨hn b hb, Nat.ne_of_lt (Nat.lt_trans (hfpLt b hb) hDltC), nstk b (List.mem_cons_of_mem _ hb), .inl (List.mem_cons_of_mem _ hb), fun y c q => cne y c q b (List.mem_cons_of_mem _ hb), fun p q => by
      have q' : p ∈ pins' := by simpa [Xc, cxComp] using q
      rw [hp p q']
      exact Nat.ne_of_gt (hfpLt b hb)⟩
  let RR_ : Result → Shared → Prop := compPost (model X.prog X.w) X.A X.xe (some (assign (.Name y py) X.env)) (fun _ s' => SP X pins DD .next s') (.ref D) C
  have loop : codeAny (model X.prog X.w) X.A (.compLoop (.ListComp elt [⟨.Name x px, iter, [cnd], 0⟩] scope pos) 0 (.ref it) (.ref D) (compEnvC scope cl C X.env))
      RR_ { s2 with heap := h₁, toks := s2.toks + ([] : List (Str × Value)).length } := by
    let II_ : Nat → Shared → Prop := fun n s' => ∃ (i : Nat) (ys : List V) (its : List Value) (nn : Nat) (v0 : Option V) (H' : Hp), Inv Xc [(D, { cls := .type "list", dict := none, data := .seq its.toArray nn })] (v0 :: fvOf ixs σ) H' s' ∧ tn i s'.heap ∧ (∀ b ∈ fp, H' b = none) ∧ Vals ys its ∧ W i n ys H'
    refine compLoopIf_go II_ ?_ m0
      ⟨0, [], [], 0, none, H2, start none rfl, T.keep _ _ _ st2 fun b _ o q => k34 _ _ (k23 _ _ q), fun b hb => (f2 b hb).1, .nil, w0⟩
    intro n s3 hh_
    refine L2.goal_let ?_
    intro q_
    obtain ⟨i, ys, its, nn, v0, H3, J3, tn3, fr3, vv, w3⟩ := hh_
    dsimp only [q_]
    clear q_
    have pinD : ∀ p ∈ ([(D, ({ cls := .type "list", dict := none, data := .seq its.toArray nn } : Obj))] : List (Addr × Obj)), p.1 = D := fun p hp => by
      have : p = (D, { cls := .type "list", dict := none, data := .seq its.toArray nn }) := by simpa using hp
      rw [this]
    rcases turn i n ys H3 w3 with ⟨stop, hlen, q⟩ | ⟨go, hlen, step⟩
    · -- the end
      refine thn (T.done Xc rfl rfl rfl hc i _ s3 _ H3 _ J3 (fpc fr3 pinD) tn3 stop) fun r s4 hh_ => ?_
      refine L2.goal_let ?_
      intro q_
      obtain ⟨hr, J4⟩ := hh_
      dsimp only [q_]
      clear q_
      subst hr
      obtain ⟨m, hn, _⟩ := J4.loc
      generalize hh4 : s4.heap = h''
      have hsb : Heap.SameBut C s4.heap h'' := by rw [← hh4]; exact ⟨rfl, fun _ _ => rfl⟩
      obtain ⟨gD, nD, _, _, _⟩ := J4.pin (D, { cls := .type "list", dict := none, data := .seq its.toArray nn }) (by simp [Xc, cxComp])
      have B := J4.base
      have kC : ∀ b u, b ≠ C → s4.heap.get? b = some u → h''.get? b = some u := fun b u hb q => (hsb.2 b hb).trans q
      have ne : ∀ {b o}, s2.heap.get? b = some o → b ≠ C ∧ b ≠ D := fun q => ⟨Nat.ne_of_lt (Nat.lt_trans (ltD q) hDltC), Nat.ne_of_lt (ltD q)⟩
      have nex : ∀ {b o}, s2.heap.get? b = some o → b ∉ fp → b ∉ D :: fp := fun q hx z => (List.mem_cons.mp z).elim (ne q).2 hx
      have uu : Un (frs X.stack) fp H2 (upd H3 D (.lst ys)) s2.heap h'' := {
        keep := fun b o q n hb hx => kC b o (ne q).1 (B.keep b o (k23 b o q) n hb (nex q hx))
        slot := fun b o q n hb hx => by
          obtain ⟨sl, e⟩ := B.slot b o (k23 b o q) n hb (nex q hx)
          exact ⟨sl, kC b _ (ne q).1 e⟩
        free := fun b o q n hx => by rw [upd_ne (ne q).2]; exact B.free b o (k23 b o q) n (nex q hx)
        there := fun b o q hx => by
          obtain ⟨o', e⟩ := B.there b o (k23 b o q) (nex q hx)
          exact ⟨o', kC b _ (ne q).1 e⟩
        tups := fun b xs q => by rw [upd_ne (ne_of_none q hnD)]; exact B.tups b xs q
        frzs := fun b o xs q => by rw [upd_ne (ne_of_none q hnD)]; exact B.frzs b o xs q
        tbls := fun b ps q => by
          obtain ⟨more, e⟩ := B.tbls b ps q
          exact ⟨more, by rw [upd_ne (ne_of_none q hnD)]; exact e⟩ }
      have hok : HOk X.prog X.w (upd H3 D (.lst ys)) h'' := fun b u e => by
        by_cases hb : b = D
        · subst hb
          rw [upd_same] at e
          cases e
          exact ⟨hlen, its, nn, vv, kC _ _ hDC gD⟩
        · rw [upd_ne hb] at e
          refine (J4.hok b u e).stay (fun c v hc q => kC c v ?_ q) (fun c q => by rw [upd_ne (ne_of_none q nD)]; exact q) fun c xs q => by rw [upd_ne (ne_of_none q nD)]; exact q
          have fC : H3 C = none := J4.free
          rcases hc with rfl | hc
          · exact ne_of_none e fC
          · exact ne_of_none hc fC
      have I5 : Inv X pins σ (upd H3 D (.lst ys)) s4 := I2.call' (s' := s4) J4.os (by rw [hh4]; exact uu) (by rw [hh4]; exact hok) J4.bare (fun b hb => ⟨(f2 b hb).2.2.2.1, (f2 b hb).2.1, (f2 b hb).2.2.2.2.1, (f2 b hb).2.2.2.2.2⟩)
      show wpAny _ X.A (assign (.Name y py) X.env (.ref D)) _ _ _
      have cL : X.env.locals ≠ C := fun z => by
        have h1 := I2.lt
        rw [hD, z] at h1
        exact absurd (Nat.lt_trans h1 hDltC) (Nat.lt_irrefl _)
      have cC : ∀ z c, X.env.cells.lookup z = some c → c ≠ C := fun z c hz e => by
        obtain ⟨v, hv⟩ := I2.cell z c hz
        have h1 := hv.lt
        rw [hD, e] at h1
        exact absurd (Nat.lt_trans h1 hDltC) (Nat.lt_irrefl _)
      have hCn : upd H3 D (.lst ys) C = none := by
        rw [upd_ne (Ne.symm hDC)]
        exact J4.free
      refine wpAny_assign_Name (store_ok2 I5 hN hiy hy (v := .ref D) rfl (fun s5 I6 hsame => ?_) hfy)
      obtain ⟨a5, sb5, ha5⟩ := hsame
      have neC : C ≠ a5 := by
        rcases ha5 with e | e
        · rw [e]; exact Ne.symm cL
        · exact Ne.symm (cC y a5 e)
      refine ⟨m, hn.sameBut sb5 neC, fun h6 sb6 => ?_⟩
      refine ⟨_, _, I6.turned (t' := s5.toks) (it := C) (fun b o hb e => (sb6.2 b hb).trans e) hCn (Ne.symm cL) (.inr (by
        have := I2.sz
        rw [hD] at this
        exact Nat.le_trans this (Nat.le_of_lt hDltC))) cC (fun p hp z => ?_), q D nD⟩
      have hlt := Heap.lt_size (I2.pin p hp).1
      rw [hD, z] at hlt
      exact absurd (Nat.lt_trans hlt hDltC) (Nat.lt_irrefl _)
    · -- a turn
      refine thn (T.item Xc rfl rfl rfl hc i _ s3 _ H3 _ J3 (fpc fr3 pinD) tn3 go) fun r s4 hh_ => ?_
      refine L2.goal_let ?_
      intro q_
      obtain ⟨u, hr, h4⟩ := hh_
      dsimp only [q_]
      clear q_
      subst hr
      refine thn h4 fun _ s5 hh_ => ?_
      refine L2.goal_let ?_
      intro q_
      obtain ⟨xv, H5, J5, r5, y5, tn5, fr5⟩ := hh_
      dsimp only [q_]
      clear q_
      have J5' := J5.pinned (fpc fr5 pinD) (T.obj _ _ tn5)
      have hg : PG Xc (.Name x px) (gName 0) := pg_name (X := Xc) (i := 0) S.nd rfl (.inl (relabel_own S.own)) (.inr (relabel_own S.own))
      refine thn (hg _ s5 _ H5 xv u (fun σ' H' => σ' = some xv :: fvOf ixs σ ∧ H' = H5) J5' r5 ⟨rfl, rfl⟩) fun _ s6 hh_ => ?_
      refine L2.goal_let ?_
      intro q_
      obtain ⟨σ6, H6, J6, e6, e6'⟩ := hh_
      dsimp only [q_]
      clear q_
      subst e6 e6'
      refine thn (ht C { s2 with heap := hp3 } H2 (D :: fp) _ s6 _ H6 _ J6 (step xv H6 y5)) fun bt s6b hh_ => ?_
      refine L2.goal_let ?_
      intro q_
      obtain ⟨H6b, J6b, q6⟩ := hh_
      dsimp only [q_]
      clear q_
      cases bt with
      | true =>
       refine thn (he C { s2 with heap := hp3 } H2 (D :: fp) _ s6b _ H6b _ J6b q6) fun yv s7 hh_ => ?_
       refine L2.goal_let ?_
       intro q_
       obtain ⟨y, H7, J7, r7, m', hm', w7⟩ := hh_
       dsimp only [q_]
       clear q_
       obtain ⟨gD, nD, _, _, _⟩ := J7.pin (D, { cls := .type "list", dict := none, data := .seq its.toArray nn }) (by simp [Xc, cxComp])
       have tn7 : tn (i + 1) s7.heap := T.keep _ _ _ tn5 fun b hb o e => (J7.pin (b, o) (List.mem_append_right _ (List.mem_append_right _ (mem_pinsAt hb e)))).1
       have fr7 : ∀ b ∈ fp, H7 b = none := fun b hb => by
         obtain ⟨o, e, d⟩ := T.obj _ _ tn5 b hb
         exact (J7.pin (b, o) (List.mem_append_right _ (List.mem_append_right _ (mem_pinsAt hb e)))).2.1
       have J7' : Inv Xc [] (some xv :: fvOf ixs σ) H7 s7 := J7.pins_of fun p hp => nomatch hp
       refine wpAny_list_append_plain (hsz := by rw [List.size_toArray, ← vv.length]; omega) ⟨nn, gD⟩ fun h8 pl8 sb8 => ?_
       obtain ⟨n8, g8⟩ := pl8
       have J8 : Inv Xc [] (some xv :: fvOf ixs σ) H7 { s7 with heap := h8 } := J7'.turned (t' := s7.toks) (it := D) (fun b o hb e => (sb8.2 b hb).trans e) nD (hDC) (.inl (List.mem_cons_self ..))
         (fun y c q => cne y c q D (List.mem_cons_self ..)) (fun p hp => by simp [Xc, cxComp] at hp)
       refine ⟨m', hm', i + 1, ys ++ [y], its ++ [yv], n8, some xv, H7, J8.pins_of fun p hp => ?_, ?_, fr7, vv.append (.cons r7 .nil), w7⟩
       · have : p = (D, { cls := .type "list", dict := none, data := .seq (its ++ [yv]).toArray n8 }) := by simpa using hp
         subst this
         refine ⟨?_, nD, hDC, nstk D (List.mem_cons_self ..), fun v z => nomatch z⟩
         have : its.toArray.push yv = (its ++ [yv]).toArray := by simp
         rw [this] at g8
         exact g8
       · exact T.keep _ _ _ tn7 fun b hb o e => (sb8.2 b (Nat.ne_of_lt (hfpLt b hb))).trans e
      | false =>
       obtain ⟨m', hm', w7⟩ := q6
       obtain ⟨gD, nD, _, _, _⟩ := J6b.pin (D, { cls := .type "list", dict := none, data := .seq its.toArray nn }) (by simp [Xc, cxComp])
       have tn7 : tn (i + 1) s6b.heap := T.keep _ _ _ tn5 fun b hb o e => (J6b.pin (b, o) (List.mem_append_right _ (List.mem_append_right _ (mem_pinsAt hb e)))).1
       have fr7 : ∀ b ∈ fp, H6b b = none := fun b hb => by
         obtain ⟨o, e, d⟩ := T.obj _ _ tn5 b hb
         exact (J6b.pin (b, o) (List.mem_append_right _ (List.mem_append_right _ (mem_pinsAt hb e)))).2.1
       refine ⟨m', hm', i + 1, ys, its, nn, some xv, H6b, J6b.pins_of fun p hp => ?_, tn7, fr7, vv, w7⟩
       have : p = (D, { cls := .type "list", dict := none, data := .seq its.toArray nn }) := by simpa using hp
       subst this
       exact ⟨gD, nD, hDC, nstk D (List.mem_cons_self ..), fun v z => nomatch z⟩
  exact codeAny_compStart_list loop (T.self _ 0 _ _ _ (T.keep _ _ _ st2 fun b _ o q => k34 _ _ (k23 _ _ q)) loop)
end
end L2
set_option Elab.async false
set_option linter.all false
set_option maxRecDepth 100000
set_option maxHeartbeats 4000000
namespace L2
open PySem PySem.Spec PyProof.Rows
section
variable {X : Cx}
end
end L2
set_option Elab.async false
set_option linter.all false
set_option maxRecDepth 100000
set_option maxHeartbeats 4000000
namespace L2
open PySem PySem.Spec PyProof.Rows
def rng (lo : Int) (n : Nat) : List Int := (List.range n).map fun i : Nat => lo + (i : Int)
theorem rng_len (lo : Int) (n : Nat) : (rng lo n).length = n := by unfold rng; rw [List.length_map, List.length_range]
theorem rng_at {lo : Int} {n i : Nat} (h : i < n) : (rng lo n)[i]? = some (lo + (i : Int)) := by
  unfold rng
  rw [List.getElem?_map, List.getElem?_range h]
  rfl
theorem vals_get : ∀ (zs : List Int) (us : List Value), us.length = zs.length → (∀ (i : Nat) (z : Int) (u : Value), zs[i]? = some z → us[i]? = some u → ∃ t, u = .int z t) → Vals (intV zs) us
  | [], [], _, _ => .nil
  | z :: zs, u :: us, hl, h => .cons (h 0 z u rfl rfl) (vals_get zs us (by simpa using hl) fun i z u h1 h2 => h (i + 1) z u h1 h2)
  | [], _ :: _, hl, _ => by simp at hl
  | _ :: _, [], hl, _ => by simp at hl
theorem items_vals {lo : Int} {n : Nat} {acc : Array Value} (h : ItemsOf (fun i v => ∃ t, v = Value.int (lo + ↑i * 1) t) acc n) : Vals (intV (rng lo n)) acc.toList := by
  refine vals_get _ _ ?_ fun i z u h1 h2 => ?_
  · rw [rng_len, Array.length_toList]
    exact h.1
  · have hi : i < n := by
      have := (List.getElem?_eq_some_iff.mp h1).1
      rw [rng_len] at this
      exact this
    rw [rng_at hi] at h1
    obtain ⟨t, e⟩ := h.2 i u (by rw [← Array.getElem?_toList]; exact h2)
    exact ⟨t, by rw [e, ← Option.some.inj h1, Int.mul_one]⟩
section
variable {X : Cx} {a b : Expr} {ta : TA} {p p2 pos pos2 : Pos}
def tLR1 (ta : TA) : TE := fun σ H Q => ta σ H fun vs H1 => ∃ j : Nat, vs = [.int j] ∧ j ≤ 10000 ∧ ∀ l, H1 l = none → Q (.ref l) (upd H1 l (.lst (intV (rng 0 j))))
def tLR2 (ta : TA) : TE := fun σ H Q => ta σ H fun vs H1 => ∃ (i j : Nat), vs = [.int i, .int j] ∧ i ≤ 10000 ∧ j ≤ 10000 ∧ ∀ l, H1 l = none → Q (.ref l) (upd H1 l (.lst (intV (rng i (j - i)))))
theorem list_range {pins : List (Addr × Obj)} {σ : St} {H : Hp} {s : Shared} {Q : VK} {lo hi : Int} {t u v : Tok} {tk : Nat} (hc : X.calm = true) (I : Inv X pins σ H s) (h1 : 0 ≤ lo) (h2 : lo ≤ 10000) (h3 : 0 ≤ hi) (h4 : hi ≤ 10000)
    (q : ∀ l, H l = none → Q (.ref l) (upd H l (.lst (intV (rng lo (hi - lo).toNat))))) : wpAny (model X.prog X.w) X.A (call (.type "list") [.ref s.heap.objs.size]) (EP X pins σ Q) X.xe { s with heap := s.heap.push { cls := .type "range", data := .fields #[.int lo t, .int hi u, .int 1 v] }, toks := tk } := by
  have I1 : Inv X pins σ H { s with heap := s.heap.push { cls := .type "range", data := .fields #[.int lo t, .int hi u, .int 1 v] }, toks := tk } := I.kept fun b o e => Heap.get?_push_of_some _ e
  have hsz : Builtin.Range.rangeSize lo hi 1 = (((hi - lo).toNat : Nat) : Int) := by rw [rangeSize_one]; split <;> omega
  refine call_list_range (n := (hi - lo).toNat) (I.ok.hd hc) (IsRange.new ..) (small_one (by omega) (by omega) (by omega) (by omega)) hsz (by omega) fun h' tk' acc' c' kp hg hit => ?_
  refine ⟨.ref _, _, I1.laid (t' := tk') (o := .lst (intV (rng lo (hi - lo).toNat))) kp (Nat.le_refl _) ⟨?_, acc'.toList, c', items_vals hit, ?_⟩, rfl, q _ (I1.hok.fresh (Nat.le_refl _))⟩
  · rw [ints_len, rng_len]
    exact Nat.le_trans (show (hi - lo).toNat ≤ 10000 by omega) (by decide)
  · rw [Array.toArray_toList]
    exact hg
theorem pe_listRange1 (hc : X.calm = true) (hgl : Gl X "list") (hml : X.mg "list" = none) (hg : Gl X "range") (hm : X.mg "range" = none) (ha : PA X [a] ta) (hs : starEach [a] X.env = [(false, eval a X.env)] := by rfl)
    (hs2 : starEach [.Call (.Name "range" p) [a] [] pos] X.env = [(false, eval (.Call (.Name "range" p) [a] [] pos) X.env)] := by rfl) : PE X (.Call (.Name "list" p2) [.Call (.Name "range" p) [a] [] pos] [] pos2) (tLR1 ta) := by
  intro pins s σ H Q I h
  refine wpAny_Call_Name_kw (ld_blt I hgl hml boot_list ?_)
  refine PyProof.Rows.callWith_type1 ?_ hs2 rfl
  rw [hs2]
  show wpAny _ _ (spliced ((false, eval (.Call (.Name "range" p) [a] [] pos) X.env) :: backTo pos2 [])) _ _ s
  refine Calls.spliced_cons ?_
  refine Call_ (ld_blt I hg hm boot_range (PyProof.Rows.callWith_type1 (thn (ha pos pins s σ H _ I h) fun us s1 ⟨vs, H1, I1, r1, q1⟩ => ?_) hs rfl))
  obtain ⟨j, e, hj, q⟩ := q1
  subst e
  cases r1 with
  | cons r rr =>
    cases rr
    obtain ⟨t, rfl⟩ := r
    refine call_range_1 (Calls.spliced_nil ?_)
    exact list_range hc I1 (by omega) (by omega) (by omega) (by omega) (by simpa using q)
theorem pe_listRange2 (hc : X.calm = true) (hgl : Gl X "list") (hml : X.mg "list" = none) (hg : Gl X "range") (hm : X.mg "range" = none) (ha : PA X [a, b] ta) (hs : starEach [a, b] X.env = [(false, eval a X.env), (false, eval b X.env)] := by rfl) (hsb : starEach [b] X.env = [(false, eval b X.env)] := by rfl)
    (hs2 : starEach [.Call (.Name "range" p) [a, b] [] pos] X.env = [(false, eval (.Call (.Name "range" p) [a, b] [] pos) X.env)] := by rfl) : PE X (.Call (.Name "list" p2) [.Call (.Name "range" p) [a, b] [] pos] [] pos2) (tLR2 ta) := by
  intro pins s σ H Q I h
  refine wpAny_Call_Name_kw (ld_blt I hgl hml boot_list ?_)
  refine PyProof.Rows.callWith_type1 ?_ hs2 rfl
  rw [hs2]
  show wpAny _ _ (spliced ((false, eval (.Call (.Name "range" p) [a, b] [] pos) X.env) :: backTo pos2 [])) _ _ s
  refine Calls.spliced_cons ?_
  refine Call_ (ld_blt I hg hm boot_range (PyProof.Rows.callWith_type1 (thn (ha pos pins s σ H _ I h) fun us s1 ⟨vs, H1, I1, r1, q1⟩ => ?_) (by rw [hs, hsb]) (by rw [hsb]; rfl)))
  refine L2.goal_let ?_
  intro q_
  obtain ⟨i, j, e, hi, hj, q⟩ := q1
  dsimp only [q_]
  clear q_
  subst e
  cases r1 with
  | cons r rr =>
    cases rr with
    | cons r' rr =>
      cases rr
      obtain ⟨t, rfl⟩ := r
      obtain ⟨t', rfl⟩ := r'
      refine call_range_2 (Calls.spliced_nil ?_)
      refine list_range hc I1 (by omega) (by omega) (by omega) (by omega) ?_
      rw [show ((j : Int) - (i : Int)).toNat = j - i by omega]
      exact q
end
end L2
set_option Elab.async false
set_option linter.all false
set_option maxRecDepth 100000
set_option maxHeartbeats 4000000
namespace L2
open PySem PySem.Spec PyProof.Rows
def RowsAt (H : Hp) (rs : List Addr) (rows : List (List Int)) : Prop := rs.length = rows.length ∧ ∀ (i : Nat) (r : Addr) (ns : List Int), rs[i]? = some r → rows[i]? = some ns → H r = some (.lst (intV ns))
def TabAt (H : Hp) (a : Addr) (rows : List (List Int)) : Prop := ∃ rs : List Addr, H a = some (.lst (rs.map V.ref)) ∧ RowsAt H rs rows
theorem RowsAt.same {H H' : Hp} {rs : List Addr} {rows : List (List Int)} (h : RowsAt H rs rows) (s : Same H H') : RowsAt H' rs rows := ⟨h.1, fun i r ns h1 h2 => s _ _ (h.2 i r ns h1 h2)⟩
theorem TabAt.same {H H' : Hp} {a : Addr} {rows : List (List Int)} (h : TabAt H a rows) (s : Same H H') : TabAt H' a rows := by
  obtain ⟨rs, h1, h2⟩ := h
  exact ⟨rs, s _ _ h1, h2.same s⟩
theorem vals_refs {rs : List Addr} : ∀ {us : List Value}, Vals (rs.map V.ref) us → us = rs.map Value.ref := by
  induction rs with
  | nil => intro us r; cases r; rfl
  | cons c rs ih =>
    intro us r
    cases r with
    | cons r0 r1 => cases r0; rw [ih r1]; rfl
theorem all_eqG {α : Type} [DecidableEq α] {ns ms : List α} (h : ns.length = ms.length) : (List.range ns.length).all (fun j => decide (ns[j]? = ms[j]?)) = decide (ns = ms) := by
  rw [Bool.eq_iff_iff, List.all_eq_true, decide_eq_true_iff]
  constructor
  · intro h1
    refine List.ext_getElem? fun i => ?_
    by_cases hi : i < ns.length
    · exact of_decide_eq_true (h1 i (List.mem_range.mpr hi))
    · rw [List.getElem?_eq_none (by omega), List.getElem?_eq_none (by omega)]
  · rintro rfl j _
    exact decide_eq_true rfl
section
variable {X : Cx} {pins : List (Addr × Obj)} {σ : St} {H : Hp} {s : Shared} {A : Around}
theorem rc_ints (I : Inv X pins σ H s) {r q : Addr} {ns ms : List Int} (hr : H r = some (.lst (intV ns))) (hq : H q = some (.lst (intV ms))) (hu : A.units < cLine) : SeqAt.RcAt A s (.ref r) (.ref q) (decide (ns = ms)) := by
  obtain ⟨its, r1, p1, _⟩ := I.list (SqL.of hr)
  obtain ⟨its2, r2, p2, _⟩ := I.list (SqL.of hq)
  have l1 := r1.length
  have l2 := r2.length
  rw [ints_len] at l1 l2
  by_cases hl : ns.length = ms.length
  · have := SeqAt.RcAt.lists (A := A) (e := fun j => decide (ns[j]? = ms[j]?)) p1.isList p2.isList (by rw [List.size_toArray, List.size_toArray]; omega) hu (fun j h1 h2 => eqItems r1 r2 j h1 h2)
    rw [List.size_toArray, ← l1, all_eqG hl] at this
    exact this
  · have e : decide (ns = ms) = false := decide_eq_false (fun z => hl (by rw [z]))
    rw [e]
    refine SeqAt.RcAt.lists_lengths p1.isList p2.isList ?_ hu
    rw [List.size_toArray, List.size_toArray]
    simp
    omega
theorem eq_ints (I : Inv X pins σ H s) {r q : Addr} {ns ms : List Int} (hr : H r = some (.lst (intV ns))) (hq : H q = some (.lst (intV ms))) (hu : A.units < cLine) : SeqAt.EqAt A s (.ref r) (.ref q) (decide (ns = ms)) := by
  by_cases e : r = q
  · subst e
    have : ns = ms := by
      rw [hr] at hq
      injection hq with hq
      injection hq with hq
      unfold intV at hq
      exact (List.map_inj_right (fun a b z => V.int.inj z)).mp hq
    rw [decide_eq_true this]
    exact SeqAt.EqAt.same _
  · exact SeqAt.EqAt.of_refs e (rc_ints I hr hq hu)
theorem rows_items (I : Inv X pins σ H s) {rs qs : List Addr} {ns ms : List (List Int)} (hr : RowsAt H rs ns) (hq : RowsAt H qs ms) (hu : A.units < cLine) (j : Nat) (h1 : j < (rs.map Value.ref).toArray.size) (h2 : j < (qs.map Value.ref).toArray.size) :
    SeqAt.EqAt A s (rs.map Value.ref).toArray[j] (qs.map Value.ref).toArray[j] (decide (ns[j]? = ms[j]?)) := by
  have g1 : j < rs.length := by simpa using h1
  have g2 : j < qs.length := by simpa using h2
  have k1 : j < ns.length := by rw [← hr.1]; exact g1
  have k2 : j < ms.length := by rw [← hq.1]; exact g2
  have e1 : (rs.map Value.ref).toArray[j] = .ref rs[j] := by simp
  have e2 : (qs.map Value.ref).toArray[j] = .ref qs[j] := by simp
  rw [e1, e2]
  have a1 := hr.2 j rs[j] ns[j] (List.getElem?_eq_getElem g1) (List.getElem?_eq_getElem k1)
  have a2 := hq.2 j qs[j] ms[j] (List.getElem?_eq_getElem g2) (List.getElem?_eq_getElem k2)
  have := eq_ints (A := A) I a1 a2 hu
  rw [List.getElem?_eq_getElem k1, List.getElem?_eq_getElem k2]
  have ed : decide (some ns[j] = some ms[j]) = decide (ns[j] = ms[j]) := by
    rw [Bool.eq_iff_iff, decide_eq_true_iff, decide_eq_true_iff]
    exact ⟨Option.some.inj, congrArg some⟩
  rw [ed]
  exact this
end
section
variable {X : Cx}
def rNeLI : R2 := fun x y H Q => ∃ a b ns ms, x = .ref a ∧ y = .ref b ∧ H a = some (.lst (intV ns)) ∧ H b = some (.lst (intV ms)) ∧ Q (.bl (!decide (ns = ms))) H
theorem op_neLI (hu : X.A.units < cLine) : OpR X (compareOp .NotEq) rNeLI := by
  intro pins s σ H x y v u Q I rx ry h
  refine L2.goal_let ?_
  intro q_
  obtain ⟨a, b, ns, ms, rfl, rfl, ha, hb, q⟩ := h
  dsimp only [q_]
  clear q_
  cases rx
  cases ry
  obtain ⟨its, r1, p1, _⟩ := I.list (SqL.of ha)
  obtain ⟨its2, r2, p2, _⟩ := I.list (SqL.of hb)
  have l1 := r1.length
  have l2 := r2.length
  rw [ints_len] at l1 l2
  by_cases hl : ns.length = ms.length
  · refine SeqAt.RcNeAt.lists (e := fun j => decide (ns[j]? = ms[j]?)) p1.isList p2.isList (by rw [List.size_toArray, List.size_toArray]; omega) hu (fun j h1 h2 => eqItems r1 r2 j h1 h2) X.prog X.w X.xe _ ⟨.bl (!decide (ns = ms)), H, I, ?_, q⟩
    show _ = Value.bool (!decide (ns = ms))
    rw [List.size_toArray, ← l1, all_eqG hl]
  · have e : decide (ns = ms) = false := decide_eq_false (fun z => hl (by rw [z]))
    rw [e] at q
    refine SeqAt.RcNeAt.lists_lengths p1.isList p2.isList ?_ hu X.prog X.w X.xe _ ⟨.bl true, H, I, rfl, q⟩
    rw [List.size_toArray, List.size_toArray]
    simp
    omega
theorem ix_listK {K : PySem.W.Frag} (h : X.K = K) : IxR X (rIxL K) := by subst h; exact ix_list
theorem ix_tupK {K : PySem.W.Frag} (h : X.K = K) : IxR X (rIxT K) := by subst h; exact ix_tup
theorem call_list_ofK {K : PySem.W.Frag} (h : X.K = K) : CallR X (.type "list") (fun xs H Q => ∃ p ys, xs = [.ref p] ∧ (SqL K H p ys ∨ SqT K H p ys) ∧ ∀ l, H l = none → Q (.ref l) (upd H l (.lst ys))) := by subst h; exact call_list_of
theorem compScope2 {x y z : Str} {scope : Scope} {c d : Addr} {i j : Nat} (hclos : closureFor scope X.env = pure [(y, c), (z, d)]) (hy : X.env.cells.lookup y = some c) (hz : X.env.cells.lookup z = some d) (hc : ∀ q ∈ scope.names, q.2 ≠ .cell) (hk : scope.kind = .function)
    (hn : ∀ q ∈ scope.names, q.2 = .local → scope.names.lookup q.1 = some .local) (hx : scope.names.lookup x = some .local) (hfree : ∀ q ∈ scope.names, q.2 = .free → q.1 = y ∨ q.1 = z) (hxy : x ≠ y ∧ x ≠ z ∧ y ≠ z) (hi : X.N[i]? = some y) (hj : X.N[j]? = some z)
    (hky : X.env.kindOf y = some .cell) (hkz : X.env.kindOf z = some .cell) (hkf : X.env.scope.kind = .function) (hys : scope.names.lookup y = some .free) (hzs : scope.names.lookup z = some .free) : CompScope X x [y, z] [i, j] scope [(y, c), (z, d)] where
  clos := hclos
  sub := fun w e h => by
    by_cases e1 : w = y
    · subst e1
      have : c = e := by simpa [List.lookup_cons] using h
      rw [← this]
      exact hy
    · have hb : (w == y) = false := beq_eq_false_iff_ne.mpr e1
      by_cases e2 : w = z
      · subst e2
        have : d = e := by simpa [List.lookup_cons, hb] using h
        rw [← this]
        exact hz
      · have hb2 : (w == z) = false := beq_eq_false_iff_ne.mpr e2
        simp [List.lookup_cons, hb, hb2] at h
  cell := hc
  kind := hk
  names := hn
  own := hx
  has := fun w h => by
    have e : w = y ∨ w = z := by
      rcases h with h | h
      · exact hfree _ (relabel_mem h (.inl rfl) hc) rfl
      · exact hfree _ (relabel_mem h (.inr rfl) hc) rfl
    rcases e with rfl | rfl
    · exact ⟨c, by simp [List.lookup_cons]⟩
    · have hb : (w == y) = false := beq_eq_false_iff_ne.mpr (fun q => hxy.2.2 q.symm)
      exact ⟨d, by simp [List.lookup_cons, hb]⟩
  nd := by simp [hxy.1, hxy.2.1, hxy.2.2]
  len := rfl
  at_ := fun k w h => by
    match k, h with
    | 0, h =>
      have e : y = w := by simpa using h
      subst e
      exact ⟨i, rfl, hi, .inl hky, c, by simp [List.lookup_cons], .inl (lookup_relabel_free hkf hky hys)⟩
    | 1, h =>
      have e : z = w := by simpa using h
      subst e
      have hb : (z == y) = false := beq_eq_false_iff_ne.mpr (fun q => hxy.2.2 q.symm)
      exact ⟨j, rfl, hj, .inl hkz, d, by simp [List.lookup_cons, hb], .inl (lookup_relabel_free hkf hkz hzs)⟩
    | k + 2, h => simp at h
end
end L2
set_option Elab.async false
set_option linter.all false
set_option maxRecDepth 100000
set_option maxHeartbeats 4000000
namespace L2
open PySem PySem.Spec PyProof.Rows
def TupsAt (H : Hp) (ps : List Addr) (ws : List (List Int)) : Prop := ps.length = ws.length ∧ ∀ (i : Nat) (p : Addr) (w : List Int), ps[i]? = some p → ws[i]? = some w → H p = some (.tup (intV w))
def WordsAt (H : Hp) (a : Addr) (ws : List (List Int)) : Prop := ∃ ps : List Addr, H a = some (.lst (ps.map V.ref)) ∧ TupsAt H ps ws
theorem TupsAt.keep {H H' : Hp} {ps : List Addr} {ws : List (List Int)} (h : TupsAt H ps ws) (s : ∀ p xs, H p = some (.tup xs) → H' p = some (.tup xs)) : TupsAt H' ps ws := ⟨h.1, fun i p w h1 h2 => s _ _ (h.2 i p w h1 h2)⟩
theorem TupsAt.same {H H' : Hp} {ps : List Addr} {ws : List (List Int)} (h : TupsAt H ps ws) (s : Same H H') : TupsAt H' ps ws := h.keep fun p xs e => s _ _ e
theorem WordsAt.same {H H' : Hp} {a : Addr} {ws : List (List Int)} (h : WordsAt H a ws) (s : Same H H') : WordsAt H' a ws := by
  obtain ⟨ps, h1, h2⟩ := h
  exact ⟨ps, s _ _ h1, h2.same s⟩
theorem TupsAt.snoc {H : Hp} {ps : List Addr} {ws : List (List Int)} {p : Addr} {w : List Int} (h : TupsAt H ps ws) (hp : H p = some (.tup (intV w))) : TupsAt H (ps ++ [p]) (ws ++ [w]) := by
  refine ⟨by rw [List.length_append, List.length_append, h.1]; rfl, fun i q u h1 h2 => ?_⟩
  by_cases hi : i < ps.length
  · rw [List.getElem?_append_left hi] at h1
    rw [List.getElem?_append_left (by rw [← h.1]; exact hi)] at h2
    exact h.2 i q u h1 h2
  · rw [List.getElem?_append_right (by omega)] at h1
    rw [List.getElem?_append_right (by rw [← h.1]; omega)] at h2
    rw [List.mem_singleton.mp (List.mem_of_getElem? h1), List.mem_singleton.mp (List.mem_of_getElem? h2)]
    exact hp
section
variable {X : Cx} {pins : List (Addr × Obj)} {σ : St} {H : Hp} {s : Shared} {A : Around}
theorem eq_tups (I : Inv X pins σ H s) {r q : Addr} {ns ms : List Int} (hr : H r = some (.tup (intV ns))) (hq : H q = some (.tup (intV ms))) (hu : A.units < cLine) : SeqAt.EqAt A s (.ref r) (.ref q) (decide (ns = ms)) := by
  by_cases e : r = q
  · subst e
    have : ns = ms := by
      rw [hr] at hq
      injection hq with hq
      injection hq with hq
      unfold intV at hq
      exact (List.map_inj_right (fun a b z => V.int.inj z)).mp hq
    rw [decide_eq_true this]
    exact SeqAt.EqAt.same _
  · refine SeqAt.EqAt.of_refs e ?_
    obtain ⟨its, r1, p1, _⟩ := I.tuple (SqT.of hr)
    obtain ⟨its2, r2, p2, _⟩ := I.tuple (SqT.of hq)
    have l1 := r1.length
    have l2 := r2.length
    rw [ints_len] at l1 l2
    have := SeqAt.RcAt.tuples (A := A) (e := fun j => decide (ns[j]? = ms[j]?)) (show s.heap.IsTuple r its.toArray from p1) (show s.heap.IsTuple q its2.toArray from p2) hu (fun j h1 h2 => eqItems r1 r2 j h1 h2)
    rw [List.size_toArray, List.size_toArray, ← l1, ← l2, all_eq] at this
    exact this
theorem tups_items (I : Inv X pins σ H s) {rs qs : List Addr} {ns ms : List (List Int)} (hr : TupsAt H rs ns) (hq : TupsAt H qs ms) (hu : A.units < cLine) (j : Nat) (h1 : j < (rs.map Value.ref).toArray.size) (h2 : j < (qs.map Value.ref).toArray.size) :
    SeqAt.EqAt A s (rs.map Value.ref).toArray[j] (qs.map Value.ref).toArray[j] (decide (ns[j]? = ms[j]?)) := by
  have g1 : j < rs.length := by simpa using h1
  have g2 : j < qs.length := by simpa using h2
  have k1 : j < ns.length := by rw [← hr.1]; exact g1
  have k2 : j < ms.length := by rw [← hq.1]; exact g2
  have e1 : (rs.map Value.ref).toArray[j] = .ref rs[j] := by simp
  have e2 : (qs.map Value.ref).toArray[j] = .ref qs[j] := by simp
  rw [e1, e2]
  have a1 := hr.2 j rs[j] ns[j] (List.getElem?_eq_getElem g1) (List.getElem?_eq_getElem k1)
  have a2 := hq.2 j qs[j] ms[j] (List.getElem?_eq_getElem g2) (List.getElem?_eq_getElem k2)
  have := eq_tups (A := A) I a1 a2 hu
  rw [List.getElem?_eq_getElem k1, List.getElem?_eq_getElem k2]
  have ed : decide (some ns[j] = some ms[j]) = decide (ns[j] = ms[j]) := by
    rw [Bool.eq_iff_iff, decide_eq_true_iff, decide_eq_true_iff]
    exact ⟨Option.some.inj, congrArg some⟩
  rw [ed]
  exact this
end
section
variable {X : Cx}
end
end L2
set_option Elab.async false
set_option linter.all false
set_option maxRecDepth 100000
set_option maxHeartbeats 4000000
namespace L2
open PySem PySem.Spec PyProof.Rows
section
variable {X : Cx}
def isInt (k : Int) : Value → Bool
  | .int z _ => z == k
  | _ => false
end
end L2
set_option Elab.async false
set_option linter.all false
set_option maxRecDepth 100000
set_option maxHeartbeats 4000000
namespace L2
open PySem PySem.Spec PyProof.Rows
section
variable {X : Cx} {tg : Expr}
end
end L2
set_option Elab.async false
set_option linter.all false
set_option maxRecDepth 100000
set_option maxHeartbeats 4000000
namespace L2
open PySem PySem.Spec PyProof.Rows
def Itel (K : PySem.W.Frag) (a : Addr) : It :=
  ⟨fun i H => ∃ xs x, SqL K H a xs ∧ xs[i]? = some x, fun i H x H' => ∃ p v, H p = none ∧ (∀ ys, SqL K H a ys → ys[i]? = some v) ∧ x = .ref p ∧ H' = upd H p (.tup [.int (i : Int), v]), fun i H => ∃ xs, SqL K H a xs ∧ xs.length = i⟩
theorem ne_cls {h : Heap} {a b : Addr} {o u : Obj} (ha : h.get? a = some o) (hb : h.get? b = some u) (hc : o.cls ≠ u.cls) : a ≠ b := fun z => by
  subst z
  rw [ha] at hb
  exact hc (by rw [Option.some.inj hb])
theorem turn_enumL {P : Program} {w : World} {K : PySem.W.Frag} {elts : List Expr} {x1 : Nat} {tp : Pos} (e it a : Addr) (hei : e ≠ it) :
    Turn P w K (.Tuple elts x1 tp) (Itel K a) [e, it] e (fun i h => (∃ old, IsEnum h e it (i : Int) old) ∧ h.IsListIter it a i) where
  mem := by simp
  obj := fun i h st b hb => by
    refine L2.goal_let ?_
    intro q_
    obtain ⟨⟨old, he⟩, o, ho, hc, hd⟩ := st
    dsimp only [q_]
    clear q_
    rcases List.mem_cons.mp hb with rfl | hb
    · exact ⟨_, he, fun v z => by cases z⟩
    · rw [List.mem_singleton.mp hb]
      exact ⟨o, ho, fun v z => by rw [hd] at z; cases z⟩
  keep := fun i h h' st k => by
    obtain ⟨⟨old, he⟩, hl⟩ := st
    exact ⟨⟨old, k e (by simp) _ he⟩, hl.at fun o e => k it (by simp) o e⟩
  item := by
    intro X hP hw hK hc i pins s σ H E I hf st hg
    subst hP hw hK
    obtain ⟨⟨old, he⟩, hst⟩ := st
    obtain ⟨xs, x, hq, hx⟩ := hg
    obtain ⟨its, rv, p, hz⟩ := I.list hq
    obtain ⟨u, hu, ru⟩ := rv.get hx
    have hit := p.isList
    obtain ⟨o1, ho1, hc1, hd1⟩ := id hit
    obtain ⟨o2, ho2, hc2, hd2⟩ := id hst
    have hai : a ≠ it := ne_cls ho1 ho2 (by rw [hc1, hc2]; decide)
    have hea : e ≠ a := ne_cls he ho1 (by rw [hc1]; show Value.type "enumerate" ≠ Value.type "list"; decide)
    have D := Draws.list (prog := X.prog) (w := X.w) (A := X.A.in1) (I.ok.hd hc) it a hai its.toArray
    have hel : e < s.heap.objs.size := Heap.lt_size he
    have hil : i < its.length := (List.getElem?_eq_some_iff.mp hu).1
    refine En.next_pair D he ⟨hst, hit⟩ (by simpa using hil) hei (by simp [hei, hea]) fun y h' tk hPx ho hs' hT hk => ?_
    have ey : u = y := by
      have h2 : its[i]? = some y := by simpa using hPx
      exact Option.some.inj (hu.symm.trans h2)
    subst ey
    refine ⟨_, rfl, ?_⟩
    refine wpAny_letOwnedTupleGo_enum ho fun h'' he' hs'' => ?_
    have hT2 : h''.get? s.heap.objs.size = some { cls := .type "tuple", data := .seq #[.int (i : Int) tk, u] } := (hs''.2 _ (Nat.ne_of_gt hel)).trans hT
    have hkk : ∀ b ob, b ∉ [e, it] → s.heap.get? b = some ob → h''.get? b = some ob := fun b ob hb q => by
      have h1 : b ≠ e := fun z => hb (by simp [z])
      have h2 : b ≠ it := fun z => hb (by simp [z])
      exact (hs''.2 b h1).trans (hk b ob h1 h2 q)
    have hfr := I.hok.fresh (Nat.le_refl s.heap.objs.size)
    refine ⟨.ref s.heap.objs.size, _, I.turnLaid (fp := [e, it]) (a := s.heap.objs.size) (o := .tup [.int (i : Int), x]) (h' := h'') (t' := tk + 1) hkk hf (Nat.le_refl _) ?_, rfl, ⟨_, x, hfr, fun ys hy => by rw [I.list_inj hy hq]; exact hx, rfl, rfl⟩, ⟨⟨u, ?_⟩, ?_⟩, fun b hb => ?_⟩
    · exact ⟨by show 2 ≤ sizeLine; decide, [.int (i : Int) tk, u], .cons ⟨_, rfl⟩ (.cons ru .nil), _, hT2, rfl, _, rfl⟩
    · rw [show ((i + 1 : Nat) : Int) = (i : Int) + 1 by omega]
      exact he'
    · exact (D.frame _ _ _ hs' fun b hb o q => (hs''.2 b (by
        rcases List.mem_cons.mp hb with z | hb
        · rw [z]; exact Ne.symm hei
        · rw [List.mem_singleton.mp hb]; exact Ne.symm hea)).trans q).1
    · rw [upd_ne]
      · exact (hf b hb).1
      · intro z
        subst z
        rcases List.mem_cons.mp hb with z | hb
        · exact absurd hel (by rw [← z]; exact Nat.lt_irrefl _)
        · exact absurd (Heap.lt_size ho2) (by rw [← List.mem_singleton.mp hb]; exact Nat.lt_irrefl _)
  done := by
    intro X hP hw hK hc i pins s σ H E I hf st hg
    subst hP hw hK
    obtain ⟨⟨old, he⟩, hst⟩ := st
    obtain ⟨xs, hq, hx⟩ := hg
    obtain ⟨its, rv, p, hz⟩ := I.list hq
    have hit := p.isList
    obtain ⟨o1, ho1, hc1, hd1⟩ := id hit
    obtain ⟨o2, ho2, hc2, hd2⟩ := id hst
    have hai : a ≠ it := ne_cls ho1 ho2 (by rw [hc1, hc2]; decide)
    have D := Draws.list (prog := X.prog) (w := X.w) (A := X.A.in1) (I.ok.hd hc) it a hai its.toArray
    have hsz : its.toArray.size = i := by rw [List.size_toArray, ← rv.length]; exact hx
    refine wpAny_pyNext_enum_endD D he (by rw [hsz]; exact ⟨hst, hit⟩) fun h' eb => ⟨rfl, I.turnedL (fp := [e, it]) (t' := s.toks) (fun b o hb q => eb b o (fun z => hb (by simp [z])) q) hf⟩
  self := fun A i s Q E st h => by
    obtain ⟨⟨old, he⟩, _⟩ := st
    have hT : s.TypeIs (.ref e) "enumerate" := ⟨_, he, rfl⟩
    refine wpAny_pyIter_slot hT F.slot_enumerate_iter (wpAny_call_entry F.slot_enumerate_iter hT F.entry_enumerate_iter ?_ (F.args_enumerate_iter_1 _))
    show wpAny _ _ (ret (.ref e)) _ _ s
    exact wpAny_pure ⟨_, rfl, "enumerate", _, hT, F.slot_enumerate_next.lookup, h⟩
section
variable {X : Cx}
def iEnumL (K : PySem.W.Frag) (ta : TA) : TI := fun σ H R => ta σ H fun vs H1 => ∃ a, vs = [.ref a] ∧ (∃ xs, SqL K H1 a xs) ∧ R (Itel K a) H1
theorem pi_enumL {a : Expr} {te : TE} {elts : List Expr} {x1 : Nat} {tp p pos : Pos} (hg : Gl X "enumerate") (hm : X.mg "enumerate" = none) (he : PE X a te) (hs : starEach [a] X.env = [(false, eval a X.env)] := by rfl) :
    PI X (.Tuple elts x1 tp) (.Call (.Name "enumerate" p) [a] [] pos) (iEnumL X.K (tCons te tNil)) := by
  intro pins s σ H R I h
  refine Call_ (ld_blt I hg hm boot_enumerate (PyProof.Rows.callWith_type1 (thn ((pa_cons he pa_nil hs) pos pins s σ H _ I h) fun us s1 ⟨vs, H1, I1, r1, q1⟩ => ?_) hs rfl))
  refine L2.goal_let ?_
  intro q_
  obtain ⟨l, rfl, ⟨xs, hq⟩, q⟩ := q1
  dsimp only [q_]
  clear q_
  obtain ⟨u, rfl, ru⟩ := vals1 r1
  cases ru
  obtain ⟨its, rv, pl, hz⟩ := I1.list hq
  refine call_enumerate_list pl.isList fun h' he' hit hsz hk => ?_
  have I3 : Inv X pins σ H1 { s1 with heap := h' } := I1.kept (t' := s1.toks) hk
  have T := turn_enumL (P := X.prog) (w := X.w) (K := X.K) (elts := elts) (x1 := x1) (tp := tp) (s1.heap.objs.size + 1) s1.heap.objs.size l (Nat.succ_ne_self _)
  refine T.self _ 0 { s1 with heap := h' } _ _ ⟨⟨_, he'⟩, hit⟩ ⟨_, _, _, _, H1, rfl, I3, T, ⟨⟨_, he'⟩, hit⟩, fun b hb => ?_, q⟩
  rcases List.mem_cons.mp hb with e | hb
  · subst e
    exact I1.fpOk (Nat.le_succ _) (I1.hok.fresh (Nat.le_succ _))
  · rw [List.mem_singleton.mp hb]
    exact I1.fpOk (Nat.le_refl _) (I1.hok.fresh (Nat.le_refl _))
end
theorem for_enumL {K : PySem.W.Frag} {a : Addr} {xs : List V} {g : TG} {tb : TS} {D : Ends} {σ : St} {H : Hp} (Pv : Nat → St → Hp → Prop) (h0 : Pv 0 σ H) (hl : ∀ i σ H, i ≤ xs.length → Pv i σ H → SqL K H a xs)
    (hs : ∀ i v σ H p, xs[i]? = some v → H p = none → Pv i σ H → g (.ref p) σ (upd H p (.tup [.int (i : Int), v])) fun σ2 H2 => tb { D with nx := Pv (i + 1), ct := Pv (i + 1), bk := D.nx } σ2 H2) (hd : ∀ σ H, Pv xs.length σ H → D.nx σ H) :
    ∃ W : Nat → Nat → St → Hp → Prop, (∃ m, W 0 m σ H) ∧ ∀ i m σ H, W i m σ H →
      ((Itel K a).stop i H ∧ D.nx σ H) ∨ ((Itel K a).go i H ∧ ∃ N : St → Hp → Prop, (∀ σ' H', N σ' H' → ∃ m', m' < m ∧ W (i + 1) m' σ' H') ∧ ∀ x H', (Itel K a).yld i H x H' → g x σ H' fun σ2 H2 => tb { D with nx := N, ct := N, bk := D.nx } σ2 H2) := by
  refine ⟨fun i m σ H => m = xs.length - i ∧ i ≤ xs.length ∧ Pv i σ H, ⟨xs.length, by simp, Nat.zero_le _, h0⟩, ?_⟩
  rintro i m σ H ⟨rfl, hi, p⟩
  have q := hl i σ H hi p
  by_cases hlt : i < xs.length
  · refine .inr ⟨⟨xs, _, q, List.getElem?_eq_getElem hlt⟩, Pv (i + 1), fun σ' H' p' => ⟨xs.length - (i + 1), by omega, rfl, hlt, p'⟩, fun x H' y => ?_⟩
    refine L2.goal_let ?_
    intro q_
    obtain ⟨r, v, hr, hv, rfl, rfl⟩ := y
    dsimp only [q_]
    clear q_
    exact hs i v σ H r (hv xs q) hr p
  · have e : i = xs.length := by omega
    subst e
    exact .inl ⟨⟨xs, q, rfl⟩, hd σ H p⟩
end L2
set_option Elab.async false
set_option linter.all false
set_option maxRecDepth 100000
set_option maxHeartbeats 4000000
namespace L2
open PySem PySem.Spec PyProof.Rows
section
variable {X : Cx}
theorem truth_of {prog : Program} {w : World} {A : Around} {bs : List Bool} {its : List Value} (r : Vals (bs.map V.bl) its) : TruthOf prog w A (fun i v => its.toArray[i]? = some v) (fun i => bs.getD i false) := by
  intro i v s Q E hP hQ
  have h2 : its[i]? = some v := by simpa using hP
  have hi : i < its.length := (List.getElem?_eq_some_iff.mp h2).1
  have hl := r.length
  rw [List.length_map] at hl
  have hb : bs[i]? = some bs[i] := List.getElem?_eq_getElem (by omega)
  obtain ⟨u, hu, ru⟩ := r.get (i := i) (x := V.bl bs[i]) (by rw [List.getElem?_map, hb]; rfl)
  rw [h2] at hu
  cases hu
  cases ru
  have e : bs.getD i false = bs[i] := by rw [List.getD_eq_getElem?_getD, hb]; rfl
  exact wpAny_truthy_bool (by rw [← e]; exact hQ)
theorem all_getD (bs : List Bool) : (List.range bs.length).all (fun i => bs.getD i false) = bs.all id := by
  conv => rhs; rw [← range_getD bs false]
  rw [List.all_map]
  rfl
def rAll (K : PySem.W.Frag) : List V → Hp → VK → Prop := fun xs H Q => ∃ (p : Addr) (bs : List Bool), xs = [.ref p] ∧ SqL K H p (bs.map V.bl) ∧ Q (.bl (bs.all id)) H
theorem call_all (hc : X.calm = true) : CallR X (.builtin "all") (rAll X.K) := by
  intro pins s σ H xs us Q I r h
  refine L2.goal_let ?_
  intro q_
  obtain ⟨p, bs, rfl, hq, q⟩ := h
  dsimp only [q_]
  clear q_
  obtain ⟨u, rfl, rx⟩ := vals1 r
  cases rx
  obtain ⟨its, r', pl, hz⟩ := I.list hq
  have hlen := r'.length
  rw [List.length_map] at hlen
  obtain ⟨ol, hol, hoc, hod⟩ := id pl.isList
  refine call_all_walk ?_
  refine wpAny_pyIter_list pl.isList ?_
  have hne : p ≠ s.heap.objs.size := Nat.ne_of_lt (Heap.lt_size hol)
  refine ⟨s.heap.objs.size, _, _, _, _, _, fun i => bs.getD i false, rfl, Walks.list (A := X.A.in1) (I.ok.hd hc) s.heap.objs.size p hne its.toArray, ⟨⟨_, Heap.get?_push_size _ rfl, rfl, rfl⟩, pl.isList.push _⟩, truth_of r', fun h' tk hk => ?_⟩
  have I1 : Inv X pins σ H { s with heap := h', toks := tk } := I.kept (t' := tk) fun b o e => hk b o (fun z => by
    have := List.mem_singleton.mp z
    subst this
    exact absurd (Heap.lt_size e) (Nat.lt_irrefl _)) (Heap.get?_push_of_some _ e)
  refine ⟨.bl (bs.all id), H, I1, ?_, q⟩
  show Value.bool _ = Value.bool _
  rw [List.size_toArray, ← hlen, all_getD]
end
end L2
set_option Elab.async false
set_option linter.all false
set_option maxRecDepth 100000
set_option maxHeartbeats 4000000
namespace L2
open PySem PySem.Spec PyProof.Rows
def Itz (K : PySem.W.Frag) (a b : Addr) : It :=
  ⟨fun i H => ∃ xs x ys y, SqL K H a xs ∧ xs[i]? = some x ∧ SqL K H b ys ∧ ys[i]? = some y,
   fun i H x H' => ∃ p v u, H p = none ∧ (∀ ys, SqL K H a ys → ys[i]? = some v) ∧ (∀ ys, SqL K H b ys → ys[i]? = some u) ∧ x = .ref p ∧ H' = upd H p (.tup [v, u]),
   fun i H => ∃ xs ys, SqL K H a xs ∧ SqL K H b ys ∧ (xs.length ≤ i ∨ ys.length ≤ i)⟩
def ZipSt (z TI TO i1 i2 l1 l2 : Addr) (i : Nat) (h : Heap) : Prop := IsZip h z TI TO .none ∧ IsPair h TI (.ref i1) (.ref i2) ∧ (∃ a b, IsPair h TO a b) ∧ h.IsListIter i1 l1 i ∧ h.IsListIter i2 l2 i
theorem zip_apart {h : Heap} {n l1 l2 : Addr} {o1 o2 : Obj} {i : Nat} (hl1 : h.get? l1 = some o1) (hc1 : o1.cls = .type "list") (hl2 : h.get? l2 = some o2) (hc2 : o2.cls = .type "list") (st : ZipSt (n + 4) (n + 2) (n + 3) n (n + 1) l1 l2 i h) : ZipApart (n + 4) (n + 2) (n + 3) n (n + 1) l1 l2 := by
  refine L2.goal_let ?_
  intro q_
  obtain ⟨hz, hTI, ⟨a, b, hTO⟩, ⟨p1, g1, k1, _⟩, ⟨p2, g2, k2, _⟩⟩ := st
  dsimp only [q_]
  clear q_
  exact ⟨(fun zz => by have zz : @Eq Nat _ _ := zz; omega), (fun zz => by have zz : @Eq Nat _ _ := zz; omega), (fun zz => by have zz : @Eq Nat _ _ := zz; omega), (fun zz => by have zz : @Eq Nat _ _ := zz; omega), (fun zz => by have zz : @Eq Nat _ _ := zz; omega), (fun zz => by have zz : @Eq Nat _ _ := zz; omega), (fun zz => by have zz : @Eq Nat _ _ := zz; omega), (fun zz => by have zz : @Eq Nat _ _ := zz; omega), (fun zz => by have zz : @Eq Nat _ _ := zz; omega), (fun zz => by have zz : @Eq Nat _ _ := zz; omega),
    ne_cls hl1 hz (by rw [hc1]; show Value.type "list" ≠ Value.type "zip"; decide), ne_cls hl1 hTO (by rw [hc1]; show Value.type "list" ≠ Value.type "tuple"; decide), ne_cls hl1 g1 (by rw [hc1, k1]; decide), ne_cls hl1 g2 (by rw [hc1, k2]; decide),
    ne_cls hl2 hz (by rw [hc2]; show Value.type "list" ≠ Value.type "zip"; decide), ne_cls hl2 hTO (by rw [hc2]; show Value.type "list" ≠ Value.type "tuple"; decide), ne_cls hl2 g1 (by rw [hc2, k1]; decide), ne_cls hl2 g2 (by rw [hc2, k2]; decide)⟩
theorem turn_zip {P : Program} {w : World} {K : PySem.W.Frag} {elts : List Expr} {x1 : Nat} {tp : Pos} (n a b : Addr) :
    Turn P w K (.Tuple elts x1 tp) (Itz K a b) [n + 4, n + 2, n + 3, n, n + 1] (n + 4) (ZipSt (n + 4) (n + 2) (n + 3) n (n + 1) a b) where
  mem := by simp
  obj := fun i h st c hc => by
    refine L2.goal_let ?_
    intro q_
    obtain ⟨hz, hTI, ⟨ta, tb, hTO⟩, ⟨p1, g1, k1, d1⟩, ⟨p2, g2, k2, d2⟩⟩ := st
    dsimp only [q_]
    clear q_
    simp only [List.mem_cons, List.not_mem_nil, or_false] at hc
    rcases hc with rfl | rfl | rfl | rfl | rfl
    · exact ⟨_, hz, fun v z => by cases z⟩
    · exact ⟨_, hTI, fun v z => by cases z⟩
    · exact ⟨_, hTO, fun v z => by cases z⟩
    · exact ⟨_, g1, fun v z => by rw [d1] at z; cases z⟩
    · exact ⟨_, g2, fun v z => by rw [d2] at z; cases z⟩
  keep := fun i h h' st k => by
    refine L2.goal_let ?_
    intro q_
    obtain ⟨hz, hTI, ⟨ta, tb, hTO⟩, h1, h2⟩ := st
    dsimp only [q_]
    clear q_
    exact ⟨k _ (by simp) _ hz, k _ (by simp) _ hTI, ⟨ta, tb, k _ (by simp) _ hTO⟩, h1.at fun o e => k _ (by simp) o e, h2.at fun o e => k _ (by simp) o e⟩
  item := by
    intro X hP hw hK hc i pins s σ H E I hf st hg
    subst hP hw hK
    refine L2.goal_let ?_
    intro q_
    obtain ⟨xs, x, ys, y, hq, hx, hq2, hy⟩ := hg
    dsimp only [q_]
    clear q_
    obtain ⟨its, rv, p, hz1⟩ := I.list hq
    obtain ⟨u, hu, ru⟩ := rv.get hx
    obtain ⟨its2, rv2, p2, hz2⟩ := I.list hq2
    obtain ⟨u2, hu2, ru2⟩ := rv2.get hy
    obtain ⟨o1, ho1, hc1, hd1⟩ := id p.isList
    obtain ⟨o2, ho2, hc2, hd2⟩ := id p2.isList
    have D := zip_apart ho1 hc1 ho2 hc2 st
    refine L2.goal_let ?_
    intro q_
    obtain ⟨hz, hTI, ⟨ta, tb, hTO⟩, h1, h2⟩ := st
    dsimp only [q_]
    clear q_
    refine wpAny_pyNext_zip_item D hz hTI hTO h1 h2 p.isList p2.isList (x := u) (y := u2) (by simpa using hu) (by simpa using hu2) fun h' hz' hTO' h1' h2' hT' hsz hk => ?_
    refine ⟨_, rfl, ?_⟩
    refine wpAny_letOwnedTupleGo_zip hz' fun h'' hz'' hs'' => ?_
    have hnz : n + 4 < s.heap.objs.size := Heap.lt_size hz
    have hT2 : h''.get? s.heap.objs.size = some { cls := .type "tuple", data := .seq #[u, u2] } := (hs''.2 _ (Nat.ne_of_gt hnz)).trans hT'
    have hkk : ∀ b ob, b ∉ [n + 4, n + 2, n + 3, n, n + 1] → s.heap.get? b = some ob → h''.get? b = some ob := fun b ob hb q => by
      simp only [List.mem_cons, List.not_mem_nil, or_false, not_or] at hb
      exact (hs''.2 b hb.1).trans (hk b ob hb.1 hb.2.2.1 hb.2.2.2.1 hb.2.2.2.2 q)
    have hfr := I.hok.fresh (Nat.le_refl s.heap.objs.size)
    have hTI2 : h''.get? (n + 2) = some { cls := .type "tuple", data := .seq #[.ref n, .ref (n + 1)] } := (hs''.2 _ (fun zz => by have zz : @Eq Nat _ _ := zz; omega)).trans (hk _ _ (fun zz => by have zz : @Eq Nat _ _ := zz; omega) (fun zz => by have zz : @Eq Nat _ _ := zz; omega) (fun zz => by have zz : @Eq Nat _ _ := zz; omega) (fun zz => by have zz : @Eq Nat _ _ := zz; omega) hTI)
    refine ⟨.ref s.heap.objs.size, _, I.turnLaid (fp := [n + 4, n + 2, n + 3, n, n + 1]) (a := s.heap.objs.size) (o := .tup [x, y]) (h' := h'') (t' := s.toks) hkk hf (Nat.le_refl _) ?_, rfl, ⟨_, x, y, hfr, fun ys hy => by rw [I.list_inj hy hq]; exact hx, fun zs hzs => by rw [I.list_inj hzs hq2]; exact hy, rfl, rfl⟩, ⟨hz'', hTI2, ⟨_, _, (hs''.2 _ (fun zz => by have zz : @Eq Nat _ _ := zz; omega)).trans hTO'⟩, h1'.at fun o e => (hs''.2 _ (fun zz => by have zz : @Eq Nat _ _ := zz; omega)).trans e, h2'.at fun o e => (hs''.2 _ (fun zz => by have zz : @Eq Nat _ _ := zz; omega)).trans e⟩, fun c hc => ?_⟩
    · exact ⟨by show 2 ≤ sizeLine; decide, [u, u2], .cons ru (.cons ru2 .nil), _, hT2, rfl, _, rfl⟩
    · rw [upd_ne]
      · exact (hf c hc).1
      · intro z
        subst z
        simp only [List.mem_cons, List.not_mem_nil, or_false] at hc
        have key : ∀ a, a ≤ n + 4 → s.heap.objs.size ≠ a := fun a ha z => absurd (Nat.lt_of_le_of_lt ha hnz) (by rw [z]; exact Nat.lt_irrefl _)
        rcases hc with hc | hc | hc | hc | hc
        · exact key _ (Nat.le_refl _) hc
        · exact key _ (Nat.add_le_add_left (by decide) n) hc
        · exact key _ (Nat.add_le_add_left (by decide) n) hc
        · exact key _ (Nat.le_add_right _ _) hc
        · exact key _ (Nat.add_le_add_left (by decide) n) hc
  done := by
    intro X hP hw hK hc i pins s σ H E I hf st hg
    subst hP hw hK
    refine L2.goal_let ?_
    intro q_
    obtain ⟨xs, ys, hq, hq2, hend⟩ := hg
    dsimp only [q_]
    clear q_
    obtain ⟨its, rv, p, hz1⟩ := I.list hq
    obtain ⟨its2, rv2, p2, hz2⟩ := I.list hq2
    obtain ⟨o1, ho1, hc1, hd1⟩ := id p.isList
    obtain ⟨o2, ho2, hc2, hd2⟩ := id p2.isList
    have D := zip_apart ho1 hc1 ho2 hc2 st
    refine L2.goal_let ?_
    intro q_
    obtain ⟨hz, hTI, ⟨ta, tb, hTO⟩, h1, h2⟩ := st
    dsimp only [q_]
    clear q_
    have hl1 := rv.length
    have hl2 := rv2.length
    refine wpAny_pyNext_zip_end (I.ok.hd hc) D hz hTI hTO h1 h2 p.isList p2.isList ?_ fun h' hk => ⟨rfl, I.turnedL (fp := [n + 4, n + 2, n + 3, n, n + 1]) (t' := s.toks) (fun b o hb q => ?_) hf⟩
    · rcases hend with h | h
      · exact .inl (by rw [List.getElem?_toArray]; exact List.getElem?_eq_none (by omega))
      · exact .inr (by rw [List.getElem?_toArray]; exact List.getElem?_eq_none (by omega))
    · simp only [List.mem_cons, List.not_mem_nil, or_false, not_or] at hb
      exact hk b o hb.1 hb.2.2.1 hb.2.2.2.1 hb.2.2.2.2 q
  self := fun A i s Q E st h => wpAny_pyIter_zip st.1 h
section
variable {X : Cx}
def iZip (K : PySem.W.Frag) (ta : TA) : TI := fun σ H R => ta σ H fun vs H1 => ∃ a b, vs = [.ref a, .ref b] ∧ (∃ xs, SqL K H1 a xs) ∧ (∃ xs, SqL K H1 b xs) ∧ R (Itz K a b) H1
theorem pi_zip {a b : Expr} {ta : TA} {elts : List Expr} {x1 : Nat} {tp p pos : Pos} (hg : Gl X "zip") (hm : X.mg "zip" = none) (ha : PA X [a, b] ta) (hs : starEach [a, b] X.env = (false, eval a X.env) :: starEach [b] X.env := by rfl)
    (hs2 : ((backTo pos (starEach [b] X.env)).any (·.1)) = false := by rfl) : PI X (.Tuple elts x1 tp) (.Call (.Name "zip" p) [a, b] [] pos) (iZip X.K ta) := by
  intro pins s σ H R I h
  refine Call_ (ld_blt I hg hm boot_zip (PyProof.Rows.callWith_type1 (thn (ha pos pins s σ H _ I h) fun us s1 ⟨vs, H1, I1, r1, q1⟩ => ?_) hs hs2))
  refine L2.goal_let ?_
  intro q_
  obtain ⟨l1, l2, e, ⟨xs, hq⟩, ⟨ys, hq2⟩, q⟩ := q1
  dsimp only [q_]
  clear q_
  subst e
  cases r1 with
  | cons r rr =>
    cases rr with
    | cons r' rr =>
      cases rr
      cases r
      cases r'
      obtain ⟨its, rv, pl, hz⟩ := I1.list hq
      obtain ⟨its2, rv2, pl2, hz2⟩ := I1.list hq2
      refine call_zip_2 pl.isList pl2.isList fun h' hz' hTI hTO hi1 hi2 hsz hk => ?_
      have I3 : Inv X pins σ H1 { s1 with heap := h' } := I1.kept (t' := s1.toks) hk
      have T := turn_zip (P := X.prog) (w := X.w) (K := X.K) (elts := elts) (x1 := x1) (tp := tp) s1.heap.objs.size l1 l2
      have st : ZipSt (s1.heap.objs.size + 4) (s1.heap.objs.size + 2) (s1.heap.objs.size + 3) s1.heap.objs.size (s1.heap.objs.size + 1) l1 l2 0 h' := ⟨hz', hTI, ⟨_, _, hTO⟩, hi1, hi2⟩
      refine T.self _ 0 { s1 with heap := h' } _ _ st ⟨_, _, _, _, H1, rfl, I3, T, st, fun c hc => ?_, q⟩
      simp only [List.mem_cons, List.not_mem_nil, or_false] at hc
      have hle : s1.heap.objs.size ≤ c := by rcases hc with rfl | rfl | rfl | rfl | rfl <;> first | exact Nat.le_add_right _ _ | exact Nat.le_refl _
      exact I1.fpOk hle (I1.hok.fresh hle)
end
theorem for_zip {K : PySem.W.Frag} {a b : Addr} {xs ys : List V} {g : TG} {tb : TS} {D : Ends} {σ : St} {H : Hp} (Pv : Nat → St → Hp → Prop) (hxy : xs.length = ys.length) (h0 : Pv 0 σ H) (hl : ∀ i σ H, i ≤ xs.length → Pv i σ H → SqL K H a xs ∧ SqL K H b ys)
    (hs : ∀ i v u σ H p, xs[i]? = some v → ys[i]? = some u → H p = none → Pv i σ H → g (.ref p) σ (upd H p (.tup [v, u])) fun σ2 H2 => tb { D with nx := Pv (i + 1), ct := Pv (i + 1), bk := D.nx } σ2 H2) (hd : ∀ σ H, Pv xs.length σ H → D.nx σ H) :
    ∃ W : Nat → Nat → St → Hp → Prop, (∃ m, W 0 m σ H) ∧ ∀ i m σ H, W i m σ H →
      ((Itz K a b).stop i H ∧ D.nx σ H) ∨ ((Itz K a b).go i H ∧ ∃ N : St → Hp → Prop, (∀ σ' H', N σ' H' → ∃ m', m' < m ∧ W (i + 1) m' σ' H') ∧ ∀ x H', (Itz K a b).yld i H x H' → g x σ H' fun σ2 H2 => tb { D with nx := N, ct := N, bk := D.nx } σ2 H2) := by
  refine ⟨fun i m σ H => m = xs.length - i ∧ i ≤ xs.length ∧ Pv i σ H, ⟨xs.length, by simp, Nat.zero_le _, h0⟩, ?_⟩
  rintro i m σ H ⟨rfl, hi, p⟩
  obtain ⟨q, q2⟩ := hl i σ H hi p
  by_cases hlt : i < xs.length
  · refine .inr ⟨⟨xs, _, ys, _, q, List.getElem?_eq_getElem hlt, q2, List.getElem?_eq_getElem (show i < ys.length by omega)⟩, Pv (i + 1), fun σ' H' p' => ⟨xs.length - (i + 1), by omega, rfl, hlt, p'⟩, fun x H' y => ?_⟩
    refine L2.goal_let ?_
    intro q_
    obtain ⟨r, v, u, hr, hv, hu, rfl, rfl⟩ := y
    dsimp only [q_]
    clear q_
    exact hs i v u σ H r (hv xs q) (hu ys q2) hr p
  · have e : i = xs.length := by omega
    subst e
    exact .inl ⟨⟨xs, ys, q, q2, .inl (Nat.le_refl _)⟩, hd σ H p⟩
end L2
set_option Elab.async false
set_option linter.all false
set_option maxRecDepth 100000
set_option maxHeartbeats 4000000
namespace L2
open PySem PySem.Spec PyProof.Rows
namespace En
section
variable {prog : Program} {w : World} {A : Around} {E : Value → Shared → Prop} {s : Shared}
end
end En
end L2
set_option Elab.async false
set_option linter.all false
set_option maxRecDepth 100000
set_option maxHeartbeats 4000000
namespace L2
open PySem PySem.Spec PyProof.Rows
namespace En
open AutoSeq1 (wpAny_loadPart')
section
variable {prog : Program} {w : World} {A : Around} {E : Value → Shared → Prop} {s : Shared}
end
end En
section
variable {X : Cx}
end
end L2
set_option Elab.async false
set_option linter.all false
set_option maxRecDepth 100000
set_option maxHeartbeats 4000000
namespace L2
open PySem PySem.Spec PyProof.Rows
namespace En
open AutoSeq1 (wpAny_loadPart')
section
variable {prog : Program} {w : World} {A : Around} {E : Value → Shared → Prop} {s : Shared}
end
end En
section
variable {X : Cx}
end
end L2
set_option Elab.async false
set_option linter.all false
set_option maxRecDepth 100000
set_option maxHeartbeats 4000000
namespace L2
open PySem PySem.Spec PyProof.Rows
def isTup (H : Hp) (ns : List Int) : Value → Bool
  | .ref p => match H p with
    | some (.tup xs) => decide (xs = intV ns)
    | _ => false
  | _ => false
theorem ints_inj {ns ms : List Int} (h : intV ns = intV ms) : ns = ms := by
  unfold intV at h
  exact (List.map_inj_right (fun a b z => V.int.inj z)).mp h
theorem isTup_ref {H : Hp} {p : Addr} {ns ms : List Int} (h : H p = some (.tup (intV ms))) : isTup H ns (.ref p) = decide (ms = ns) := by
  unfold isTup
  simp only [h]
  rw [Bool.eq_iff_iff, decide_eq_true_iff, decide_eq_true_iff]
  exact ⟨ints_inj, fun z => by rw [z]⟩
theorem words_eqAt {X : Cx} {pins : List (Addr × Obj)} {σ : St} {H : Hp} {s : Shared} {A : Around} (I : Inv X pins σ H s) {ps : List Addr} {ms : List (List Int)} {t : Addr} {ns : List Int} (hp : TupsAt H ps ms) (ht : H t = some (.tup (intV ns))) (hu : A.units < cLine) : ∀ y, y ∈ (ps.map Value.ref).toArray → SeqAt.EqAt A s y (.ref t) (isTup H ns y) := fun y hy => by
  obtain ⟨p, hpm, rfl⟩ := List.mem_map.mp (List.mem_toArray.mp hy)
  obtain ⟨i, hi⟩ := List.getElem?_of_mem hpm
  have hil := (List.getElem?_eq_some_iff.mp hi).1
  have hm : ms[i]? = some (ms[i]'(by rw [← hp.1]; exact hil)) := List.getElem?_eq_getElem (by rw [← hp.1]; exact hil)
  have h1 := hp.2 i p _ hi hm
  rw [isTup_ref h1]
  exact eq_tups I h1 ht hu
theorem words_any {H : Hp} {ps : List Addr} {ms : List (List Int)} {ns : List Int} (hp : TupsAt H ps ms) : (ps.map Value.ref).toArray.any (isTup H ns) = decide (ns ∈ ms) := by
  rw [List.any_toArray, Bool.eq_iff_iff, List.any_eq_true, decide_eq_true_iff]
  constructor
  · rintro ⟨y, hy, e⟩
    obtain ⟨p, hpm, rfl⟩ := List.mem_map.mp hy
    obtain ⟨i, hi⟩ := List.getElem?_of_mem hpm
    have hil := (List.getElem?_eq_some_iff.mp hi).1
    have hm : ms[i]? = some (ms[i]'(by rw [← hp.1]; exact hil)) := List.getElem?_eq_getElem (by rw [← hp.1]; exact hil)
    rw [isTup_ref (hp.2 i p _ hi hm), decide_eq_true_iff] at e
    rw [← e]
    exact List.mem_of_getElem? hm
  · intro h
    obtain ⟨i, hi⟩ := List.getElem?_of_mem h
    have hil := (List.getElem?_eq_some_iff.mp hi).1
    have hq : ps[i]? = some (ps[i]'(by rw [hp.1]; exact hil)) := List.getElem?_eq_getElem (by rw [hp.1]; exact hil)
    refine ⟨.ref _, List.mem_map.mpr ⟨_, List.mem_of_getElem? hq, rfl⟩, ?_⟩
    rw [isTup_ref (hp.2 i _ _ hq hi)]
    exact decide_eq_true rfl
section
variable {X : Cx}
def rNotInLT : R2 := fun x y H Q => ∃ t a ns ms, x = .ref t ∧ y = .ref a ∧ H t = some (.tup (intV ns)) ∧ WordsAt H a ms ∧ Q (.bl (!decide (ns ∈ ms))) H
theorem op_NOTIN_lt (hu : X.A.units + 1 < cLine) : OpR X (compareOp .NotIn) rNotInLT := by
  intro pins s σ H x y v u Q I rx ry h
  refine L2.goal_let ?_
  intro q_
  obtain ⟨t, a, ns, ms, rfl, rfl, ht, ⟨ps, ha, hp⟩, q⟩ := h
  dsimp only [q_]
  clear q_
  cases rx
  cases ry
  obtain ⟨its, r, p, _⟩ := I.list (SqL.of ha)
  have e1 := vals_refs r
  subst e1
  refine SeqAt.notIn_listAt (isTup H ns) p.isList (words_eqAt I hp ht hu) ?_
  rw [words_any hp]
  exact ⟨.bl _, H, I, rfl, q⟩
theorem first_ofT {l : List (List Int)} {c : List Int} (h : c ∈ l) : ∃ i : Nat, l[i]? = some c ∧ ∀ j, j < i → l[j]? ≠ some c := by
  induction l with
  | nil => cases h
  | cons a l ih =>
    by_cases e : a = c
    · exact ⟨0, by rw [e]; rfl, fun j hj => by omega⟩
    · obtain ⟨i, h1, h2⟩ := ih ((List.mem_cons.mp h).resolve_left (Ne.symm e))
      refine ⟨i + 1, h1, fun j hj => ?_⟩
      cases j with
      | zero => exact fun z => e (Option.some.inj z)
      | succ j => exact h2 j (by omega)
def rIndexLT : V → List V → Hp → VK → Prop := fun x vs H Q => ∃ (a t : Addr) (ms : List (List Int)) (ns : List Int), x = .ref a ∧ vs = [.ref t] ∧ H t = some (.tup (intV ns)) ∧ WordsAt H a ms ∧ ns ∈ ms ∧ ∀ i : Nat, ms[i]? = some ns → (∀ j, j < i → ms[j]? ≠ some ns) → Q (.int i) H
theorem mt_index_lt (hu : X.A.units + 1 < cLine) : MtM X "list.index" rIndexLT := by
  intro pins s σ H x vs v us Q I rx rv h
  refine L2.goal_let ?_
  intro q_
  obtain ⟨a, t, ms, ns, rfl, rfl, ht, ⟨ps, ha, hp⟩, hm, q⟩ := h
  dsimp only [q_]
  clear q_
  cases rx
  obtain ⟨u, rfl, ru⟩ := rv.one
  cases ru
  obtain ⟨z, its, n, r, hl, e⟩ := I.lstM ha
  have e1 := vals_refs r
  subst e1
  rw [List.length_map] at z
  obtain ⟨i, h1, h2⟩ := first_ofT hm
  have hi : i < ms.length := (List.getElem?_eq_some_iff.mp h1).1
  have hpl := hp.1
  have at_ : ∀ (m : Nat) (hm : m < (ps.map Value.ref).toArray.size), isTup H ns (ps.map Value.ref).toArray[m] = decide (ms[m]? = some ns) := fun m hm => by
    have hm' : m < ps.length := by simpa using hm
    have g1 : ps[m]? = some ps[m] := List.getElem?_eq_getElem hm'
    have g2 : ms[m]? = some (ms[m]'(by omega)) := List.getElem?_eq_getElem (by omega)
    have f1 : (ps.map Value.ref).toArray[m] = Value.ref ps[m] := by simp
    rw [f1, isTup_ref (hp.2 m _ _ g1 g2), g2, Bool.eq_iff_iff, decide_eq_true_iff, decide_eq_true_iff]
    exact ⟨fun z => by rw [z], fun z => Option.some.inj z⟩
  have hsz : (sizeLine : Nat) < 2 ^ 62 := by decide
  refine call_meets F.slot_list_index ⟨_, e, rfl⟩ F.entry_list_index (F.args_list_index_2 _ _)
    (SeqAt.list_indexAt a (ps.map Value.ref).toArray n none #[] (.ref t) (isTup H ns) i (by simp; omega) (by omega) (by rw [at_]; exact decide_eq_true h1) (fun m hm hlt => by rw [at_]; exact decide_eq_false (h2 m hlt))) ⟨e, words_eqAt I hp ht ?_, ?_⟩
  · exact hu
  · exact ⟨.int i, H, I.tok _, ⟨_, rfl⟩, q i h1 h2⟩
end
section
variable {X : Cx} {tg : Expr}
end
section
variable {X : Cx} {pins : List (Addr × Obj)} {σ : St} {H : Hp} {s : Shared} {A : Around}
theorem all_true (n : Nat) (f : Nat → Bool) (h : ∀ j, f j = true) : (List.range n).all f = true := List.all_eq_true.mpr fun j _ => h j
theorem eq_tabs (I : Inv X pins σ H s) {r q : Addr} {ns : List (List Int)} (hr : TabAt H r ns) (hq : TabAt H q ns) (hu : A.units + 1 < cLine) : SeqAt.EqAt A s (.ref r) (.ref q) true := by
  by_cases e : r = q
  · subst e
    exact SeqAt.EqAt.same _
  · refine SeqAt.EqAt.of_refs e ?_
    obtain ⟨rs, ha, hra⟩ := hr
    obtain ⟨qs, hb, hrb⟩ := hq
    obtain ⟨its, r1, p1, _⟩ := I.list (SqL.of ha)
    obtain ⟨its2, r2, p2, _⟩ := I.list (SqL.of hb)
    have e1 := vals_refs r1
    have e2 := vals_refs r2
    subst e1 e2
    have := SeqAt.RcAt.lists (A := A) (e := fun j => decide (ns[j]? = ns[j]?)) p1.isList p2.isList (by simp [hra.1, hrb.1]) (by omega) (fun j h1 h2 => rows_items I hra hrb hu j h1 h2)
    rw [all_true _ _ fun j => decide_eq_true rfl] at this
    exact this
theorem eq_words (I : Inv X pins σ H s) {r q : Addr} {ns : List (List Int)} (hr : WordsAt H r ns) (hq : WordsAt H q ns) (hu : A.units + 1 < cLine) : SeqAt.EqAt A s (.ref r) (.ref q) true := by
  by_cases e : r = q
  · subst e
    exact SeqAt.EqAt.same _
  · refine SeqAt.EqAt.of_refs e ?_
    obtain ⟨rs, ha, hra⟩ := hr
    obtain ⟨qs, hb, hrb⟩ := hq
    obtain ⟨its, r1, p1, _⟩ := I.list (SqL.of ha)
    obtain ⟨its2, r2, p2, _⟩ := I.list (SqL.of hb)
    have e1 := vals_refs r1
    have e2 := vals_refs r2
    subst e1 e2
    have := SeqAt.RcAt.lists (A := A) (e := fun j => decide (ns[j]? = ns[j]?)) p1.isList p2.isList (by simp [hra.1, hrb.1]) (by omega) (fun j h1 h2 => tups_items I hra hrb hu j h1 h2)
    rw [all_true _ _ fun j => decide_eq_true rfl] at this
    exact this
end
section
variable {X : Cx}
end
end L2
set_option Elab.async false
set_option linter.all false
set_option maxRecDepth 100000
set_option maxHeartbeats 4000000
namespace L2
open PySem PySem.Spec PyProof.Rows
def RawD (h : Heap) (d : Addr) (es : Array DictEntry) (ep : Nat) : Prop := ∃ o, h.get? d = some o ∧ o.ExactDict ∧ o.data = .dict es ep
section
variable {X : Cx}
end
end L2
set_option Elab.async false
set_option linter.all false
set_option maxRecDepth 100000
set_option maxHeartbeats 4000000
namespace L2
open PySem PySem.Spec PyProof.Rows
open Sem (wp)
open AutoSeq1 (wpAny_loadPart')
section
variable {prog : Program} {w : World} {A : Around} {E : Value → Shared → Prop} {s : Shared}
theorem collect_range {Q : List Value → Shared → Prop} {r : Addr} {a b c : Int} {t u v : Tok} {n : Nat} (hh : A.handled = none) (hr : IsRange s.heap r a b c t u v) (hsmall : Builtin.Range.small a b c = true)
    (hn : Builtin.Range.rangeSize a b c = n) (hlen : n ≤ 2 ^ 24)
    (hQ : ∀ (h' : Heap) (tk : Nat) (acc : Array Value), (∀ b o, s.heap.get? b = some o → h'.get? b = some o) → ItemsOf (fun i v => ∃ t, v = .int (a + i * c) t) acc n → Q acc.toList { s with heap := h', toks := tk }) :
    wpAny (model prog w) A (collect (.ref r)) Q E s := by
  unfold collect
  refine wpAny_bind (wpAny_runValue (codeAny_builtin F.entry_proto_collect ?_))
  rw [Around.under_plainId F.plain_proto_collect _]
  show wpAny _ A.in1 (newList [] >>= fun l => again (.builtin "list.__iadd__" ⟨[l, .ref r], []⟩)) _ _ s
  refine wpAny_bind (wpAny_newObj_type ?_)
  refine wpAny_pure ⟨plainId_quiet F.plain_list_iadd _, codeAny_builtin F.entry_list_iadd ?_⟩
  rw [Around.under_plainId F.plain_list_iadd _]
  show wpAny _ A.in1 (Builtin.List.listExtendWith (.ref s.heap.objs.size) (.ref r) (.ref s.heap.objs.size)) _ _ _
  have hS : (s.heap.push { cls := .type "list", data := .seq ([] : List Value).toArray }).get? s.heap.objs.size = some { cls := .type "list", data := .seq #[] 0 } := Heap.get?_push_size _ rfl
  have fin' : ∀ (h' : Heap) (tk : Nat) (acc' : Array Value) (c' : Nat), (∀ b o, s.heap.get? b = some o → h'.get? b = some o) → h'.get? s.heap.objs.size = some { cls := .type "list", dict := none, data := .seq acc' c', slots := #[] } → ItemsOf (fun i v => ∃ t, v = .int (a + i * c) t) acc' n →
      wpAny (model prog w) A (match Value.ref s.heap.objs.size with
      | Value.ref a => do
        match (← load a).data with
          | Data.seq xs _ => pure xs.toList
          | _ => unsupported "internal:collect"
      | _ => unsupported "internal:collect") Q E { s with heap := h', toks := tk } := by
    intro h' tk acc' c' kp hg hit
    show wpAny _ A (load s.heap.objs.size >>= _) _ _ _
    refine wpAny_bind (wpAny_load hg ?_)
    exact wpAny_pure (hQ h' tk acc' kp hit)
  refine wpAny_mono (wpAny_extend_range (A := A) (R := fun x s' => ∃ (h' : Heap) (tk : Nat) (acc' : Array Value) (c' : Nat), x = .ok (.ret (.ref s.heap.objs.size)) ∧ s' = { s with heap := h', toks := tk } ∧ (∀ b o, s.heap.get? b = some o → h'.get? b = some o) ∧ h'.get? s.heap.objs.size = some { cls := .type "list", dict := none, data := .seq acc' c', slots := #[] } ∧ ItemsOf (fun i v => ∃ t, v = .int (a + i * c) t) acc' n)
    (s := { s with heap := s.heap.push { cls := .type "list", data := .seq ([] : List Value).toArray } }) hh (Heap.get?_push_of_some _ hr) hsmall hn hlen s.heap.objs.size (.ref s.heap.objs.size) 0 hS (fun h' tk acc' c' kp hg hit => ⟨h', tk, acc', c', rfl, rfl, fun b o e => kp b o (Nat.ne_of_lt (Heap.lt_size e)) (Heap.get?_push_of_some _ e), hg, hit⟩)) (fun fin s' h => ?_) (fun e s' h => ?_)
  · cases fin with
    | done f =>
      refine L2.goal_let ?_
      intro q_
      obtain ⟨h', tk, acc', c', e, rfl, kp, hg, hit⟩ := h
      dsimp only [q_]
      clear q_
      cases e
      exact fin' h' tk acc' c' kp hg hit
    | again c' => exact ⟨h.1, codeAny_mono h.2 fun r s'' hr => by obtain ⟨h', tk, acc', c', rfl, rfl, kp, hg, hit⟩ := hr; exact fin' h' tk acc' c' kp hg hit⟩
  · refine L2.goal_let ?_
    intro q_
    obtain ⟨_, _, _, _, e, _⟩ := h
    dsimp only [q_]
    clear q_
    cases e
theorem code_tuple_range {Q₁ : Value → Shared → Prop} {r : Addr} {a b c : Int} {t u v : Tok} {n : Nat} (hh : A.handled = none) (hr : IsRange s.heap r a b c t u v) (hsmall : Builtin.Range.small a b c = true)
    (hn : Builtin.Range.rangeSize a b c = n) (hlen : n ≤ 10000)
    (h : ∀ (h' : Heap) (tk : Nat) (acc : Array Value), (∀ b o, s.heap.get? b = some o → h'.get? b = some o) → ItemsOf (fun i v => ∃ t, v = .int (a + i * c) t) acc n → Q₁ (.ref h'.objs.size) { s with heap := h'.push { cls := .type "tuple", data := .seq acc }, toks := tk }) :
    codeAny (model prog w) A (.call (.builtin "tuple.__new__") ⟨[.type "tuple", .ref r], []⟩) (wants Q₁ E) s := by
  refine codeAny_of_tree ?_
  show wpAny _ A.in1 (do checkBuiltinCall "tuple.__new__" ⟨[.type "tuple", .ref r], []⟩; again (.builtin "tuple.__new__" ⟨[.type "tuple", .ref r], []⟩)) _ _ s
  refine wpAny_bind (wpAny_of_eq (F.newCall_tuple_1 _) (wpAny_pure ⟨plainId_quiet F.plain_tuple_new _, codeAny_builtin F.entry_tuple_new ?_⟩))
  rw [Around.under_plainId F.plain_tuple_new _]
  have hsub := sub_tuple_self
  have hinit := init_tuple_lookup
  have hmh := madeHere_tuple
  have hTI : s.TypeIs (.ref r) "range" := ⟨_, hr, rfl⟩
  wp_walk using wpAny_typeOf hTI, collect_range (A := A.in1) hh hr hsmall hn (Nat.le_trans hlen (by decide))
  intro h' tk acc kp hit
  show wpAny _ _ (Builtin.Tuple.tupleExact acc.toList.toArray >>= fun v => ret v) _ _ _
  unfold Builtin.Tuple.tupleExact
  refine wpAny_bind (wpAny_newObj_type ?_ (by show acc.toList.toArray.size ≤ sizeLine; simp only [Array.toArray_toList]; rw [hit.1]; exact Nat.le_trans hlen (by decide)))
  refine wpAny_pure ?_
  have e : acc.toList.toArray = acc := by simp
  rw [e]
  exact h h' tk acc kp hit
theorem call_tuple_range {Q : Value → Shared → Prop} {r : Addr} {a b c : Int} {t u v : Tok} {n : Nat} (hh : A.handled = none) (hr : IsRange s.heap r a b c t u v) (hsmall : Builtin.Range.small a b c = true)
    (hn : Builtin.Range.rangeSize a b c = n) (hlen : n ≤ 10000)
    (hQ : ∀ (h' : Heap) (tk : Nat) (acc : Array Value), (∀ b o, s.heap.get? b = some o → h'.get? b = some o) → ItemsOf (fun i v => ∃ t, v = .int (a + i * c) t) acc n → Q (.ref h'.objs.size) { s with heap := h'.push { cls := .type "tuple", data := .seq acc }, toks := tk }) :
    wpAny (model prog w) A (call (.type "tuple") [.ref r]) Q E s := by
  refine callType_codes (Q₁ := fun obj s₁ => s₁.TypeIs obj "tuple" ∧ Q obj s₁) F.called_tuple (F.typeCall_tuple_1 _) F.entry_object_init
    (code_tuple_range (A := A.in1) hh hr hsmall hn hlen fun h' tk acc kp hit => ⟨⟨_, Heap.get?_push_size _ rfl, rfl⟩, hQ h' tk acc kp hit⟩) fun obj s₁ h₁ => ?_
  exact ⟨h₁.1, F.args_object_init_2 obj _, object_init_meets F.called_tuple.init.lookup F.called_tuple.made (by decide) prog w A.in1 _ s₁ ⟨h₁.1, rfl, h₁.2⟩⟩
end
section
variable {X : Cx} {a b : Expr} {ta : TA} {p p2 pos pos2 : Pos}
def tTR1 (ta : TA) : TE := fun σ H Q => ta σ H fun vs H1 => ∃ j : Nat, vs = [.int j] ∧ j ≤ 10000 ∧ ∀ l, H1 l = none → Q (.ref l) (upd H1 l (.tup (intV (rng 0 j))))
theorem tuple_range {pins : List (Addr × Obj)} {σ : St} {H : Hp} {s : Shared} {Q : VK} {hi : Int} {t u v : Tok} {tk : Nat} (hc : X.calm = true) (I : Inv X pins σ H s) (h3 : 0 ≤ hi) (h4 : hi ≤ 10000)
    (q : ∀ l, H l = none → Q (.ref l) (upd H l (.tup (intV (rng 0 hi.toNat))))) : wpAny (model X.prog X.w) X.A (call (.type "tuple") [.ref s.heap.objs.size]) (EP X pins σ Q) X.xe { s with heap := s.heap.push { cls := .type "range", data := .fields #[.int 0 t, .int hi u, .int 1 v] }, toks := tk } := by
  have I1 : Inv X pins σ H { s with heap := s.heap.push { cls := .type "range", data := .fields #[.int 0 t, .int hi u, .int 1 v] }, toks := tk } := I.kept fun b o e => Heap.get?_push_of_some _ e
  have hsz : Builtin.Range.rangeSize 0 hi 1 = ((hi.toNat : Nat) : Int) := by rw [rangeSize_one]; split <;> omega
  refine call_tuple_range (n := hi.toNat) (I.ok.hd hc) (IsRange.new ..) (small_one (by omega) (by omega) (by omega) (by omega)) hsz (by omega) fun h' tk' acc' kp hit => ?_
  have I2 := I1.kept (t' := tk') kp
  refine ⟨.ref _, _, I2.laid (t' := tk') (o := .tup (intV (rng 0 hi.toNat))) (fun b o e => Heap.get?_push_of_some _ e) (Nat.le_refl _) (show ObjOk X.prog X.w _ _ _ (.tup (intV (rng 0 hi.toNat))) from ⟨?_, acc'.toList, items_vals hit, ?_⟩), rfl, q _ (I2.hok.fresh (Nat.le_refl _))⟩
  · rw [ints_len, rng_len]
    exact Nat.le_trans (show hi.toNat ≤ 10000 by omega) (by decide)
  · rw [Array.toArray_toList]
    exact IsTup.new _ _
theorem pe_tupRange1 (hc : X.calm = true) (hgl : Gl X "tuple") (hml : X.mg "tuple" = none) (hg : Gl X "range") (hm : X.mg "range" = none) (ha : PA X [a] ta) (hs : starEach [a] X.env = [(false, eval a X.env)] := by rfl)
    (hs2 : starEach [.Call (.Name "range" p) [a] [] pos] X.env = [(false, eval (.Call (.Name "range" p) [a] [] pos) X.env)] := by rfl) : PE X (.Call (.Name "tuple" p2) [.Call (.Name "range" p) [a] [] pos] [] pos2) (tTR1 ta) := by
  intro pins s σ H Q I h
  refine wpAny_Call_Name_kw (ld_blt I hgl hml boot_tuple ?_)
  refine PyProof.Rows.callWith_type1 ?_ hs2 rfl
  rw [hs2]
  show wpAny _ _ (spliced ((false, eval (.Call (.Name "range" p) [a] [] pos) X.env) :: backTo pos2 [])) _ _ s
  refine Calls.spliced_cons ?_
  refine Call_ (ld_blt I hg hm boot_range (PyProof.Rows.callWith_type1 (thn (ha pos pins s σ H _ I h) fun us s1 ⟨vs, H1, I1, r1, q1⟩ => ?_) hs rfl))
  obtain ⟨j, e, hj, q⟩ := q1
  subst e
  cases r1 with
  | cons r rr =>
    cases rr
    obtain ⟨t, rfl⟩ := r
    refine call_range_1 (Calls.spliced_nil ?_)
    exact tuple_range hc I1 (by omega) (by omega) (by simpa using q)
end
section
variable {X : Cx}
end
end L2
set_option Elab.async false
set_option linter.all false
set_option maxRecDepth 100000
set_option maxHeartbeats 4000000
namespace L2
open PySem PySem.Spec PyProof.Rows
structure MDef (K : PySem.W.Frag) (C : Addr) (x q : Str) (st : Stmt) (ps : List Str) (f : Addr) (fd : FuncData) : Prop where
  F : Fun K x q st f fd
  m : Meth K C x f
  b : Binds K fd ps []
section
variable {X : Cx}
end
section
variable {X : Cx} {o e : Expr} {es : List Expr} {to : TE} {t : TA} {name : Str} {apos cpos : Pos} {T id : String} {r : V → List V → Hp → VK → Prop}
end
end L2
set_option Elab.async false
set_option linter.all false
set_option maxRecDepth 100000
set_option maxHeartbeats 4000000
namespace L2
open PySem PySem.Spec PyProof.Rows
def mxD : List Int → Int
  | [] => 0
  | z :: r => r.foldl (fun m x => if x > m then x else m) z
theorem mxD_snoc {ns : List Int} {z : Int} (h : ns ≠ []) : mxD (ns ++ [z]) = if z > mxD ns then z else mxD ns := by
  cases ns with
  | nil => exact absurd rfl h
  | cons y r =>
    show (r ++ [z]).foldl (fun m x => if x > m then x else m) y = _
    rw [List.foldl_append]
    rfl
section
variable {prog : Program} {w : World} {A : Around} {E : Value → Shared → Prop}
theorem loop_maxD {R : Result → Shared → Prop} {it l bst : Addr} {its : List Value} {ns : List Int} {d : Value} (hh : A.in1.handled = none) (hv : Vals (intV ns) its) (hne : l ≠ it) (n1 : bst ≠ it) (n2 : bst ≠ l) :
    ∀ (k i : Nat) (s : Shared) (old : Array Value) (c : Nat), its.length - i = k → i ≤ its.length → s.heap.IsListIter it l i → s.heap.IsList l its.toArray → s.heap.get? bst = some { cls := .type "list", dict := none, data := .seq old c, slots := #[] } →
    ((i = 0 ∧ old = #[]) ∨ (0 < i ∧ ∃ t, old = #[.int (mxD (ns.take i)) t, .int (mxD (ns.take i)) t])) →
    (∀ v h' tk, (ns = [] ∧ v = d ∨ ns ≠ [] ∧ ∃ t, v = .int (mxD ns) t) → (∀ b o, b ≠ bst → b ≠ it → s.heap.get? b = some o → h'.get? b = some o) → R (.ok (.ret v)) { s with heap := h', toks := tk }) →
    codeAny (model prog w) A (.builtin "max.loop" ⟨[.ref it, .none, .ref bst], [("default", d)]⟩) R s := by
  have hvl : ns.length = its.length := by have := hv.length; rw [ints_len] at this; exact this
  have W := Walks.list (prog := prog) (w := w) (A := A.in1) hh it l hne its.toArray
  have nm : (toString "max" ++ toString ".loop" : String) = "max.loop" := by decide
  have wr1 : ∀ b : Addr, b ≠ it → b ∉ [it] := fun b hb z => hb (List.mem_singleton.mp z)
  intro k
  induction k with
  | zero =>
    intro i s old c hk hi hit hl hb hold hR
    have ei : i = its.length := by omega
    refine codeAny_builtin F.entry_max_loop ?_
    rw [Around.under_plainId F.plain_max_loop _]
    show wpAny _ A.in1 (seqItems? (.ref bst) >>= _) _ _ s
    refine wpAny_bind (wpAny_seqItems hb rfl ?_)
    show wpAny _ A.in1 (tryCatch (pyNext (.ref it)) _ >>= _) _ _ s
    refine wpAny_bind (wpAny_tryCatch (W.done s _ _ ⟨by rw [List.size_toArray, ← ei]; exact hit, hl⟩ fun h' tk kp => ?_))
    have hb2 := kp bst _ (wr1 _ n1) hb
    rcases hold with ⟨e0, rfl⟩ | ⟨e0, t, rfl⟩
    · have en : ns = [] := List.eq_nil_of_length_eq_zero (by omega)
      show wpAny _ A.in1 (rule _ >>= _) _ _ _
      refine wpAny_bind (wpAny_rule ?_)
      exact wpAny_pure (hR d h' tk (.inl ⟨en, rfl⟩) fun b o _ hi e => kp b o (wr1 _ hi) e)
    · have en : ns ≠ [] := fun z => by rw [z] at hvl; simp at hvl; omega
      show wpAny _ A.in1 (updateSeq bst (fun _ => #[]) >>= _) _ _ _
      refine wpAny_bind (wpAny_updateSeq hb2 rfl (wpAny_bind (wpAny_letGo (wpAny_pure ?_))))
      rw [List.take_of_length_le (by omega)]
      exact hR _ _ _ (.inr ⟨en, t, rfl⟩) fun b o hbb hi e => (Heap.get?_update_other _ _ (Ne.symm hbb)).trans (kp b o (wr1 _ hi) e)
  | succ k ih =>
    intro i s old c hk hi hit hl hb hold hR
    have hlt : i < its.length := by omega
    refine codeAny_builtin F.entry_max_loop ?_
    rw [Around.under_plainId F.plain_max_loop _]
    show wpAny _ A.in1 (seqItems? (.ref bst) >>= _) _ _ s
    refine wpAny_bind (wpAny_seqItems hb rfl ?_)
    show wpAny _ A.in1 (tryCatch (pyNext (.ref it)) _ >>= _) _ _ s
    refine wpAny_bind (wpAny_tryCatch (W.item i s _ _ (by rw [List.size_toArray]; exact hlt) ⟨hit, hl⟩ fun v h' tk hP st2 kp => ?_))
    obtain ⟨hit2, hl2⟩ := st2
    have hb2 := kp bst _ (wr1 _ n1) hb
    have hnz : ns[i]? = some (ns[i]'(by omega)) := List.getElem?_eq_getElem (by omega)
    generalize ns[i]'(by omega) = z at hnz
    obtain ⟨u, hu, ru⟩ := hv.get (i := i) (x := V.int z) (ints_at hnz)
    have hP2 : its[i]? = some v := by simpa using hP
    rw [hu] at hP2
    have euv : u = v := Option.some.inj hP2
    subst euv
    obtain ⟨t2, rfl⟩ := ru
    have etk : ns.take (i + 1) = ns.take i ++ [z] := by rw [List.take_succ, hnz]; rfl
    have fr : ∀ (g : Array Value → Array Value) (b : Addr) (o : Obj), b ≠ bst → h'.get? b = some o → (h'.update bst (Obj.mapSeq g)).get? b = some o := fun g b o hbb e => (Heap.get?_update_other _ _ (Ne.symm hbb)).trans e
    rcases hold with ⟨e0, rfl⟩ | ⟨e0, t, rfl⟩
    · subst e0
      show wpAny _ A.in1 (updateSeq bst (fun _ => #[.int z t2, .int z t2]) >>= _) _ _ _
      refine wpAny_bind (wpAny_updateSeq hb2 rfl ?_)
      rw [nm]
      refine wpAny_pure ⟨plainId_quiet F.plain_max_loop _, ih 1 _ _ _ (by omega) (by omega) (hit2.at fun o e => fr _ _ _ (Ne.symm n1) e) (hl2.at fun o e => fr _ _ _ (Ne.symm n2) e) (Heap.get?_update_self _ hb2 rfl) (.inr ⟨by decide, t2, ?_⟩) fun v h2 tk2 hw kp2 => hR v h2 tk2 hw fun b o hbb hi e => kp2 b o hbb hi (fr _ _ _ hbb (kp b o (wr1 _ hi) e))⟩
      rw [etk]
      rfl
    · have en : ns.take i ≠ [] := fun z => by
        have := congrArg List.length z
        rw [List.length_take, List.length_nil] at this
        omega
      generalize hM : mxD (ns.take i) = M at hb
      show wpAny _ A.in1 (tryCatch (holding [.int z t2, .int z t2] (richCompare .Gt (.int z t2) (.int _ t) >>= _)) _ >>= _) _ _ _
      refine wpAny_bind (wpAny_tryCatch (wpAny_holding (wpAny_bind (richCompare_gives (op := .Gt) (typeIs_int _ _ t2) (typeIs_int _ _ t) F.slot_int_gt F.entry_int_gt (F.args_int_gt_2 _ _) (gives_int_gt _ _ t2 t) (fun x => nomatch x) ?_))))
      refine wpAny_bind (wpAny_holding (wpAny_truthy_bool ?_))
      refine wpAny_bind (wpAny_letGo (wpAny_pure ?_))
      cases hc : decide (z > M) with
      | true =>
        simp only [if_true]
        refine wpAny_bind (wpAny_updateSeq hb2 rfl (wpAny_bind (wpAny_letGo ?_)))
        rw [nm]
        refine wpAny_pure ⟨plainId_quiet F.plain_max_loop _, ih (i + 1) _ _ _ (by omega) (by omega) (hit2.at fun o e => fr _ _ _ (Ne.symm n1) e) (hl2.at fun o e => fr _ _ _ (Ne.symm n2) e) (Heap.get?_update_self _ hb2 rfl) (.inr ⟨by omega, t2, ?_⟩) fun v h2 tk2 hw kp2 => hR v h2 tk2 hw fun b o hbb hi e => kp2 b o hbb hi (fr _ _ _ hbb (kp b o (wr1 _ hi) e))⟩
        rw [etk, mxD_snoc en, hM, if_pos (of_decide_eq_true hc)]
      | false =>
        simp only [Bool.false_eq_true, if_false]
        refine wpAny_bind (wpAny_letGo ?_)
        rw [nm]
        refine wpAny_pure ⟨plainId_quiet F.plain_max_loop _, ih (i + 1) _ _ _ (by omega) (by omega) hit2 hl2 hb2 (.inr ⟨by omega, t, ?_⟩) fun v h2 tk2 hw kp2 => hR v h2 tk2 hw fun b o hbb hi e => kp2 b o hbb hi (kp b o (wr1 _ hi) e)⟩
        rw [etk, mxD_snoc en, hM, if_neg (of_decide_eq_false hc)]
theorem chk_maxD (a d : Value) : checkBuiltinCall "max" ⟨[a], [("default", d)]⟩ = pure () := by kernel_rfl
theorem call_maxD {s : Shared} {Q : Value → Shared → Prop} {l : Addr} {its : List Value} {ns : List Int} {d : Value} (hh : A.handled = none) (hv : Vals (intV ns) its) (hl : s.heap.IsList l its.toArray)
    (hQ : ∀ v h' tk, (ns = [] ∧ v = d ∨ ns ≠ [] ∧ ∃ t, v = .int (mxD ns) t) → (∀ b o, s.heap.get? b = some o → h'.get? b = some o) → Q v { s with heap := h', toks := tk }) :
    wpAny (model prog w) A (call (.builtin "max") [.ref l] [("default", d)]) Q E s := by
  have nm : (toString "max" ++ toString ".loop" : String) = "max.loop" := by decide
  refine wpAny_call (codeAny_call_builtin F.plain_max F.entry_max (wpAny_of_eq (chk_maxD _ _) ?_))
  show wpAny _ A.in1 (Builtin.Builtins.bindParams "max" ["key", "default"] 0 ⟨[], [("default", d)]⟩ >>= _) _ _ s
  refine wpAny_bind (wpAny_of_eq (show Builtin.Builtins.bindParams "max" ["key", "default"] 0 ⟨[], [("default", d)]⟩ = pure [none, some d] from rfl) ?_)
  refine wpAny_bind (wpAny_pure (wpAny_bind (wpAny_pyIter_list hl ?_)))
  obtain ⟨ol, hol, hoc, hod⟩ := id hl
  refine wpAny_bind (wpAny_newObj_type ?_)
  have hlt := Heap.lt_size hol
  have hsz : (s.heap.push { cls := .type "list_iterator", data := .fields #[.ref l, .int 0 0] }).objs.size = s.heap.objs.size + 1 := Heap.size_push ..
  have kp2 : ∀ (b : Addr) (o : Obj), s.heap.get? b = some o → ((s.heap.push { cls := .type "list_iterator", data := .fields #[.ref l, .int 0 0] }).push { cls := .type "list", data := .seq ([] : List Value).toArray }).get? b = some o := fun b o e => Heap.get?_push_of_some _ (Heap.get?_push_of_some _ e)
  rw [nm]
  refine wpAny_pure ⟨plainId_quiet F.plain_max_loop _, loop_maxD (A := A) hh hv (Nat.ne_of_lt hlt) (by show (s.heap.push { cls := .type "list_iterator", data := .fields #[.ref l, .int 0 0] }).objs.size ≠ s.heap.objs.size; rw [hsz]; omega) (by show (s.heap.push { cls := .type "list_iterator", data := .fields #[.ref l, .int 0 0] }).objs.size ≠ l; rw [hsz]; exact Nat.ne_of_gt (Nat.lt_succ_of_lt hlt)) _ 0 _ #[] 0 rfl (Nat.zero_le _) ⟨_, Heap.get?_push_of_some _ (Heap.get?_push_size _ rfl), rfl, rfl⟩ ((hl.push _).push _) (Heap.get?_push_size _ rfl) (.inl ⟨rfl, rfl⟩) fun v h' tk hw kp => ?_⟩
  exact hQ v h' tk hw fun b o e => kp b o (Nat.ne_of_lt (by show b < (s.heap.push { cls := .type "list_iterator", data := .fields #[.ref l, .int 0 0] }).objs.size; rw [hsz]; exact Nat.lt_succ_of_lt (Heap.lt_size e))) (Nat.ne_of_lt (Heap.lt_size e)) (kp2 b o e)
end
section
variable {X : Cx}
def tMaxD (K : PySem.W.Frag) (ta : TA) : TE := fun σ H Q => ta σ H fun vs H1 => ∃ (l : Addr) (ns : List Int), vs = [.ref l] ∧ SqL K H1 l (intV ns) ∧ Q (.int (mxD ns)) H1
theorem pe_maxD {a : Expr} {te : TE} {p pos kp kq : Pos} {j : Nat} (hc : X.calm = true) (hg : Gl X "max") (hm : X.mg "max" = none) (he : PE X a te)
    (hs : starEach [a] X.env = (false, eval a X.env) :: starEach [] X.env := by rfl)
    (hpl : ((backTo pos (starEach [a] X.env)).any (·.1) || (backToKw pos (keywordEach [⟨some "default", .Constant (.int 0) j kq, kp⟩] X.env)).any (·.1.isNone)) = false := by rfl) :
    PE X (.Call (.Name "max" p) [a] [⟨some "default", .Constant (.int 0) j kq, kp⟩] pos) (tMaxD X.K (tCons te tNil)) := by
  intro pins s σ H Q I h
  refine wpAny_Call_Name_kw (ld_blt I hg hm PyProof.Rows.boot_max ?_)
  refine PySem.W.callWith_of (P := fun _ => True) hpl (fun _ _ => ⟨.machine, .inr (.inl rfl), fun _ _ _ _ _ q => wpAny_pure q⟩) (evalArgs_kw2 rfl (thn ((pa_cons he pa_nil hs) pos pins s σ H _ I h) fun us s1 ⟨vs, H1, I1, r, q⟩ => ?_) hs)
  refine thn ((pk_cons pe_int pk_nil : PK X [⟨some "default", .Constant (.int 0) j kq, kp⟩] _) pos pins s1 σ H1 (fun zs H2 => zs = [.int 0] ∧ H2 = H1) I1 ⟨rfl, rfl⟩) fun ws s2 ⟨zs, H2, I2, rz, e1, e2⟩ => ⟨True.intro, ?_⟩
  subst e1 e2
  refine L2.goal_let ?_
  intro q_
  obtain ⟨l, ns, rfl, hq, q⟩ := q
  dsimp only [q_]
  clear q_
  obtain ⟨u, rfl, ru⟩ := vals1 r
  cases ru
  obtain ⟨u2, rfl, t2, rfl⟩ := vals1 rz
  obtain ⟨its, rv, pl, hz⟩ := I2.list hq
  show wpAny _ _ (call (.builtin "max") [.ref l] [("default", .int 0 t2)]) _ _ s2
  refine call_maxD (I2.ok.hd hc) rv pl.isList fun v h' tk hw kp => ⟨.int (mxD ns), H2, I2.kept (t' := tk) kp, ?_, q⟩
  rcases hw with ⟨rfl, rfl⟩ | ⟨_, t, rfl⟩
  · exact ⟨_, rfl⟩
  · exact ⟨_, rfl⟩
def rEqWT : R2 := fun x y H Q => ∃ a b a1 a2 b1 b2 R T, x = .ref a ∧ y = .ref b ∧ H a = some (.lst [.ref a1, .ref a2]) ∧ H b = some (.lst [.ref b1, .ref b2]) ∧ WordsAt H a1 R ∧ WordsAt H b1 R ∧ TabAt H a2 T ∧ TabAt H b2 T ∧ Q (.bl true) H
theorem op_eqWT (hu : X.A.units + 2 < cLine) : OpR X (compareOp .Eq) rEqWT := by
  intro pins s σ H x y v u Q I rx ry h
  refine L2.goal_let ?_
  intro q_
  obtain ⟨a, b, a1, a2, b1, b2, R, T, rfl, rfl, ha, hb, r1, r2, t1, t2, q⟩ := h
  dsimp only [q_]
  clear q_
  cases rx
  cases ry
  obtain ⟨its, v1, p1, _⟩ := I.list (SqL.of ha)
  obtain ⟨its2, v2, p2, _⟩ := I.list (SqL.of hb)
  have e1 : its = [.ref a1, .ref a2] := vals_refs (rs := [a1, a2]) v1
  have e2 : its2 = [.ref b1, .ref b2] := vals_refs (rs := [b1, b2]) v2
  subst e1 e2
  refine SeqAt.eq_listAt (e := fun _ => true) p1.isList p2.isList rfl (by omega) (fun j h1 h2 => ?_) ⟨.bl true, H, I, rfl, q⟩
  have hj : j < 2 := by simpa using h1
  rcases (show j = 0 ∨ j = 1 by omega) with rfl | rfl
  · exact eq_words I r1 r2 hu
  · exact eq_tabs I t1 t2 hu
end
end L2
set_option Elab.async false
set_option linter.all false
set_option maxRecDepth 100000
set_option maxHeartbeats 4000000
namespace M11
def flip (k : Nat) : Nat := if k % 2 = 0 then k + 1 else k - 1
def nx (T : List (List Int)) (k i : Nat) : Nat := ((T.getD i []).getD k 0).toNat
structure Tab (L : Nat) (T : List (List Int)) : Prop where
  pos : 1 ≤ T.length
  top : T.length ≤ 300
  let1 : 1 ≤ L
  let2 : L ≤ 40
  row : ∀ (i : Nat) (r : List Int), T[i]? = some r → r.length = 2 * L
  val : ∀ i k, i < T.length → k < 2 * L → ∃ r : List Int, T[i]? = some r ∧ r[k]? = some ((nx T k i : Nat) : Int)
  lt : ∀ i k, i < T.length → k < 2 * L → nx T k i < T.length
  back : ∀ i k, i < T.length → k < 2 * L → nx T (flip k) (nx T k i) = i
def pl (s : Int) : Nat := if 0 < s then 2 * s.natAbs - 2 else 2 * s.natAbs - 1
def walk (T : List (List Int)) (w : List Int) (i : Nat) : Nat := w.foldl (fun i s => nx T (pl s) i) i
def Steps (L : Nat) (w : List Int) : Prop := ∀ s ∈ w, s ≠ 0 ∧ s.natAbs ≤ L
def back (w : List Int) : List Int := w.reverse.map fun z => -z
theorem pl_lt {L : Nat} {s : Int} (h : s ≠ 0 ∧ s.natAbs ≤ L) : pl s < 2 * L := by
  unfold pl
  split <;> omega
theorem pl_flip {s : Int} (h : s ≠ 0) : pl (-s) = flip (pl s) := by
  unfold pl flip
  rw [Int.natAbs_neg]
  by_cases h1 : 0 < s
  · rw [if_pos h1, if_neg (show ¬ 0 < -s by omega), if_pos (by omega)]
    omega
  · rw [if_neg h1, if_pos (show 0 < -s by omega), if_neg (by omega)]
    omega
theorem walk_lt {L : Nat} {T : List (List Int)} (hT : Tab L T) : ∀ {w : List Int} {i : Nat}, Steps L w → i < T.length → walk T w i < T.length
  | [], i, _, hi => hi
  | s :: w, i, hw, hi => walk_lt hT (w := w) (fun s hs => hw s (List.mem_cons_of_mem _ hs)) (hT.lt i (pl s) hi (pl_lt (hw s (List.mem_cons_self ..))))
theorem walk_app (T : List (List Int)) (w u : List Int) (i : Nat) : walk T (w ++ u) i = walk T u (walk T w i) := List.foldl_append ..
theorem walk_back {L : Nat} {T : List (List Int)} (hT : Tab L T) : ∀ {w : List Int} {i : Nat}, Steps L w → i < T.length → walk T (w ++ back w) i = i
  | [], i, _, _ => rfl
  | s :: w, i, hw, hi => by
    have hs := hw s (List.mem_cons_self ..)
    have hw' : Steps L w := fun s hs => hw s (List.mem_cons_of_mem _ hs)
    have e : back (s :: w) = back w ++ [-s] := by unfold back; rw [List.reverse_cons, List.map_append]; rfl
    have ih := walk_back hT (i := nx T (pl s) i) hw' (hT.lt i (pl s) hi (pl_lt hs))
    rw [e, List.cons_append, ← List.append_assoc]
    show walk T ((w ++ back w) ++ [-s]) (nx T (pl s) i) = i
    rw [walk_app, ih]
    show nx T (pl (-s)) (nx T (pl s) i) = i
    rw [pl_flip hs.1]
    exact hT.back i (pl s) hi (pl_lt hs)
theorem steps_back {L : Nat} {w : List Int} (h : Steps L w) : Steps L (back w) := fun s hs => by
  unfold back at hs
  obtain ⟨y, hy, rfl⟩ := List.mem_map.mp hs
  have := h y (List.mem_reverse.mp hy)
  omega
structure Pm (p : Nat) (r : List Int) : Prop where
  len : r.length = p
  nd : r.Nodup
  rg : ∀ z ∈ r, 0 ≤ z ∧ z < (p : Int)
theorem Pm.at {p : Nat} {r : List Int} (h : Pm p r) {i : Nat} (hi : i < p) : ∃ j : Nat, r[i]? = some (j : Int) ∧ j < p := by
  have hl : i < r.length := by rw [h.len]; exact hi
  have := h.rg r[i] (List.getElem_mem hl)
  exact ⟨r[i].toNat, by rw [List.getElem?_eq_getElem hl, show ((r[i].toNat : Nat) : Int) = r[i] by omega], by omega⟩
theorem set_same {r : List Int} {i j : Nat} {a b : Int} (h1 : r[i]? = some a) (h2 : r[j]? = some b) : ((r.set i b).set j a).Perm r := by
  have hi := (List.getElem?_eq_some_iff.mp h1).1
  have hj := (List.getElem?_eq_some_iff.mp h2).1
  have e1 := (List.getElem?_eq_some_iff.mp h1).2
  have e2 := (List.getElem?_eq_some_iff.mp h2).2
  rw [← e1, ← e2]
  exact List.set_set_perm hi hj
theorem Pm.swap {p : Nat} {r : List Int} (h : Pm p r) {i j : Nat} {a b : Int} (h1 : r[i]? = some a) (h2 : r[j]? = some b) : Pm p ((r.set i b).set j a) := by
  have hp := set_same h1 h2
  exact ⟨by rw [hp.length_eq, h.len], hp.nodup_iff.mpr h.nd, fun z hz => h.rg z (hp.mem_iff.mp hz)⟩
theorem flip_lt {k L : Nat} (h : k < 2 * L) : flip k < 2 * L := by unfold flip; split <;> omega
def RowOk (L : Nat) (f : Nat → Int → Int) (come : List Int) (x : Int) (r : List Int) (m : Nat) : Prop := r.length = m ∧ ∀ k, k < m → ∃ j : Nat, r[k]? = some (j : Int) ∧ come[j]? = some (f k x)
theorem nodup_len : ∀ (n : Nat) (l : List Nat), l.Nodup → (∀ x ∈ l, x < n) → l.length ≤ n
  | 0, [], _, _ => Nat.le_refl _
  | 0, a :: l, _, h => absurd (h a (List.mem_cons_self ..)) (by omega)
  | n + 1, l, hn, h => by
    by_cases hm : n ∈ l
    · have := nodup_len n (l.erase n) (hn.erase n) (fun x hx => by
        have h1 := (hn.mem_erase_iff).mp hx
        have h2 := h x h1.2
        have h3 := h1.1
        omega)
      rw [List.length_erase_of_mem hm] at this
      omega
    · have := nodup_len n l hn (fun x hx => by
        have h2 := h x hx
        have h3 : x ≠ n := fun z => hm (by rw [← z]; exact hx)
        omega)
      omega
theorem nodup_lenI {n : Nat} {l : List Int} (hn : l.Nodup) (h : ∀ x ∈ l, 0 ≤ x ∧ x < (n : Int)) : l.length ≤ n := by
  have h1 : (l.map Int.toNat).Nodup := by
    refine List.pairwise_map.mpr (List.Pairwise.imp_of_mem ?_ hn)
    intro a b ha hb hab z
    have := h a ha
    have := h b hb
    exact hab (by omega)
  have := nodup_len n (l.map Int.toNat) h1 (fun x hx => by
    obtain ⟨y, hy, rfl⟩ := List.mem_map.mp hx
    have := h y hy
    omega)
  rw [List.length_map] at this
  exact this
theorem Pm.surj {p : Nat} {r : List Int} (h : Pm p r) {x : Nat} (hx : x < p) : ∃ i : Nat, r[i]? = some (x : Int) ∧ i < p := by
  have hm : (x : Int) ∈ r := by
    refine Classical.byContradiction fun hm => ?_
    have := nodup_lenI (n := p) (l := (x : Int) :: r) (List.nodup_cons.mpr ⟨hm, h.nd⟩) (fun y hy => by
      rcases List.mem_cons.mp hy with e | hy
      · rw [e]; omega
      · exact h.rg y hy)
    rw [List.length_cons, h.len] at this
    omega
  obtain ⟨i, hi, e⟩ := List.mem_iff_getElem.mp hm
  exact ⟨i, by rw [List.getElem?_eq_getElem hi, e], by rw [← h.len]; exact hi⟩
def InvOf (p : Nat) (r t : List Int) : Prop := t.length = p ∧ ∀ k j : Nat, r[k]? = some (j : Int) → t[j]? = some (k : Int)
def InvTo (p : Nat) (r t : List Int) (n : Nat) : Prop := t.length = p ∧ ∀ k j : Nat, k < n → r[k]? = some (j : Int) → t[j]? = some (k : Int)
theorem InvTo.step {p n j : Nat} {r t : List Int} (h : InvTo p r t n) (hr : Pm p r) (hj : r[n]? = some (j : Int)) (hjp : j < p) : InvTo p r (t.set j (n : Int)) (n + 1) := by
  refine ⟨by rw [List.length_set]; exact h.1, fun k i hk hi => ?_⟩
  by_cases e : k = n
  · subst e
    rw [hj] at hi
    have : j = i := by have := Option.some.inj hi; omega
    subst this
    exact List.getElem?_set_self (by rw [h.1]; exact hjp)
  · have hne : j ≠ i := fun z => by
      subst z
      exact e ((List.getElem?_inj (List.getElem?_eq_some_iff.mp hi).1 hr.nd).mp (hi.trans hj.symm))
    rw [List.getElem?_set_ne hne]
    exact h.2 k i (by omega) hi
theorem InvTo.all {p : Nat} {r t : List Int} (h : InvTo p r t p) (hr : Pm p r) : InvOf p r t := ⟨h.1, fun k j hk => h.2 k j (by
  have := (List.getElem?_eq_some_iff.mp hk).1
  rw [hr.len] at this
  exact this) hk⟩
end M11
namespace M12
open M11
def Fc (W : Nat) (E : List Int) (N : Nat) : Prop := (∀ z ∈ E, 0 ≤ z ∧ z < (N : Int)) ∧ ∀ j : Nat, 0 < j → j < N → ∃ p : Nat, p < j * W ∧ E[p]? = some (j : Int) ∧ ∀ (q : Nat) (z : Int), q < p → E[q]? = some z → z < (j : Int)
theorem Fc.old {W N i : Nat} {E : List Int} (h : Fc W E N) (hi : i < N) : Fc W (E ++ [(i : Int)]) N := by
  refine ⟨fun z hz => ?_, fun j h0 h1 => ?_⟩
  · rcases List.mem_append.mp hz with hz | hz
    · exact h.1 z hz
    · rw [List.mem_singleton.mp hz]; omega
  · obtain ⟨p, a1, a2, a3⟩ := h.2 j h0 h1
    have hp := (List.getElem?_eq_some_iff.mp a2).1
    refine ⟨p, a1, by rw [List.getElem?_append_left hp]; exact a2, fun q z hq hz => a3 q z hq ?_⟩
    rw [List.getElem?_append_left (by omega)] at hz
    exact hz
theorem Fc.new {W N : Nat} {E : List Int} (h : Fc W E N) (hN : 0 < N) (hE : E.length < N * W) : Fc W (E ++ [(N : Int)]) (N + 1) := by
  refine ⟨fun z hz => ?_, fun j h0 h1 => ?_⟩
  · rcases List.mem_append.mp hz with hz | hz
    · have := h.1 z hz; omega
    · rw [List.mem_singleton.mp hz]; omega
  · by_cases e : j = N
    · subst e
      refine ⟨E.length, hE, by rw [List.getElem?_append_right (Nat.le_refl _), Nat.sub_self]; rfl, fun q z hq hz => ?_⟩
      rw [List.getElem?_append_left hq] at hz
      exact (h.1 z (List.mem_of_getElem? hz)).2
    · obtain ⟨p, a1, a2, a3⟩ := h.2 j h0 (by omega)
      have hp := (List.getElem?_eq_some_iff.mp a2).1
      refine ⟨p, a1, by rw [List.getElem?_append_left hp]; exact a2, fun q z hq hz => a3 q z hq ?_⟩
      rw [List.getElem?_append_left (by omega)] at hz
      exact hz
theorem Fc.zero (W : Nat) : Fc W [] 1 := ⟨(fun z hz => by cases hz), (fun j h0 h1 => by omega)⟩
theorem flat_len {T : List (List Int)} {W : Nat} (h : ∀ (i : Nat) (r : List Int), T[i]? = some r → r.length = W) : T.flatten.length = T.length * W := by
  induction T with
  | nil => simp
  | cons r T ih =>
    rw [List.flatten_cons, List.length_append, h 0 r rfl, ih (fun i s hs => h (i + 1) s hs), List.length_cons, Nat.succ_mul]
    omega
theorem flat_at {W : Nat} (hW : 0 < W) : ∀ {T : List (List Int)} {i k : Nat} {r : List Int}, (∀ (i : Nat) (r : List Int), T[i]? = some r → r.length = W) → T[i]? = some r → k < W → T.flatten[i * W + k]? = r[k]?
  | [], i, k, r, _, hr, _ => by simp at hr
  | s :: T, 0, k, r, h, hr, hk => by
    have e : s = r := Option.some.inj hr
    subst e
    rw [List.flatten_cons, Nat.zero_mul, Nat.zero_add, List.getElem?_append_left (by rw [h 0 s rfl]; exact hk)]
  | s :: T, i + 1, k, r, h, hr, hk => by
    have hs := h 0 s rfl
    rw [List.flatten_cons, List.getElem?_append_right (by rw [hs, Nat.succ_mul]; omega), hs]
    have e : (i + 1) * W + k - W = i * W + k := by rw [Nat.succ_mul]; omega
    rw [e]
    exact flat_at hW (fun i r hr => h (i + 1) r hr) hr hk
def st (k : Nat) : Int := if k % 2 = 0 then ((k / 2 + 1 : Nat) : Int) else -((k / 2 + 1 : Nat) : Int)
theorem pl_st (k : Nat) : pl (st k) = k := by
  unfold pl st
  by_cases h : k % 2 = 0
  · rw [if_pos h, if_pos (by omega)]; omega
  · rw [if_neg h, if_neg (by omega)]; omega
theorem st_ok {k L : Nat} (h : k < 2 * L) : st k ≠ 0 ∧ (st k).natAbs ≤ L := by
  unfold st
  split <;> omega
def lexL : List Nat → List Nat → Prop
  | a :: u, b :: v => a < b ∨ (a = b ∧ lexL u v)
  | _, _ => False
def aheadN (u v : List Nat) : Prop := u.length < v.length ∨ (u.length = v.length ∧ lexL u v)
def Lw (L : Nat) (T : List (List Int)) (ws : List (List Nat)) : Prop := ws.length = T.length ∧ ws[0]? = some [] ∧
  ∀ (j p : Nat), 0 < j → j < T.length → T.flatten[p]? = some (j : Int) → (∀ (q : Nat) (z : Int), q < p → T.flatten[q]? = some z → z < (j : Int)) → ∃ u, ws[p / (2 * L)]? = some u ∧ ws[j]? = some (u ++ [p % (2 * L)])
section
variable {L : Nat} {T : List (List Int)} {ws : List (List Nat)} (hT : Tab L T) (hF : Fc (2 * L) T.flatten T.length) (hw : Lw L T ws)
include hT hF hw
end
end M12
namespace M13
open M11 M12
structure Part (L : Nat) (T : List (List Int)) (ws : List (List Nat)) (p : Nat) : Prop where
  pos : ws[0]? = some []
  top : ws.length ≤ T.length
  all : ∀ (q : Nat) (z : Int), q < p → T.flatten[q]? = some z → z < (ws.length : Int)
  wrd : ∀ (j q : Nat), 0 < j → j < ws.length → T.flatten[q]? = some (j : Int) → (∀ (r : Nat) (z : Int), r < q → T.flatten[r]? = some z → z < (j : Int)) → ∃ u, ws[q / (2 * L)]? = some u ∧ ws[j]? = some (u ++ [q % (2 * L)])
  ok : ∀ (i : Nat) (u : List Nat), ws[i]? = some u → (∀ k ∈ u, k < 2 * L) ∧ walk T (u.map st) 0 = i ∧ u.length ≤ i
section
variable {L : Nat} {T : List (List Int)} {ws : List (List Nat)} {p : Nat} (hT : Tab L T) (hF : Fc (2 * L) T.flatten T.length)
include hT hF
theorem Part.start : Part L T [[]] 0 := by
  refine ⟨rfl, hT.pos, fun q z hq => by omega, fun j q h0 h1 => by simp at h1; omega, fun i u hu => ?_⟩
  have e := List.mem_singleton.mp (List.mem_of_getElem? hu)
  have hi : i = 0 := by
    have := (List.getElem?_eq_some_iff.mp hu).1
    simp only [List.length_cons, List.length_nil] at this
    omega
  subst e hi
  exact ⟨fun k hk => (by cases hk), rfl, Nat.le_refl _⟩
theorem Part.has (h : Part L T ws p) {i k : Nat} (hi : i < T.length) (hp : p = i * (2 * L) + k) : i < ws.length := by
  have h1 : 1 ≤ ws.length := (List.getElem?_eq_some_iff.mp h.pos).1
  refine Classical.byContradiction fun hn => ?_
  obtain ⟨q, a1, a2, a3⟩ := hF.2 ws.length (by omega) (by omega)
  have : ws.length * (2 * L) ≤ i * (2 * L) := Nat.mul_le_mul_right _ (by omega)
  have := h.all q _ (by omega) a2
  omega
theorem Part.step {i k : Nat} (h : Part L T ws (i * (2 * L) + k)) (hi : i < T.length) (hk : k < 2 * L) :
    (nx T k i ≠ ws.length → Part L T ws (i * (2 * L) + k + 1)) ∧ (nx T k i = ws.length → ∀ u, ws[i]? = some u → Part L T (ws ++ [u ++ [k]]) (i * (2 * L) + k + 1)) := by
  have hL := hT.let1
  have h1 : 1 ≤ ws.length := (List.getElem?_eq_some_iff.mp h.pos).1
  obtain ⟨r, e1, e2⟩ := hT.val i k hi hk
  have hat : T.flatten[i * (2 * L) + k]? = some ((nx T k i : Nat) : Int) := by
    rw [flat_at (by omega) hT.row e1 hk]
    exact e2
  have hlt := hT.lt i k hi hk
  have hiw := h.has hT hF hi rfl
  have hdiv : (i * (2 * L) + k) / (2 * L) = i := by
    rw [Nat.mul_comm, Nat.mul_add_div (by omega), Nat.div_eq_of_lt hk]
    omega
  have hmod : (i * (2 * L) + k) % (2 * L) = k := by
    rw [Nat.mul_comm, Nat.mul_add_mod, Nat.mod_eq_of_lt hk]
  refine ⟨fun hne => ?_, fun he u hu => ?_⟩
  · have hle : nx T k i < ws.length := by
      refine Classical.byContradiction fun hn => ?_
      obtain ⟨q, a1, a2, a3⟩ := hF.2 ws.length (by omega) (by omega)
      by_cases c1 : q < i * (2 * L) + k
      · have := h.all q _ c1 a2
        omega
      · by_cases c2 : q = i * (2 * L) + k
        · rw [c2, hat] at a2
          have := Option.some.inj a2
          omega
        · have := a3 _ _ (by omega) hat
          omega
    refine ⟨h.pos, h.top, fun q z hq hz => ?_, h.wrd, h.ok⟩
    by_cases c : q = i * (2 * L) + k
    · rw [c, hat] at hz
      have := Option.some.inj hz
      omega
    · exact h.all q z (by omega) hz
  · have hu' := h.ok i u hu
    refine ⟨by rw [List.getElem?_append_left (by omega)]; exact h.pos, by rw [List.length_append]; simp only [List.length_cons, List.length_nil]; omega, fun q z hq hz => ?_, fun j q h0 hj hq hr => ?_, fun i' v hv => ?_⟩
    · rw [List.length_append]
      simp only [List.length_cons, List.length_nil]
      by_cases c : q = i * (2 * L) + k
      · rw [c, hat] at hz
        have := Option.some.inj hz
        omega
      · have := h.all q z (by omega) hz
        omega
    · rw [List.length_append] at hj
      simp only [List.length_cons, List.length_nil] at hj
      by_cases c : j = ws.length
      · have hqp : q = i * (2 * L) + k := by
          by_cases c1 : q < i * (2 * L) + k
          · have := h.all q _ c1 hq
            omega
          · by_cases c2 : q = i * (2 * L) + k
            · exact c2
            · have := hr _ _ (by omega) hat
              omega
        refine ⟨u, ?_, ?_⟩
        · rw [hqp, hdiv, List.getElem?_append_left hiw]
          exact hu
        · rw [c, hqp, hmod, List.getElem?_append_right (Nat.le_refl _), Nat.sub_self]
          rfl
      · obtain ⟨v, b1, b2⟩ := h.wrd j q h0 (by omega) hq hr
        have hv1 := (List.getElem?_eq_some_iff.mp b1).1
        have hv2 := (List.getElem?_eq_some_iff.mp b2).1
        exact ⟨v, by rw [List.getElem?_append_left hv1]; exact b1, by rw [List.getElem?_append_left hv2]; exact b2⟩
    · by_cases c : i' < ws.length
      · rw [List.getElem?_append_left c] at hv
        exact h.ok i' v hv
      · have hl := (List.getElem?_eq_some_iff.mp hv).1
        rw [List.length_append] at hl
        simp only [List.length_cons, List.length_nil] at hl
        have ei : i' = ws.length := by omega
        subst ei
        rw [List.getElem?_append_right (Nat.le_refl _), Nat.sub_self] at hv
        have ev : u ++ [k] = v := Option.some.inj hv
        subst ev
        refine ⟨fun k' hk' => ?_, ?_, ?_⟩
        · rcases List.mem_append.mp hk' with hk' | hk'
          · exact hu'.1 k' hk'
          · rw [List.mem_singleton.mp hk']; exact hk
        · rw [List.map_append, walk_app, hu'.2.1]
          show nx T (pl (st k)) i = ws.length
          rw [pl_st]
          exact he
        · rw [List.length_append]
          simp only [List.length_cons, List.length_nil]
          have := hu'.2.2
          omega
theorem Part.le {i k : Nat} (h : Part L T ws (i * (2 * L) + k)) (hi : i < T.length) (hk : k < 2 * L) : nx T k i ≤ ws.length := by
  have hL := hT.let1
  obtain ⟨r, e1, e2⟩ := hT.val i k hi hk
  have hat : T.flatten[i * (2 * L) + k]? = some ((nx T k i : Nat) : Int) := by
    rw [flat_at (by omega) hT.row e1 hk]
    exact e2
  have hlt := hT.lt i k hi hk
  have h1 : 1 ≤ ws.length := (List.getElem?_eq_some_iff.mp h.pos).1
  refine Classical.byContradiction fun hn => ?_
  obtain ⟨q, a1, a2, a3⟩ := hF.2 ws.length (by omega) (by omega)
  by_cases c1 : q < i * (2 * L) + k
  · have := h.all q _ c1 a2
    omega
  · by_cases c2 : q = i * (2 * L) + k
    · rw [c2, hat] at a2
      have := Option.some.inj a2
      omega
    · have := a3 _ _ (by omega) hat
      omega
theorem Part.end_ (h : Part L T ws (T.length * (2 * L))) : Lw L T ws := by
  have h1 : 1 ≤ ws.length := (List.getElem?_eq_some_iff.mp h.pos).1
  have hl : ws.length = T.length := by
    refine Classical.byContradiction fun hn => ?_
    have ht := h.top
    obtain ⟨q, a1, a2, a3⟩ := hF.2 ws.length (by omega) (by omega)
    have : ws.length * (2 * L) ≤ T.length * (2 * L) := Nat.mul_le_mul_right _ ht
    have := h.all q _ (by omega) a2
    omega
  exact ⟨hl, h.pos, fun j q h0 h1 h2 h3 => h.wrd j q h0 (by omega) h2 h3⟩
end
end M13
namespace M18
open M11 M12
section
variable {α : Type}
def RowG (f : Nat → α → α) (come : List α) (x : α) (r : List Int) (m : Nat) : Prop := r.length = m ∧ ∀ k, k < m → ∃ j : Nat, r[k]? = some (j : Int) ∧ come[j]? = some (f k x)
theorem RowG.more {f : Nat → α → α} {come c2 : List α} {x : α} {r : List Int} {m : Nat} (h : RowG f come x r m) : RowG f (come ++ c2) x r m := ⟨h.1, fun k hk => by
  obtain ⟨j, h1, h2⟩ := h.2 k hk
  refine ⟨j, h1, ?_⟩
  rw [List.getElem?_append_left (List.getElem?_eq_some_iff.mp h2).1]
  exact h2⟩
theorem RowG.snoc {f : Nat → α → α} {come : List α} {x : α} {r : List Int} {m j : Nat} (h : RowG f come x r m) (hj : come[j]? = some (f m x)) : RowG f come x (r ++ [(j : Int)]) (m + 1) := by
  refine ⟨by rw [List.length_append, h.1]; rfl, fun k hk => ?_⟩
  by_cases e : k = m
  · subst e
    refine ⟨j, ?_, hj⟩
    rw [List.getElem?_append_right (by rw [h.1]; exact Nat.le_refl _), h.1, Nat.sub_self]
    rfl
  · obtain ⟨i, h1, h2⟩ := h.2 k (by omega)
    exact ⟨i, by rw [List.getElem?_append_left (by rw [h.1]; omega)]; exact h1, h2⟩
structure Cm (L : Nat) (f : Nat → α → α) (T : List (List Int)) (come : List α) : Prop where
  tab : Tab L T
  len : come.length = T.length
  nd : come.Nodup
  mv : ∀ (i k : Nat) (x : α), come[i]? = some x → k < 2 * L → come[nx T k i]? = some (f k x)
theorem tabG {L : Nat} {f : Nat → α → α} {come : List α} {T : List (List Int)} (hL1 : 1 ≤ L) (hL2 : L ≤ 40) (hn : come.Nodup) (h1 : 1 ≤ come.length) (h2 : come.length ≤ 300) (hT : T.length = come.length)
    (hrow : ∀ (i : Nat) (x : α) (r : List Int), come[i]? = some x → T[i]? = some r → RowG f come x r (2 * L)) (hf : ∀ (k : Nat) (x : α), k < 2 * L → x ∈ come → f (M11.flip k) (f k x) = x) : Cm L f T come := by
  have key : ∀ i k : Nat, i < T.length → k < 2 * L → ∃ x r, come[i]? = some x ∧ T[i]? = some r ∧ r[k]? = some ((nx T k i : Nat) : Int) ∧ come[nx T k i]? = some (f k x) := fun i k hi hk => by
    have hx : come[i]? = some (come[i]'(by omega)) := List.getElem?_eq_getElem (by omega)
    have hr : T[i]? = some T[i] := List.getElem?_eq_getElem hi
    obtain ⟨j, a1, a2⟩ := (hrow i _ _ hx hr).2 k hk
    have e : nx T k i = j := by
      unfold nx
      rw [List.getD_eq_getElem?_getD, List.getD_eq_getElem?_getD, hr, Option.getD_some, a1, Option.getD_some]
      rfl
    exact ⟨_, _, hx, hr, by rw [e]; exact a1, by rw [e]; exact a2⟩
  refine ⟨⟨by omega, by omega, hL1, hL2, fun i r h => ?_, fun i k hi hk => ?_, fun i k hi hk => ?_, fun i k hi hk => ?_⟩, hT.symm, hn, fun i k x hx hk => ?_⟩
  · have hi := (List.getElem?_eq_some_iff.mp h).1
    exact (hrow i _ _ (List.getElem?_eq_getElem (by omega)) h).1
  · obtain ⟨x, r, _, a2, a3, _⟩ := key i k hi hk
    exact ⟨r, a2, a3⟩
  · obtain ⟨x, r, _, _, _, a4⟩ := key i k hi hk
    have := (List.getElem?_eq_some_iff.mp a4).1
    omega
  · obtain ⟨x, r, a1, _, _, a4⟩ := key i k hi hk
    have hj : nx T k i < T.length := by
      have := (List.getElem?_eq_some_iff.mp a4).1
      omega
    obtain ⟨y, r2, b1, _, _, b4⟩ := key (nx T k i) (M11.flip k) hj (flip_lt hk)
    have ey : y = f k x := Option.some.inj (b1.symm.trans a4)
    subst ey
    rw [hf k x hk (List.mem_of_getElem? a1), ← a1] at b4
    exact ((List.getElem?_inj (by have := (List.getElem?_eq_some_iff.mp a1).1; exact this) hn).mp b4.symm).symm
  · have hi := (List.getElem?_eq_some_iff.mp hx).1
    obtain ⟨y, r, a1, _, _, a4⟩ := key i k (by omega) hk
    have ey : y = x := Option.some.inj (a1.symm.trans hx)
    rw [← ey]
    exact a4
theorem Cm.walk {L : Nat} {f : Nat → α → α} {come : List α} {T : List (List Int)} (h : Cm L f T come) : ∀ {w : List Int} {i : Nat} {x : α}, Steps L w → come[i]? = some x → come[walk T w i]? = some (w.foldl (fun x s => f (pl s) x) x)
  | [], i, x, _, hx => hx
  | s :: w, i, x, hw, hx => h.walk (w := w) (fun s hs => hw s (List.mem_cons_of_mem _ hs)) (h.mv i (pl s) x hx (pl_lt (hw s (List.mem_cons_self ..))))
theorem nodup_code {n : Nat} {c : List α} (code : α → Nat) (hn : c.Nodup) (h1 : ∀ x ∈ c, code x < n) (h2 : ∀ x ∈ c, ∀ y ∈ c, code x = code y → x = y) : c.length ≤ n := by
  have h : (c.map code).Nodup := by
    refine List.pairwise_map.mpr (List.Pairwise.imp_of_mem ?_ hn)
    intro a b ha hb hab z
    exact hab (h2 a ha b hb z)
  have := nodup_len n (c.map code) h (fun x hx => by
    obtain ⟨y, hy, rfl⟩ := List.mem_map.mp hx
    exact h1 y hy)
  rw [List.length_map] at this
  exact this
end
def sf (rows : List (List Int)) (x : Nat) (s : Int) : Nat := if 0 < s then ((rows.getD (s.natAbs - 1) []).getD x 0).toNat else (rows.getD (s.natAbs - 1) []).findIdx (fun z => z == (x : Int))
theorem find_at {r : List Int} {i : Nat} {x : Int} (hn : r.Nodup) (h : r[i]? = some x) : r.findIdx (fun z => z == x) = i := by
  have hi := (List.getElem?_eq_some_iff.mp h).1
  have hm : x ∈ r := List.mem_of_getElem? h
  have hlt : r.findIdx (fun z => z == x) < r.length := List.findIdx_lt_length_of_exists ⟨x, hm, by simp⟩
  have e := List.findIdx_getElem (w := hlt)
  have e2 : r[r.findIdx (fun z => z == x)]? = some x := by
    rw [List.getElem?_eq_getElem hlt]
    congr 1
    exact eq_of_beq e
  exact (List.getElem?_inj hlt hn).mp (e2.trans h.symm)
theorem sf_pos {rows : List (List Int)} {s : Int} {x y : Nat} {r : List Int} (h : 0 < s) (hr : rows[s.natAbs - 1]? = some r) (hy : r[x]? = some (y : Int)) : sf rows x s = y := by
  unfold sf
  rw [if_pos h, List.getD_eq_getElem?_getD, List.getD_eq_getElem?_getD, hr, Option.getD_some, hy, Option.getD_some]
  rfl
theorem sf_neg {rows : List (List Int)} {s : Int} {x y : Nat} {r : List Int} (h : ¬ 0 < s) (hr : rows[s.natAbs - 1]? = some r) (hn : r.Nodup) (hy : r[y]? = some (x : Int)) : sf rows x s = y := by
  unfold sf
  rw [if_neg h, List.getD_eq_getElem?_getD, hr, Option.getD_some]
  exact find_at hn hy
theorem sf_ok {rows : List (List Int)} {p x : Nat} {s : Int} (hpm : ∀ r ∈ rows, Pm p r) (hx : x < p) (h0 : s ≠ 0) (hl : s.natAbs ≤ rows.length) : sf rows x s < p ∧ sf rows (sf rows x s) (-s) = x := by
  have g : rows[s.natAbs - 1]? = some (rows[s.natAbs - 1]'(by omega)) := List.getElem?_eq_getElem (by omega)
  generalize rows[s.natAbs - 1]'(by omega) = r at g
  have hP := hpm r (List.mem_of_getElem? g)
  by_cases h : 0 < s
  · obtain ⟨j, a, b⟩ := hP.at hx
    rw [sf_pos h g a]
    exact ⟨b, sf_neg (by omega) (by rw [Int.natAbs_neg]; exact g) hP.nd a⟩
  · obtain ⟨j, a, b⟩ := hP.surj hx
    rw [sf_neg h g hP.nd a]
    exact ⟨b, sf_pos (by omega) (by rw [Int.natAbs_neg]; exact g) a⟩
theorem steps_cons {L : Nat} {s : Int} {w : List Int} (h : Steps L (s :: w)) : (s ≠ 0 ∧ s.natAbs ≤ L) ∧ Steps L w := ⟨h s (List.mem_cons_self ..), fun x hx => h x (List.mem_cons_of_mem _ hx)⟩
def fw (rows : List (List Int)) (w : List Int) (x : Nat) : Nat := w.foldl (sf rows) x
theorem fw_app (rows : List (List Int)) (w u : List Int) (x : Nat) : fw rows (w ++ u) x = fw rows u (fw rows w x) := List.foldl_append ..
section
variable {rows : List (List Int)} {p : Nat}
theorem fw_lt (hpm : ∀ r ∈ rows, Pm p r) : ∀ {w : List Int} {x : Nat}, Steps rows.length w → x < p → fw rows w x < p
  | [], x, _, hx => hx
  | s :: w, x, hw, hx => by
    obtain ⟨hs, hw'⟩ := steps_cons hw
    exact fw_lt hpm (w := w) hw' (sf_ok hpm hx hs.1 hs.2).1
theorem fw_back (hpm : ∀ r ∈ rows, Pm p r) : ∀ {w : List Int} {x : Nat}, Steps rows.length w → x < p → fw rows (back w) (fw rows w x) = x
  | [], x, _, hx => rfl
  | s :: w, x, hw, hx => by
    obtain ⟨hs, hw'⟩ := steps_cons hw
    have a := sf_ok hpm hx hs.1 hs.2
    have e : back (s :: w) = back w ++ [-s] := by unfold back; rw [List.reverse_cons, List.map_append]; rfl
    rw [e, fw_app]
    show fw rows [-s] (fw rows (back w) (fw rows w (sf rows x s))) = x
    rw [fw_back hpm hw' a.1]
    exact a.2
theorem fw_inj (hpm : ∀ r ∈ rows, Pm p r) {w : List Int} {x y : Nat} (hw : Steps rows.length w) (hx : x < p) (hy : y < p) (e : fw rows w x = fw rows w y) : x = y := by
  rw [← fw_back hpm hw hx, e, fw_back hpm hw hy]
end
def thr (rows : List (List Int)) (p : Nat) (w : List Int) : List Int := (List.range p).map fun x => ((fw rows w x : Nat) : Int)
theorem thr_len (rows : List (List Int)) (p : Nat) (w : List Int) : (thr rows p w).length = p := by unfold thr; rw [List.length_map, List.length_range]
theorem thr_at {rows : List (List Int)} {p : Nat} {w : List Int} {x : Nat} (hx : x < p) : (thr rows p w)[x]? = some ((fw rows w x : Nat) : Int) := by
  unfold thr
  rw [List.getElem?_map, List.getElem?_range hx]
  rfl
theorem thr_pm {rows : List (List Int)} {p : Nat} {w : List Int} (hpm : ∀ r ∈ rows, Pm p r) (hw : Steps rows.length w) : Pm p (thr rows p w) := by
  refine ⟨thr_len .., ?_, fun z hz => ?_⟩
  · unfold thr
    refine List.pairwise_map.mpr (List.Pairwise.imp_of_mem ?_ List.nodup_range)
    intro a b ha hb hab z
    exact hab (fw_inj hpm hw (List.mem_range.mp ha) (List.mem_range.mp hb) (by omega))
  · unfold thr at hz
    obtain ⟨i, hi, rfl⟩ := List.mem_map.mp hz
    have := fw_lt hpm hw (List.mem_range.mp hi)
    omega
def mvs (rows : List (List Int)) (s : Int) (u : List Int) : List Int := u.map fun z => ((sf rows z.toNat s : Nat) : Int)
theorem thr_snoc (rows : List (List Int)) (p : Nat) (w : List Int) (s : Int) : mvs rows s (thr rows p w) = thr rows p (w ++ [s]) := by
  unfold mvs thr
  rw [List.map_map]
  refine List.map_congr_left fun i _ => ?_
  show ((sf rows ((fw rows w i : Nat) : Int).toNat s : Nat) : Int) = _
  rw [Int.toNat_natCast, fw_app]
  rfl
theorem thr_fold (rows : List (List Int)) (p : Nat) : ∀ (w v : List Int), w.foldl (fun u s => mvs rows s u) (thr rows p v) = thr rows p (v ++ w)
  | [], v => by rw [List.append_nil]; rfl
  | s :: w, v => by
    show w.foldl (fun u s => mvs rows s u) (mvs rows s (thr rows p v)) = _
    rw [thr_snoc, thr_fold rows p w (v ++ [s]), List.append_assoc]
    rfl
theorem mvs_pm {rows : List (List Int)} {p : Nat} {s : Int} {u : List Int} (hpm : ∀ r ∈ rows, Pm p r) (hs : s ≠ 0 ∧ s.natAbs ≤ rows.length) (hu : Pm p u) : Pm p (mvs rows s u) := by
  refine ⟨by unfold mvs; rw [List.length_map, hu.len], ?_, fun z hz => ?_⟩
  · unfold mvs
    refine List.pairwise_map.mpr (List.Pairwise.imp_of_mem ?_ hu.nd)
    intro a b ha hb hab z
    have h1 := hu.rg a ha
    have h2 := hu.rg b hb
    have e1 := (sf_ok hpm (show a.toNat < p by omega) hs.1 hs.2).2
    have e2 := (sf_ok hpm (show b.toNat < p by omega) hs.1 hs.2).2
    have e3 : sf rows a.toNat s = sf rows b.toNat s := by omega
    rw [e3, e2] at e1
    omega
  · unfold mvs at hz
    obtain ⟨i, hi, rfl⟩ := List.mem_map.mp hz
    have h1 := hu.rg i hi
    have := (sf_ok hpm (show i.toNat < p by omega) hs.1 hs.2).1
    omega
theorem mvs_back {rows : List (List Int)} {p : Nat} {s : Int} {u : List Int} (hpm : ∀ r ∈ rows, Pm p r) (hs : s ≠ 0 ∧ s.natAbs ≤ rows.length) (hu : Pm p u) : mvs rows (-s) (mvs rows s u) = u := by
  unfold mvs
  rw [List.map_map]
  conv => rhs; rw [← List.map_id u]
  refine List.map_congr_left fun z hz => ?_
  have h1 := hu.rg z hz
  have := (sf_ok hpm (show z.toNat < p by omega) hs.1 hs.2).2
  show ((sf rows ((sf rows z.toNat s : Nat) : Int).toNat (-s) : Nat) : Int) = z
  rw [Int.toNat_natCast, this]
  omega
theorem st_pl {s : Int} (h : s ≠ 0) : st (pl s) = s := by
  unfold st pl
  by_cases h1 : 0 < s
  · rw [if_pos h1, if_pos (by omega)]; omega
  · rw [if_neg h1, if_neg (by omega)]; omega
theorem st_flip (k : Nat) : st (M11.flip k) = -st k := by
  unfold st M11.flip
  by_cases h : k % 2 = 0
  · rw [if_pos h, if_pos h, if_neg (by omega)]; omega
  · rw [if_neg h, if_neg h, if_pos (by omega)]; omega
def tn (p : Nat) (rows : List (List Int)) (s : Int) : List Int := (List.range p).map fun x => ((sf rows x s : Nat) : Int)
theorem tn_at {p : Nat} {rows : List (List Int)} {s : Int} {x : Nat} (hx : x < p) : (tn p rows s)[x]? = some ((sf rows x s : Nat) : Int) := by
  unfold tn
  rw [List.getElem?_map, List.getElem?_range hx]
  rfl
theorem tn_pos {p : Nat} {rows : List (List Int)} {s : Int} {r : List Int} (hr : rows[s.natAbs - 1]? = some r) (hP : Pm p r) (h : 0 < s) : tn p rows s = r := by
  refine List.ext_getElem? fun i => ?_
  by_cases hi : i < p
  · obtain ⟨j, a, b⟩ := hP.at hi
    rw [tn_at hi, a, sf_pos h hr a]
  · rw [List.getElem?_eq_none (by unfold tn; rw [List.length_map, List.length_range]; omega), List.getElem?_eq_none (by rw [hP.len]; omega)]
theorem tn_neg {p : Nat} {rows : List (List Int)} {s : Int} {r t : List Int} (hr : rows[s.natAbs - 1]? = some r) (hP : Pm p r) (h : ¬ 0 < s) (ht : InvOf p r t) : tn p rows s = t := by
  refine List.ext_getElem? fun i => ?_
  by_cases hi : i < p
  · obtain ⟨j, a, b⟩ := hP.surj hi
    rw [tn_at hi, ht.2 j i a, sf_neg h hr hP.nd a]
  · rw [List.getElem?_eq_none (by unfold tn; rw [List.length_map, List.length_range]; omega), List.getElem?_eq_none (by rw [ht.1]; omega)]
def cd (u : List Int) : Nat := u.foldl (fun n z => 4 * n + z.toNat) 0
theorem cd_fold : ∀ (u : List Int) (n : Nat), (∀ z ∈ u, 0 ≤ z ∧ z < 4) → u.foldl (fun n z => 4 * n + z.toNat) n < (n + 1) * 4 ^ u.length
  | [], n, _ => by simp
  | z :: u, n, h => by
    have hz := h z (List.mem_cons_self ..)
    have ih := cd_fold u (4 * n + z.toNat) (fun z hz => h z (List.mem_cons_of_mem _ hz))
    rw [List.foldl_cons, List.length_cons, Nat.pow_succ]
    refine Nat.lt_of_lt_of_le ih ?_
    have : (4 * n + z.toNat + 1) ≤ (n + 1) * 4 := by omega
    have := Nat.mul_le_mul_right (4 ^ u.length) this
    rw [Nat.mul_assoc, Nat.mul_comm 4 (4 ^ u.length)] at this
    exact this
theorem cd_inj : ∀ (u v : List Int) (n m : Nat), u.length = v.length → (∀ z ∈ u, 0 ≤ z ∧ z < 4) → (∀ z ∈ v, 0 ≤ z ∧ z < 4) → u.foldl (fun n z => 4 * n + z.toNat) n = v.foldl (fun n z => 4 * n + z.toNat) m → n = m ∧ u = v
  | [], [], n, m, _, _, _, e => ⟨e, rfl⟩
  | [], _ :: _, _, _, hl, _, _, _ => by cases hl
  | _ :: _, [], _, _, hl, _, _, _ => by cases hl
  | z :: u, y :: v, n, m, hl, hu, hv, e => by
    have hz := hu z (List.mem_cons_self ..)
    have hy := hv y (List.mem_cons_self ..)
    rw [List.foldl_cons, List.foldl_cons] at e
    obtain ⟨a, b⟩ := cd_inj u v _ _ (by simpa using hl) (fun z hz => hu z (List.mem_cons_of_mem _ hz)) (fun z hz => hv z (List.mem_cons_of_mem _ hz)) e
    have h1 : z = y := by omega
    exact ⟨by omega, by rw [h1, b]⟩
theorem four {p : Nat} (hp : p ≤ 4) {c : List (List Int)} (hn : c.Nodup) (h : ∀ u ∈ c, Pm p u) : c.length ≤ 256 := by
  have rg : ∀ u ∈ c, ∀ z ∈ u, 0 ≤ z ∧ z < 4 := fun u hu z hz => by
    have := (h u hu).rg z hz
    omega
  refine nodup_code cd hn (fun u hu => ?_) (fun u hu v hv e => ?_)
  · have := cd_fold u 0 (rg u hu)
    rw [(h u hu).len, Nat.zero_add, Nat.one_mul] at this
    exact Nat.lt_of_lt_of_le this (Nat.pow_le_pow_right (by omega) hp)
  · exact (cd_inj u v 0 0 (by rw [(h u hu).len, (h v hv).len]) (rg u hu) (rg v hv) e).2
def im1 (Im : List (List Int)) (s : Int) : List Int := if 0 < s then Im.getD (s.natAbs - 1) [] else back (Im.getD (s.natAbs - 1) [])
def fill (Im : List (List Int)) (u : List Int) : List Int := u.flatMap (im1 Im)
def mov (rows : List (List Int)) (p : Nat) (Im : List (List Int)) : List (List Int) := Im.map (thr rows p)
theorem im1_steps {L : Nat} {Im : List (List Int)} {s : Int} (hI : ∀ w ∈ Im, Steps L w) : Steps L (im1 Im s) := by
  have h : Steps L (Im.getD (s.natAbs - 1) []) := by
    rw [List.getD_eq_getElem?_getD]
    cases e : Im[s.natAbs - 1]? with
    | none => exact fun s hs => by cases hs
    | some w => exact hI w (List.mem_of_getElem? e)
  unfold im1
  split
  · exact h
  · exact steps_back h
theorem back_back (w : List Int) : back (back w) = w := by
  unfold back
  rw [← List.map_reverse, List.reverse_reverse, List.map_map]
  conv => rhs; rw [← List.map_id w]
  refine List.map_congr_left fun z _ => ?_
  show - -z = z
  omega
theorem mov_one {rows : List (List Int)} {p : Nat} {Im : List (List Int)} {s : Int} {x : Nat} (hpm : ∀ r ∈ rows, Pm p r) (hI : ∀ w ∈ Im, Steps rows.length w) (h0 : s ≠ 0) (hl : s.natAbs ≤ Im.length) (hx : x < p) : sf (mov rows p Im) x s = fw rows (im1 Im s) x := by
  have g : Im[s.natAbs - 1]? = some (Im[s.natAbs - 1]'(by omega)) := List.getElem?_eq_getElem (by omega)
  generalize Im[s.natAbs - 1]'(by omega) = w at g
  have hw := hI w (List.mem_of_getElem? g)
  have g2 : (mov rows p Im)[s.natAbs - 1]? = some (thr rows p w) := by unfold mov; rw [List.getElem?_map, g]; rfl
  have e : Im.getD (s.natAbs - 1) [] = w := by rw [List.getD_eq_getElem?_getD, g]; rfl
  unfold im1
  rw [e]
  by_cases h : 0 < s
  · rw [if_pos h]
    exact sf_pos h g2 (thr_at hx)
  · rw [if_neg h]
    have hP := thr_pm hpm hw (p := p)
    have hb := fw_lt hpm (steps_back hw) hx
    refine sf_neg h g2 hP.nd ?_
    rw [thr_at hb]
    have := fw_back hpm (steps_back hw) hx
    rw [back_back] at this
    rw [this]
theorem mov_fill {rows : List (List Int)} {p : Nat} {Im : List (List Int)} (hpm : ∀ r ∈ rows, Pm p r) (hI : ∀ w ∈ Im, Steps rows.length w) : ∀ {u : List Int} {x : Nat}, Steps Im.length u → x < p → fw (mov rows p Im) u x = fw rows (fill Im u) x
  | [], x, _, _ => rfl
  | s :: u, x, hu, hx => by
    obtain ⟨hs, hu'⟩ := steps_cons hu
    have e := mov_one hpm hI hs.1 hs.2 hx
    show fw (mov rows p Im) u (sf (mov rows p Im) x s) = fw rows (im1 Im s ++ fill Im u) x
    rw [e, fw_app]
    exact mov_fill hpm hI hu' (fw_lt hpm (im1_steps hI) hx)
theorem thr_fill {rows : List (List Int)} {p : Nat} {Im : List (List Int)} {u : List Int} (hpm : ∀ r ∈ rows, Pm p r) (hI : ∀ w ∈ Im, Steps rows.length w) (hu : Steps Im.length u) : thr (mov rows p Im) p u = thr rows p (fill Im u) := by
  unfold thr
  refine List.map_congr_left fun x hx => ?_
  rw [mov_fill hpm hI hu (List.mem_range.mp hx)]
theorem fill_steps {L : Nat} {Im : List (List Int)} {u : List Int} (hI : ∀ w ∈ Im, Steps L w) : Steps L (fill Im u) := fun s hs => by
  obtain ⟨t, _, ht⟩ := List.mem_flatMap.mp hs
  exact im1_steps hI s ht
theorem walk_thr {rows : List (List Int)} {p L : Nat} {T come : List (List Int)} {w : List Int} (h : Cm L (fun k u => mvs rows (st k) u) T come) (h0 : come[0]? = some (thr rows p [])) (hw : Steps L w) : come[walk T w 0]? = some (thr rows p w) := by
  have := h.walk hw h0
  rw [this]
  have key : ∀ (w : List Int) (u : List Int), Steps L w → w.foldl (fun x s => mvs rows (st (pl s)) x) u = w.foldl (fun u s => mvs rows s u) u := by
    intro w
    induction w with
    | nil => intro u _; rfl
    | cons s w ih =>
      intro u hw
      obtain ⟨hs, hw'⟩ := steps_cons hw
      rw [List.foldl_cons, List.foldl_cons, st_pl hs.1]
      exact ih _ hw'
  rw [key w _ hw, thr_fold]
  rfl
theorem walk_home {rows : List (List Int)} {p L : Nat} {T come : List (List Int)} {w : List Int} (h : Cm L (fun k u => mvs rows (st k) u) T come) (h0 : come[0]? = some (thr rows p [])) (hw : Steps L w) : walk T w 0 = 0 ↔ thr rows p w = thr rows p [] := by
  have e := walk_thr h h0 hw
  constructor
  · intro z
    rw [z, h0] at e
    exact (Option.some.inj e).symm
  · intro z
    rw [z, ← h0] at e
    have hp := h.tab.pos
    have hl := h.len
    exact ((List.getElem?_inj (by omega) h.nd).mp e.symm).symm
end M18
namespace M19
open M11 M12 M18
section
variable {α : Type} [DecidableEq α]
structure Clo (z : α) (R : α → α → Prop) (F : List α) : Prop where
  nd : F.Nodup
  zm : z ∈ F
  cl : ∀ x ∈ F, ∀ y, R x y → y ∈ F
  mn : ∀ P : α → Prop, P z → (∀ x y, P x → R x y → P y) → ∀ x ∈ F, P x
end
def cmp (m u : List Int) : List Int := u.map fun z => m.getD z.toNat 0
theorem inv_one {p : Nat} {r t t' : List Int} (hr : Pm p r) (h : InvOf p r t) (h' : InvOf p r t') : t = t' := by
  refine List.ext_getElem? fun i => ?_
  by_cases hi : i < p
  · obtain ⟨j, a, _⟩ := hr.surj hi
    rw [h.2 j i a, h'.2 j i a]
  · rw [List.getElem?_eq_none (by rw [h.1]; omega), List.getElem?_eq_none (by rw [h'.1]; omega)]
theorem reach {L : Nat} {T : List (List Int)} (hT : Tab L T) (hF : Fc (2 * L) T.flatten T.length) : ∀ j, j < T.length → ∃ w, Steps L w ∧ walk T w 0 = j := by
  have hL := hT.let1
  intro j
  induction j using Nat.strongRecOn with
  | _ j ih =>
    intro hj
    by_cases h0 : j = 0
    · exact ⟨[], (fun s hs => by cases hs), h0.symm⟩
    · obtain ⟨q, a1, a2, a3⟩ := hF.2 j (by omega) hj
      have hr : q / (2 * L) < j := by
        rw [Nat.div_lt_iff_lt_mul (by omega)]
        exact a1
      obtain ⟨w, b1, b2⟩ := ih _ hr (by omega)
      have hk : q % (2 * L) < 2 * L := Nat.mod_lt _ (by omega)
      obtain ⟨r, c1, c2⟩ := hT.val (q / (2 * L)) (q % (2 * L)) (by omega) hk
      have e := flat_at (W := 2 * L) (by omega) hT.row c1 hk
      have e2 : q / (2 * L) * (2 * L) + q % (2 * L) = q := by rw [Nat.mul_comm]; exact Nat.div_add_mod _ _
      rw [e2, a2, c2] at e
      refine ⟨w ++ [st (q % (2 * L))], fun s hs => ?_, ?_⟩
      · rcases List.mem_append.mp hs with hs | hs
        · exact b1 s hs
        · rw [List.mem_singleton.mp hs]; exact st_ok hk
      · rw [walk_app, b2]
        show nx T (pl (st (q % (2 * L)))) (q / (2 * L)) = j
        rw [pl_st]
        have := Option.some.inj e
        omega
structure Gp (rows : List (List Int)) (p : Nat) (T come : List (List Int)) : Prop where
  pm : ∀ r ∈ rows, Pm p r
  cm : Cm rows.length (fun k u => mvs rows (st k) u) T come
  z : come[0]? = some (thr rows p [])
  fc : Fc (2 * rows.length) T.flatten T.length
section
variable {rows : List (List Int)} {p : Nat} {T come : List (List Int)} (h : Gp rows p T come)
include h
theorem Gp.at_ {i : Nat} {u : List Int} (hi : come[i]? = some u) : ∃ w, Steps rows.length w ∧ walk T w 0 = i ∧ u = thr rows p w := by
  have hl := (List.getElem?_eq_some_iff.mp hi).1
  obtain ⟨w, a, b⟩ := reach h.cm.tab h.fc i (by rw [← h.cm.len]; exact hl)
  have e := walk_thr h.cm h.z a
  rw [b, hi] at e
  exact ⟨w, a, b, Option.some.inj e⟩
theorem Gp.pms {u : List Int} (hu : u ∈ come) : Pm p u := by
  obtain ⟨i, hi⟩ := List.getElem?_of_mem hu
  obtain ⟨w, a, _, e⟩ := h.at_ hi
  rw [e]
  exact thr_pm h.pm a
end
end M19
namespace M20
open M11 M12 M18 M19
def cap (r : Nat) : Nat → Nat
  | 0 => 1
  | n + 1 => min 5001 (cap r n * r)
theorem cap_top {r : Nat} (hr : 1 ≤ r) {j : Nat} (h : 5000 < cap r j) : ∀ d, 5000 < cap r (j + d)
  | 0 => h
  | d + 1 => by
    have ih := cap_top hr h d
    show 5000 < min 5001 (cap r (j + d) * r)
    have : cap r (j + d) ≤ cap r (j + d) * r := Nat.le_mul_of_pos_right _ hr
    omega
theorem cap_le (r : Nat) : ∀ n, cap r n ≤ 5001
  | 0 => by show 1 ≤ 5001; decide
  | n + 1 => Nat.min_le_left ..
theorem cap_up {r : Nat} (hr : 1 ≤ r) {j n : Nat} (h : 5000 < cap r j) (hj : j ≤ n) : 5000 < cap r n := by
  have := cap_top hr h (n - j)
  rw [show j + (n - j) = n by omega] at this
  exact this
def ext (N : Nat) (r : List Nat) : List (List Nat) := (List.range N).map fun x => r ++ [x]
def alls (N : Nat) : Nat → List (List Nat)
  | 0 => [[]]
  | n + 1 => (alls N n).flatMap (ext N)
theorem ext_len (N : Nat) (r : List Nat) : (ext N r).length = N := by unfold ext; rw [List.length_map, List.length_range]
theorem flat_ext (N : Nat) : ∀ rs : List (List Nat), (rs.flatMap (ext N)).length = rs.length * N
  | [] => by simp
  | r :: rs => by rw [List.flatMap_cons, List.length_append, flat_ext N rs, ext_len, List.length_cons, Nat.succ_mul]; omega
theorem alls_cap {N n : Nat} (hN : 1 ≤ N) (h : cap N n ≤ 5000) : (alls N n).length = cap N n := by
  induction n with
  | zero => rfl
  | succ n ih =>
    have h1 : cap N n ≤ 5000 := by
      by_cases z : cap N n ≤ 5000
      · exact z
      · have := cap_up hN (j := n) (n := n + 1) (by omega) (by omega)
        omega
    show ((alls N n).flatMap (ext N)).length = min 5001 (cap N n * N)
    rw [flat_ext, ih h1]
    have h2 : min 5001 (cap N n * N) ≤ 5000 := h
    omega
theorem alls_mem {N : Nat} : ∀ {n : Nat} {h : List Nat}, h ∈ alls N n → h.length = n ∧ ∀ x ∈ h, x < N
  | 0, h, hm => by
    rw [List.mem_singleton.mp hm]
    exact ⟨rfl, fun x hx => by cases hx⟩
  | n + 1, h, hm => by
    obtain ⟨r, hr, hh⟩ := List.mem_flatMap.mp hm
    obtain ⟨x, hx, rfl⟩ := List.mem_map.mp hh
    obtain ⟨a, b⟩ := alls_mem hr
    refine ⟨by rw [List.length_append, a]; rfl, fun y hy => ?_⟩
    rcases List.mem_append.mp hy with hy | hy
    · exact b y hy
    · rw [List.mem_singleton.mp hy]
      exact List.mem_range.mp hx
def gl (r : List Int) : Nat := r.foldl (fun m s => max m s.natAbs) 0
theorem gl_fold : ∀ (r : List Int) (m n : Nat), r.foldl (fun m s => max m s.natAbs) m ≤ n ↔ m ≤ n ∧ ∀ s ∈ r, s.natAbs ≤ n
  | [], m, n => by simp
  | s :: r, m, n => by
    rw [List.foldl_cons, gl_fold r (max m s.natAbs) n]
    constructor
    · rintro ⟨a, b⟩
      refine ⟨by omega, fun z hz => ?_⟩
      rcases List.mem_cons.mp hz with rfl | hz
      · omega
      · exact b z hz
    · rintro ⟨a, b⟩
      have := b s (List.mem_cons_self ..)
      exact ⟨by omega, fun z hz => b z (List.mem_cons_of_mem _ hz)⟩
theorem gl_le (r : List Int) (n : Nat) : gl r ≤ n ↔ ∀ s ∈ r, s.natAbs ≤ n := by
  unfold gl
  rw [gl_fold]
  exact ⟨fun h => h.2, fun h => ⟨Nat.zero_le _, h⟩⟩
section
variable (T : List (List Int)) (wy : Nat → List Int)
def Good (h : List Nat) (r : List Int) : Bool := decide (walk T (fill (h.map wy) r) 0 = 0)
def lng (N : Nat) (ls : List (List Nat)) (due : List (List Int)) : List (List Nat) := ls.flatMap fun r => (ext N r).filter fun h => due.all (Good T wy h)
def dueAt (rules : List (List Int)) (n : Nat) : List (List Int) := rules.filter fun r => decide (gl r = n)
def fnd (N : Nat) (rules : List (List Int)) : Nat → List (List Nat)
  | 0 => [[]]
  | n + 1 => lng T wy N (fnd N rules n) (dueAt rules (n + 1))
end
section
variable {T : List (List Int)} {wy : Nat → List Int}
theorem fill_app {Im : List (List Int)} {w : List Int} : ∀ {r : List Int}, (∀ s ∈ r, s ≠ 0 ∧ s.natAbs ≤ Im.length) → fill (Im ++ [w]) r = fill Im r
  | [], _ => rfl
  | s :: r, h => by
    have hs := h s (List.mem_cons_self ..)
    have ih := fill_app (Im := Im) (w := w) (r := r) (fun z hz => h z (List.mem_cons_of_mem _ hz))
    have e : im1 (Im ++ [w]) s = im1 Im s := by
      unfold im1
      rw [List.getD_eq_getElem?_getD, List.getD_eq_getElem?_getD, List.getElem?_append_left (by omega)]
    show im1 (Im ++ [w]) s ++ fill (Im ++ [w]) r = im1 Im s ++ fill Im r
    rw [e, ih]
theorem good_app {h : List Nat} {x : Nat} {r : List Int} (hr : ∀ s ∈ r, s ≠ 0) (hl : gl r ≤ h.length) : Good T wy (h ++ [x]) r = Good T wy h r := by
  unfold Good
  rw [List.map_append]
  show decide (walk T (fill (h.map wy ++ [wy x]) r) 0 = 0) = _
  rw [fill_app fun s hs => ⟨hr s hs, by rw [List.length_map]; exact (gl_le r _).mp hl s hs⟩]
theorem good_nil {h : List Nat} {r : List Int} (hr : ∀ s ∈ r, s ≠ 0) (hl : gl r = 0) : Good T wy h r = true := by
  have : r = [] := by
    cases r with
    | nil => rfl
    | cons s r =>
      have h1 := (gl_le (s :: r) 0).mp (by omega) s (List.mem_cons_self ..)
      have h2 := hr s (List.mem_cons_self ..)
      omega
  subst this
  exact decide_eq_true rfl
def ok (T : List (List Int)) (wy : Nat → List Int) (rules : List (List Int)) (n : Nat) (h : List Nat) : Bool := rules.all fun r => !decide (gl r ≤ n) || Good T wy h r
theorem ok_step {rules : List (List Int)} (hr : ∀ r ∈ rules, ∀ s ∈ r, s ≠ 0) {n x : Nat} {h : List Nat} (hn : h.length = n) : ok T wy rules (n + 1) (h ++ [x]) = (ok T wy rules n h && (dueAt rules (n + 1)).all (Good T wy (h ++ [x]))) := by
  unfold ok dueAt
  rw [List.all_filter]
  induction rules with
  | nil => rfl
  | cons r rules ih =>
    rw [List.all_cons, List.all_cons, List.all_cons, ih fun r hr' => hr r (List.mem_cons_of_mem _ hr')]
    have key : (!decide (gl r ≤ n + 1) || Good T wy (h ++ [x]) r) = ((!decide (gl r ≤ n) || Good T wy h r) && (!decide (gl r = n + 1) || Good T wy (h ++ [x]) r)) := by
      rcases Nat.lt_trichotomy (gl r) (n + 1) with z | z | z
      · rw [good_app (hr r (List.mem_cons_self ..)) (by omega), decide_eq_true (show gl r ≤ n + 1 by omega), decide_eq_true (show gl r ≤ n by omega), decide_eq_false (show ¬ gl r = n + 1 by omega)]
        simp
      · rw [decide_eq_true (show gl r ≤ n + 1 by omega), decide_eq_false (show ¬ gl r ≤ n by omega), decide_eq_true z]
        simp
      · rw [decide_eq_false (show ¬ gl r ≤ n + 1 by omega), decide_eq_false (show ¬ gl r ≤ n by omega), decide_eq_false (show ¬ gl r = n + 1 by omega)]
        simp
    rw [key]
    generalize (!decide (gl r ≤ n) || Good T wy h r) = b1
    generalize (rules.all fun r => !decide (gl r ≤ n) || Good T wy h r) = b2
    generalize (!decide (gl r = n + 1) || Good T wy (h ++ [x]) r) = b3
    cases b1 <;> cases b2 <;> cases b3 <;> simp
theorem filter_none {α : Type} {p : α → Bool} : ∀ {l : List α}, (∀ x ∈ l, p x = false) → l.filter p = []
  | [], _ => rfl
  | x :: l, h => by rw [List.filter_cons, h x (List.mem_cons_self ..), filter_none (l := l) fun y hy => h y (List.mem_cons_of_mem _ hy)]; rfl
theorem filt_flat {N : Nat} {p q : List Nat → Bool} {g : List Nat → Bool} : ∀ {ls : List (List Nat)}, (∀ h ∈ ls, ∀ x, q (h ++ [x]) = (p h && g (h ++ [x]))) → (ls.flatMap (ext N)).filter q = (ls.filter p).flatMap fun r => (ext N r).filter g
  | [], _ => rfl
  | h :: ls, hq => by
    have ih := filt_flat (N := N) (ls := ls) (fun h hh => hq h (List.mem_cons_of_mem _ hh))
    have h0 := hq h (List.mem_cons_self ..)
    rw [List.flatMap_cons, List.filter_append, ih, List.filter_cons]
    cases e : p h with
    | false =>
      have : (ext N h).filter q = [] := filter_none fun y hy => by
        obtain ⟨x, _, rfl⟩ := List.mem_map.mp hy
        rw [h0 x, e]
        rfl
      rw [this, List.nil_append]
      rfl
    | true =>
      rw [if_pos rfl, List.flatMap_cons]
      congr 1
      refine List.filter_congr fun y hy => ?_
      obtain ⟨x, _, rfl⟩ := List.mem_map.mp hy
      rw [h0 x, e]
      rfl
theorem fnd_eq {N : Nat} {rules : List (List Int)} (hr : ∀ r ∈ rules, ∀ s ∈ r, s ≠ 0) : ∀ n, fnd T wy N rules n = (alls N n).filter (ok T wy rules n)
  | 0 => by
    have : ok T wy rules 0 [] = true := by
      unfold ok
      rw [List.all_eq_true]
      intro r hr'
      by_cases z : gl r ≤ 0
      · rw [good_nil (hr r hr') (by omega), Bool.or_true]
      · rw [decide_eq_false z]
        rfl
    show [[]] = List.filter (ok T wy rules 0) [[]]
    rw [List.filter_cons, this]
    rfl
  | n + 1 => by
    show lng T wy N (fnd T wy N rules n) (dueAt rules (n + 1)) = ((alls N n).flatMap (ext N)).filter (ok T wy rules (n + 1))
    rw [fnd_eq hr n]
    unfold lng
    exact (filt_flat fun h hh x => ok_step hr (alls_mem hh).1).symm
end
theorem all_same {α : Type} {p q : α → Bool} : ∀ {l : List α}, (∀ x ∈ l, p x = q x) → l.all p = l.all q
  | [], _ => rfl
  | x :: l, h => by rw [List.all_cons, List.all_cons, h x (List.mem_cons_self ..), all_same (l := l) fun y hy => h y (List.mem_cons_of_mem _ hy)]
section
variable {rows : List (List Int)} {p : Nat} {T come : List (List Int)} (g : Gp rows p T come) {wy : Nat → List Int} (hwy : ∀ r, r < T.length → Steps rows.length (wy r) ∧ walk T (wy r) 0 = r)
include g hwy
theorem mov_home {h : List Nat} (hh : ∀ x ∈ h, x < T.length) : mov rows p (h.map wy) = h.map fun r => come.getD r [] := by
  unfold mov
  rw [List.map_map]
  refine List.map_congr_left fun r hr => ?_
  obtain ⟨a1, a2⟩ := hwy r (hh r hr)
  have e := walk_thr g.cm g.z a1
  rw [a2] at e
  show thr rows p (wy r) = come.getD r []
  rw [List.getD_eq_getElem?_getD, e]
  rfl
theorem good_thr {h : List Nat} {r : List Int} (hh : ∀ x ∈ h, x < T.length) (hr : Steps h.length r) : Good T wy h r = decide (thr (h.map fun r => come.getD r []) p r = thr rows p []) := by
  have hI : ∀ w ∈ h.map wy, Steps rows.length w := fun w hw => by
    obtain ⟨x, hx, rfl⟩ := List.mem_map.mp hw
    exact (hwy x (hh x hx)).1
  have e1 := thr_fill (p := p) g.pm hI (by rw [List.length_map]; exact hr)
  rw [mov_home g hwy hh] at e1
  unfold Good
  rw [e1, decide_eq_decide]
  exact walk_home g.cm g.z (fill_steps hI)
theorem told_due {N n : Nat} {rules : List (List Int)} (hN : N = T.length) (hr : ∀ r ∈ rules, Steps n r) : fnd T wy N rules n = (alls N n).filter fun h => rules.all fun r => decide (thr (h.map fun r => come.getD r []) p r = thr rows p []) := by
  rw [fnd_eq fun r hr' s hs => (hr r hr' s hs).1]
  refine List.filter_congr fun h hh => ?_
  obtain ⟨a1, a2⟩ := alls_mem hh
  unfold ok
  refine all_same fun r hr' => ?_
  have : gl r ≤ n := (gl_le r n).mpr fun s hs => (hr r hr' s hs).2
  rw [decide_eq_true this, good_thr g hwy (fun x hx => by rw [← hN]; exact a2 x hx) (by rw [a1]; exact hr r hr')]
  rfl
end
end M20
namespace L2
theorem seq_let1 {a1 z : TS} {D : Ends} {σ : St} {H : Hp} (h : let u1 : TS := z; tSeq a1 u1 D σ H) : (tSeq a1 z) D σ H := h
theorem blk_let1 {a1 z : TS} {D : Ends} {σ : St} {H : Hp} (h : let D0 : Ends := D; let u1 : TS := z; tSeq a1 u1 D0 σ H) : (tSeq a1 z) D σ H := h
theorem seq_let2 {a1 a2 z : TS} {D : Ends} {σ : St} {H : Hp} (h : let u2 : TS := z; let u1 : TS := tSeq a2 u2; tSeq a1 u1 D σ H) : (tSeq a1 (tSeq a2 z)) D σ H := h
theorem blk_let2 {a1 a2 z : TS} {D : Ends} {σ : St} {H : Hp} (h : let D0 : Ends := D; let u2 : TS := z; let u1 : TS := tSeq a2 u2; tSeq a1 u1 D0 σ H) : (tSeq a1 (tSeq a2 z)) D σ H := h
theorem seq_let3 {a1 a2 a3 z : TS} {D : Ends} {σ : St} {H : Hp} (h : let u3 : TS := z; let u2 : TS := tSeq a3 u3; let u1 : TS := tSeq a2 u2; tSeq a1 u1 D σ H) : (tSeq a1 (tSeq a2 (tSeq a3 z))) D σ H := h
theorem blk_let3 {a1 a2 a3 z : TS} {D : Ends} {σ : St} {H : Hp} (h : let D0 : Ends := D; let u3 : TS := z; let u2 : TS := tSeq a3 u3; let u1 : TS := tSeq a2 u2; tSeq a1 u1 D0 σ H) : (tSeq a1 (tSeq a2 (tSeq a3 z))) D σ H := h
theorem seq_let4 {a1 a2 a3 a4 z : TS} {D : Ends} {σ : St} {H : Hp} (h : let u4 : TS := z; let u3 : TS := tSeq a4 u4; let u2 : TS := tSeq a3 u3; let u1 : TS := tSeq a2 u2; tSeq a1 u1 D σ H) : (tSeq a1 (tSeq a2 (tSeq a3 (tSeq a4 z)))) D σ H := h
theorem blk_let4 {a1 a2 a3 a4 z : TS} {D : Ends} {σ : St} {H : Hp} (h : let D0 : Ends := D; let u4 : TS := z; let u3 : TS := tSeq a4 u4; let u2 : TS := tSeq a3 u3; let u1 : TS := tSeq a2 u2; tSeq a1 u1 D0 σ H) : (tSeq a1 (tSeq a2 (tSeq a3 (tSeq a4 z)))) D σ H := h
theorem seq_let5 {a1 a2 a3 a4 a5 z : TS} {D : Ends} {σ : St} {H : Hp} (h : let u5 : TS := z; let u4 : TS := tSeq a5 u5; let u3 : TS := tSeq a4 u4; let u2 : TS := tSeq a3 u3; let u1 : TS := tSeq a2 u2; tSeq a1 u1 D σ H) : (tSeq a1 (tSeq a2 (tSeq a3 (tSeq a4 (tSeq a5 z))))) D σ H := h
theorem seq_let17 {a1 a2 a3 a4 a5 a6 a7 a8 a9 a10 a11 a12 a13 a14 a15 a16 a17 z : TS} {D : Ends} {σ : St} {H : Hp} (h : let u17 : TS := z; let u16 : TS := tSeq a17 u17; let u15 : TS := tSeq a16 u16; let u14 : TS := tSeq a15 u15; let u13 : TS := tSeq a14 u14; let u12 : TS := tSeq a13 u13; let u11 : TS := tSeq a12 u12; let u10 : TS := tSeq a11 u11; let u9 : TS := tSeq a10 u10; let u8 : TS := tSeq a9 u9; let u7 : TS := tSeq a8 u8; let u6 : TS := tSeq a7 u7; let u5 : TS := tSeq a6 u6; let u4 : TS := tSeq a5 u5; let u3 : TS := tSeq a4 u4; let u2 : TS := tSeq a3 u3; let u1 : TS := tSeq a2 u2; tSeq a1 u1 D σ H) : (tSeq a1 (tSeq a2 (tSeq a3 (tSeq a4 (tSeq a5 (tSeq a6 (tSeq a7 (tSeq a8 (tSeq a9 (tSeq a10 (tSeq a11 (tSeq a12 (tSeq a13 (tSeq a14 (tSeq a15 (tSeq a16 (tSeq a17 z))))))))))))))))) D σ H := h
theorem blk_let0 {z : TS} {D : Ends} {σ : St} {H : Hp} (h : let D0 : Ends := D; z D0 σ H) : z D σ H := h
theorem args_is1 {α : Type} : ∀ {us : List α}, us.length = 1 → ∃ x0, us = [x0]
  | [x0], _ => ⟨x0, rfl⟩
theorem args_is2 {α : Type} : ∀ {us : List α}, us.length = 2 → ∃ x0 x1, us = [x0, x1]
  | [x0, x1], _ => ⟨x0, x1, rfl⟩
theorem args_is3 {α : Type} : ∀ {us : List α}, us.length = 3 → ∃ x0 x1 x2, us = [x0, x1, x2]
  | [x0, x1, x2], _ => ⟨x0, x1, x2, rfl⟩
section
open PySem PySem.Spec PyProof.Rows
variable {C : CXT} {P : Program} {w : World} {K : PySem.W.Frag} {mg : Str → Option Value} {base : Heap} {N : List Str} {q : Str} {sc : Scope} {f : Addr} {cd : Value} {A : Around} {outer : List Env} {s : Shared} {H : Hp} {E : XK}
theorem cx_noxK : (cxOf C P w K mg base N q sc f cd A outer s H E).nox.K = K := rfl
theorem cx_K : (cxOf C P w K mg base N q sc f cd A outer s H E).K = K := rfl
end
end L2
namespace K72
open PySem L2
def top (i : Nat) : Stmt := PySem.Challenge.pw_cosetyard_k72_homes.main.body.getD i (.Pass ⟨0, 0, 0, 0⟩)
abbrev s_steps_of : Stmt := top 8
abbrev s_place_of : Stmt := top 10
abbrev s_turning : Stmt := top 12
abbrev s_least_ways : Stmt := top 14
abbrev s_homes : Stmt := top 17
abbrev s_check_lists : Stmt := top 18
abbrev s_turned_by_least_ways : Stmt := top 20
abbrev s_turned_back : Stmt := top 21
abbrev s_homes_by : Stmt := top 22
abbrev s_greatest_letter : Stmt := top 23
abbrev s_longer : Stmt := top 24
abbrev s_leads_home : Stmt := top 25
abbrev s__law_at : Stmt := top 27
abbrev s__law_mix : Stmt := top 28
abbrev s__law_turns : Stmt := top 29
abbrev s__law_back : Stmt := top 30
abbrev s__law_through : Stmt := top 31
abbrev s__law_table : Stmt := top 32
abbrev s__law_word : Stmt := top 33
abbrev s__law_rules : Stmt := top 34
abbrev s__law_lists : Stmt := top 35
abbrev s__law_due : Stmt := top 36
abbrev s__law_same : Stmt := top 37
abbrev s__law_refused : Stmt := top 38
abbrev s__law_many : Stmt := top 39
abbrev s_law : Stmt := top 40
abbrev s_Moves___init__ : Stmt := inClass (top 19) 0
abbrev s_Moves_by_home : Stmt := inClass (top 19) 1
set_option genInjectivity false in
structure Adr where
  f_steps_of : Addr
  d_steps_of : FuncData
  f_place_of : Addr
  d_place_of : FuncData
  f_turning : Addr
  d_turning : FuncData
  f_least_ways : Addr
  d_least_ways : FuncData
  f_homes : Addr
  d_homes : FuncData
  f_check_lists : Addr
  d_check_lists : FuncData
  f_turned_by_least_ways : Addr
  d_turned_by_least_ways : FuncData
  f_turned_back : Addr
  d_turned_back : FuncData
  f_homes_by : Addr
  d_homes_by : FuncData
  f_greatest_letter : Addr
  d_greatest_letter : FuncData
  f_longer : Addr
  d_longer : FuncData
  f_leads_home : Addr
  d_leads_home : FuncData
  f__law_at : Addr
  d__law_at : FuncData
  f__law_mix : Addr
  d__law_mix : FuncData
  f__law_turns : Addr
  d__law_turns : FuncData
  f__law_back : Addr
  d__law_back : FuncData
  f__law_through : Addr
  d__law_through : FuncData
  f__law_table : Addr
  d__law_table : FuncData
  f__law_word : Addr
  d__law_word : FuncData
  f__law_rules : Addr
  d__law_rules : FuncData
  f__law_lists : Addr
  d__law_lists : FuncData
  f__law_due : Addr
  d__law_due : FuncData
  f__law_same : Addr
  d__law_same : FuncData
  f__law_refused : Addr
  d__law_refused : FuncData
  f__law_many : Addr
  d__law_many : FuncData
  f_law : Addr
  d_law : FuncData
  f_Moves___init__ : Addr
  d_Moves___init__ : FuncData
  f_Moves_by_home : Addr
  d_Moves_by_home : FuncData
  t_MOST_LISTS : Tok
  c_YardError : Addr
  c_NoWord : Addr
  c_TooLong : Addr
  c_NoOrder : Addr
  c_TooMany : Addr
  c_TooGreat : Addr
  c_Moves : Addr
set_option genInjectivity false in
structure Txt (K : PySem.W.Frag) (mg : Str → Option Value) (A : Adr) : Prop where
  steps_of : Def K mg "steps_of" s_steps_of ["letters"] A.f_steps_of A.d_steps_of
  place_of : Def K mg "place_of" s_place_of ["step"] A.f_place_of A.d_place_of
  turning : Def K mg "turning" s_turning ["table", "word"] A.f_turning A.d_turning
  least_ways : Def K mg "least_ways" s_least_ways ["table"] A.f_least_ways A.d_least_ways
  homes : Def K mg "homes" s_homes ["letters", "rules", "table"] A.f_homes A.d_homes
  check_lists : Def K mg "check_lists" s_check_lists ["rooms", "letters"] A.f_check_lists A.d_check_lists
  turned_by_least_ways : Def K mg "turned_by_least_ways" s_turned_by_least_ways ["table"] A.f_turned_by_least_ways A.d_turned_by_least_ways
  turned_back : Def K mg "turned_back" s_turned_back ["turned"] A.f_turned_back A.d_turned_back
  homes_by : Def K mg "homes_by" s_homes_by ["moves", "letters", "rules"] A.f_homes_by A.d_homes_by
  greatest_letter : Def K mg "greatest_letter" s_greatest_letter ["rule"] A.f_greatest_letter A.d_greatest_letter
  longer : Def K mg "longer" s_longer ["lists", "due", "moves"] A.f_longer A.d_longer
  leads_home : Def K mg "leads_home" s_leads_home ["moves", "home", "rule"] A.f_leads_home A.d_leads_home
  _law_at : Def K mg "_law_at" s__law_at ["_law_script", "_law_k"] A.f__law_at A.d__law_at
  _law_mix : Def K mg "_law_mix" s__law_mix ["_law_number", "_law_place"] A.f__law_mix A.d__law_mix
  _law_turns : Def K mg "_law_turns" s__law_turns ["_law_number", "_law_letters", "_law_points"] A.f__law_turns A.d__law_turns
  _law_back : Def K mg "_law_back" s__law_back ["_law_turned"] A.f__law_back A.d__law_back
  _law_through : Def K mg "_law_through" s__law_through ["_law_turns_here", "_law_word_here", "_law_points"] A.f__law_through A.d__law_through
  _law_table : Def K mg "_law_table" s__law_table ["_law_turns_here", "_law_points"] A.f__law_table A.d__law_table
  _law_word : Def K mg "_law_word" s__law_word ["_law_cells", "_law_letters"] A.f__law_word A.d__law_word
  _law_rules : Def K mg "_law_rules" s__law_rules ["_law_script", "_law_letters", "_law_number"] A.f__law_rules A.d__law_rules
  _law_lists : Def K mg "_law_lists" s__law_lists ["_law_letters", "_law_many_here"] A.f__law_lists A.d__law_lists
  _law_due : Def K mg "_law_due" s__law_due ["_law_letters", "_law_rules_here", "_law_come"] A.f__law_due A.d__law_due
  _law_same : Def K mg "_law_same" s__law_same ["_law_found", "_law_due_here"] A.f__law_same A.d__law_same
  _law_refused : Def K mg "_law_refused" s__law_refused ["_law_letters", "_law_rules_here", "_law_table_here"] A.f__law_refused A.d__law_refused
  _law_many : Def K mg "_law_many" s__law_many ["_law_letters", "_law_rooms"] A.f__law_many A.d__law_many
  law : Def K mg "law" s_law ["_law_script"] A.f_law A.d_law
  Moves___init__ : MDef K A.c_Moves "__init__" "Moves.__init__" s_Moves___init__ ["self", "table"] A.f_Moves___init__ A.d_Moves___init__
  Moves_by_home : MDef K A.c_Moves "by_home" "Moves.by_home" s_Moves_by_home ["self", "home", "step"] A.f_Moves_by_home A.d_Moves_by_home
  g_MOST_LISTS : mg "MOST_LISTS" = some (.int 5000 A.t_MOST_LISTS)
  z_zip : mg "zip" = none
  z_range : mg "range" = none
  z_len : mg "len" = none
  z_tuple : mg "tuple" = none
  z_list : mg "list" = none
  z_isinstance : mg "isinstance" = none
  z_bool : mg "bool" = none
  z_enumerate : mg "enumerate" = none
  z_abs : mg "abs" = none
  z_all : mg "all" = none
  z_min : mg "min" = none
  z_max : mg "max" = none
  z_int : mg "int" = none
  m_YardError : mg "YardError" = some (.ref A.c_YardError)
  m_NoWord : mg "NoWord" = some (.ref A.c_NoWord)
  m_TooLong : mg "TooLong" = some (.ref A.c_TooLong)
  m_NoOrder : mg "NoOrder" = some (.ref A.c_NoOrder)
  m_TooMany : mg "TooMany" = some (.ref A.c_TooMany)
  m_TooGreat : mg "TooGreat" = some (.ref A.c_TooGreat)
  m_Moves : mg "Moves" = some (.ref A.c_Moves)
  pg_Moves : PySem.W.plainGet K A.c_Moves Str.empty = true
  hd_Moves : PySem.W.hasDictIn K A.c_Moves = true
  po_Moves : PySem.W.plainOver K A.c_Moves = true
  sa_Moves : PySem.W.findIn K (.ref A.c_Moves) "__setattr__" = some (some (.builtin "object.__setattr__"))
  mk_Moves : PySem.W.makesIn K A.c_Moves = true
  kc_Moves : PySem.W.keepIn K (.ref A.c_Moves) = true
  n_many : PySem.W.findIn K (.ref A.c_Moves) "many" = some none
  n_forth : PySem.W.findIn K (.ref A.c_Moves) "forth" = some none
  n_behind : PySem.W.findIn K (.ref A.c_Moves) "behind" = some none
  x_TooGreat : PySem.W.excIn K A.c_TooGreat mroV "ValueError.__new__" = true
  e_T : PySem.W.exmOne K (.ref A.c_TooGreat) (.ref A.c_YardError) = some true
  i_T1 : PySem.W.findIn K (.ref A.c_TooGreat) "__getattribute__" = some (some (.builtin "BaseException.__getattribute__"))
  i_T2 : PySem.W.findIn K (.ref A.c_TooGreat) "__getattr__" = some none
  i_T3 : PySem.W.isClsIn K A.c_TooGreat = true
  i_T4 : PySem.W.findIn K (.ref A.c_TooGreat) "__class__" = some (some (.builtin "object.__class__"))
  i5 : PySem.W.specialIn K (.builtin "object.__class__") "__get__" = some (some (.builtin "getset_descriptor.__get__"))
  i6 : PySem.W.takesIn K (.builtin "object.__class__") = some true
  i_T7 : PySem.W.mroIn K A.c_TooGreat (.type "object") = some true
  i_T8 : PySem.W.subIn K (.ref A.c_TooGreat) (.type "BaseException") = some true
  k_T : PySem.W.kitOne K (.ref A.c_TooGreat) (.ref A.c_TooGreat) = some true
  a_T : PySem.W.kitAny K (.ref A.c_TooGreat) [.ref A.c_NoOrder, .ref A.c_NoWord, .ref A.c_TooLong, .ref A.c_TooMany] = some false
theorem cl_Moves {K : PySem.W.Frag} {mg : Str → Option Value} {A : Adr} (T : Txt K mg A) : Cls K A.c_Moves := ⟨T.pg_Moves, T.hd_Moves, T.po_Moves, T.sa_Moves⟩
theorem mk_Moves {K : PySem.W.Frag} {mg : Str → Option Value} {A : Adr} (T : Txt K mg A) : Mk K A.c_Moves A.f_Moves___init__ := ⟨T.mk_Moves, T.Moves___init__.m.at_, T.Moves___init__.m.fn, T.kc_Moves⟩
theorem sc_steps_of : FnScope ["letters", "steps", "letter"] ["letters"] (defScope s_steps_of) := ⟨rfl, rfl, rfl, by decide +kernel, rfl, by decide +kernel, by decide +kernel⟩
theorem sc_place_of : FnScope ["step"] ["step"] (defScope s_place_of) := ⟨rfl, rfl, rfl, by decide +kernel, rfl, by decide +kernel, by decide +kernel⟩
theorem sc_turning : FnScope ["table", "word", "turned", "step", "place"] ["table", "word"] (defScope s_turning) := ⟨rfl, rfl, rfl, by decide +kernel, rfl, by decide +kernel, by decide +kernel⟩
theorem sc_least_ways : FnScope ["table", "steps", "ways", "room", "row", "step", "other"] ["table"] (defScope s_least_ways) := ⟨rfl, rfl, rfl, by decide +kernel, rfl, by decide +kernel, by decide +kernel⟩
theorem sc_homes : FnScope ["letters", "rules", "table"] ["letters", "rules", "table"] (defScope s_homes) := ⟨rfl, rfl, rfl, by decide +kernel, rfl, by decide +kernel, by decide +kernel⟩
theorem sc_check_lists : FnScope ["rooms", "letters", "many", "letter"] ["rooms", "letters"] (defScope s_check_lists) := ⟨rfl, rfl, rfl, by decide +kernel, rfl, by decide +kernel, by decide +kernel⟩
theorem sc_turned_by_least_ways : FnScope ["table", "ways", "turned", "room", "step", "ahead", "place"] ["table"] (defScope s_turned_by_least_ways) := ⟨rfl, rfl, rfl, by decide +kernel, rfl, by decide +kernel, by decide +kernel⟩
theorem sc_turned_back : FnScope ["turned", "rooms", "room", "other"] ["turned"] (defScope s_turned_back) := ⟨rfl, rfl, rfl, by decide +kernel, rfl, by decide +kernel, by decide +kernel⟩
theorem sc_homes_by : FnScope ["moves", "letters", "rules", "found", "letter", "due"] ["moves", "letters", "rules"] (defScope s_homes_by) := ⟨rfl, rfl, rfl, by decide +kernel, rfl, by decide +kernel, by decide +kernel⟩
theorem sc_greatest_letter : FnScope ["rule"] ["rule"] (defScope s_greatest_letter) := ⟨rfl, rfl, rfl, by decide +kernel, rfl, by decide +kernel, by decide +kernel⟩
theorem sc_longer : FnScope ["lists", "due", "moves", "found", "rooms", "room", "home"] ["lists", "due", "moves"] (defScope s_longer) := ⟨rfl, rfl, rfl, by decide +kernel, rfl, by decide +kernel, by decide +kernel⟩
theorem sc_leads_home : FnScope ["moves", "home", "rule", "turned", "step", "room"] ["moves", "home", "rule"] (defScope s_leads_home) := ⟨rfl, rfl, rfl, by decide +kernel, rfl, by decide +kernel, by decide +kernel⟩
theorem sc__law_at : FnScope ["_law_script", "_law_k"] ["_law_script", "_law_k"] (defScope s__law_at) := ⟨rfl, rfl, rfl, by decide +kernel, rfl, by decide +kernel, by decide +kernel⟩
theorem sc__law_mix : FnScope ["_law_number", "_law_place", "_law_part"] ["_law_number", "_law_place"] (defScope s__law_mix) := ⟨rfl, rfl, rfl, by decide +kernel, rfl, by decide +kernel, by decide +kernel⟩
theorem sc__law_turns : FnScope ["_law_number", "_law_letters", "_law_points", "_law_turns_here", "_law_k", "_law_row", "_law_j", "_law_at_here", "_law_kept"] ["_law_number", "_law_letters", "_law_points"] (defScope s__law_turns) := ⟨rfl, rfl, rfl, by decide +kernel, rfl, by decide +kernel, by decide +kernel⟩
theorem sc__law_back : FnScope ["_law_turned", "_law_found", "_law_k"] ["_law_turned"] (defScope s__law_back) := ⟨rfl, rfl, rfl, by decide +kernel, rfl, by decide +kernel, by decide +kernel⟩
theorem sc__law_through : FnScope ["_law_turns_here", "_law_word_here", "_law_points", "_law_spots", "_law_step", "_law_turned"] ["_law_turns_here", "_law_word_here", "_law_points"] (defScope s__law_through) := ⟨rfl, rfl, rfl, by decide +kernel, rfl, by decide +kernel, by decide +kernel⟩
theorem sc__law_table : FnScope ["_law_turns_here", "_law_points", "_law_come", "_law_table_here", "_law_spots", "_law_row", "_law_k", "_law_turned", "_law_other"] ["_law_turns_here", "_law_points"] (defScope s__law_table) := ⟨rfl, rfl, rfl, by decide +kernel, rfl, by decide +kernel, by decide +kernel⟩
theorem sc__law_word : FnScope ["_law_cells", "_law_letters", "_law_steps", "_law_cell", "_law_number", "_law_step"] ["_law_cells", "_law_letters"] (defScope s__law_word) := ⟨rfl, rfl, rfl, by decide +kernel, rfl, by decide +kernel, by decide +kernel⟩
theorem sc__law_rules : FnScope ["_law_script", "_law_letters", "_law_number", "_law_rules_here", "_law_k", "_law_some", "_law_kept", "_law_cell"] ["_law_script", "_law_letters", "_law_number"] (defScope s__law_rules) := ⟨rfl, rfl, rfl, by decide +kernel, rfl, by decide +kernel, by decide +kernel⟩
theorem sc__law_lists : FnScope ["_law_letters", "_law_many_here", "_law_found", "_law_k", "_law_longer", "_law_one"] ["_law_letters", "_law_many_here"] (defScope s__law_lists) := ⟨rfl, rfl, rfl, by decide +kernel, rfl, by decide +kernel, by decide +kernel⟩
theorem sc__law_due : FnScope ["_law_letters", "_law_rules_here", "_law_come", "_law_found", "_law_points", "_law_home", "_law_moves", "_law_good", "_law_rule"] ["_law_letters", "_law_rules_here", "_law_come"] (defScope s__law_due) := ⟨rfl, rfl, rfl, by decide +kernel, rfl, by decide +kernel, by decide +kernel⟩
theorem sc__law_same : FnScope ["_law_found", "_law_due_here", "_law_one", "_law_home", "_law_room"] ["_law_found", "_law_due_here"] (defScope s__law_same) := ⟨rfl, rfl, rfl, by decide +kernel, rfl, by decide +kernel, by decide +kernel⟩
theorem sc__law_refused : FnScope ["_law_letters", "_law_rules_here", "_law_table_here", "_law_kept", "e"] ["_law_letters", "_law_rules_here", "_law_table_here"] (defScope s__law_refused) := ⟨rfl, rfl, rfl, by decide +kernel, rfl, by decide +kernel, by decide +kernel⟩
theorem sc__law_many : FnScope ["_law_letters", "_law_rooms", "_law_many_here", "_law_k"] ["_law_letters", "_law_rooms"] (defScope s__law_many) := ⟨rfl, rfl, rfl, by decide +kernel, rfl, by decide +kernel, by decide +kernel⟩
theorem sc_law : FnScope ["_law_script", "_law_number", "_law_points", "_law_turns_here", "_law_letters", "_law_edge", "_law_some", "_law_table_here", "_law_come", "_law_rules_here", "_law_handed", "_law_due_here", "_law_told"] ["_law_script"] (defScope s_law) := ⟨rfl, rfl, rfl, by decide +kernel, rfl, by decide +kernel, by decide +kernel⟩
theorem sc_Moves___init__ : FnScope ["self", "table"] ["self", "table"] (defScope s_Moves___init__) := ⟨rfl, rfl, rfl, by decide +kernel, rfl, by decide +kernel, by decide +kernel⟩
theorem sc_Moves_by_home : FnScope ["self", "home", "step", "room"] ["self", "home", "step"] (defScope s_Moves_by_home) := ⟨rfl, rfl, rfl, by decide +kernel, rfl, by decide +kernel, by decide +kernel⟩
section
variable {P : Program} {w : World} {K : PySem.W.Frag} {mg : Str → Option Value} {base : Heap} {A : Adr}
def spAt (K : PySem.W.Frag) : Sp := fun vs H Q _ => ∃ (a : Addr) (ns : List Int) (k : Nat), vs = [.ref a, .int k] ∧ SqL K H a (intV ns) ∧ k ≤ 1000 ∧ ∀ z, Q (.int z) H
def spMix : Sp := fun vs H Q _ => ∃ (z p : Int), vs = [.int z, .int p] ∧ 0 ≤ p ∧ p ≤ 1000 ∧ ∀ r : Int, 0 ≤ r → Q (.int r) H
theorem get_some {α : Type} {xs : List α} {i : Nat} (h : i < xs.length) : ∃ x, xs[i]? = some x := ⟨_, List.getElem?_eq_getElem h⟩
def spLaw (K : PySem.W.Frag) : Sp := fun vs H Q _ => ∃ (a : Addr) (ns : List Int), vs = [.ref a] ∧ SqL K H a (ns.map V.int) ∧ ns.length ≤ 63 ∧ ∀ H', Q (.bl true) H'
theorem ref_at {rs : List Addr} {i : Nat} {r : Addr} (h : rs[i]? = some r) : atI (rs.map V.ref) (i : Int) = some (V.ref r) := atI_nat (by rw [List.getElem?_map, h]; rfl)
theorem ok__law_at (T : Txt K mg A) : FnOk P w K mg base (CXw P w) 1 A.f__law_at A.d__law_at ["_law_script", "_law_k"] (spAt K) := by
  refine T._law_at.F.okN sc__law_at (fun vs H Q E h => ?_) (fun cdv AA outer s H vs Q E hr h => ?_)
  · obtain ⟨a, ns, n, rfl, _⟩ := h
    rfl
  · obtain ⟨a, ns, n, rfl, ha, hn, k⟩ := h
    refine ⟨_, (pss_cons (ps_if (pt_cmpR op_lt (pv 1) (pe_callB call_len_seq rfl T.z_len PySem.boot_len (pa_cons (pv 0) pa_nil)) (nomark _))
        (pss_one (ps_ret (pe_ix ix_list (pv 0) (pv 1) (fun _ _ => rfl))))
        pss_nil)
      (pss_one (ps_ret (pe_op op_add (pe_op op_mul pe_int (pv 1)) pe_int)))), ?_⟩
    try dsimp only [cx_noxK, cx_K]
    refine seq_let1 ?_
    intro u_1
    refine ⟨_, rfl, _, rfl, a, _, rfl, .inl ha, _, _, rfl, rfl, _, rfl, ?_⟩
    refine ite2 (fun h => ?_) (fun h => ?_)
    · have h' : (n : Int) < ((intV ns).length : Int) := of_decide_eq_true h
      rw [ints_len] at h'
      have e0 : ns[n]? = some ns[n] := List.getElem?_eq_getElem (by omega)
      exact ⟨_, rfl, _, rfl, a, _, _, _, rfl, rfl, ha, atI_nat (ints_at e0), k _⟩
    · exact ⟨_, rfl, _, _, rfl, rfl, .inl ⟨by decide, by decide⟩, _, _, rfl, rfl, k _⟩
theorem ok__law_mix (T : Txt K mg A) : FnOk P w K mg base (CXw P w) 1 A.f__law_mix A.d__law_mix ["_law_number", "_law_place"] spMix := by
  refine T._law_mix.F.okN sc__law_mix (fun vs H Q E h => ?_) (fun cdv AA outer s H vs Q E hr h => ?_)
  · obtain ⟨z, p, rfl, _⟩ := h
    rfl
  · obtain ⟨z, p, rfl, hp, hp2, k⟩ := h
    refine ⟨_, (pss_cons (ps_set (i := 2) sc__law_mix.nd rfl (Or.inl rfl) (pe_op op_mod (pe_op op_mul (pe_op op_add (pe_op op_add (pe_op op_mod (pv 0) pe_int) (pv 1)) pe_int) (pe_op op_add (pe_op op_mul (pe_op op_mul pe_int (pv 1)) (pv 1)) pe_int)) pe_int))
      (pss_one (ps_ret (pe_op op_mod (pe_op op_mul (pv 2) (pv 2)) pe_int)))), ?_⟩
    try dsimp only [cx_noxK, cx_K]
    refine seq_let1 ?_
    intro u_1
    have b1 := Int.emod_nonneg z (show (2147483629 : Int) ≠ 0 by decide)
    have b2 := Int.emod_lt_of_pos z (show (0 : Int) < 2147483629 by decide)
    refine ⟨_, rfl, _, _, rfl, rfl, (by show (0 : Int) < 2147483629; decide), _, rfl, _, _, rfl, rfl, _, _, rfl, rfl, _, rfl, _, _, rfl, rfl, .inl ⟨by decide, by decide⟩, _, rfl, _, _, rfl, rfl, .inr ⟨by omega, by omega⟩, _, _, rfl, rfl, _, _, rfl, rfl, .inl ⟨by omega, by omega⟩, _, _, rfl, rfl, (by show (0 : Int) < 2147483647; decide), ?_⟩
    generalize ((z % 2147483629 + p + 1) * (8 * p * p + 48271)) = y1
    have c1 := Int.emod_nonneg y1 (show (2147483647 : Int) ≠ 0 by decide)
    have c2 := Int.emod_lt_of_pos y1 (show (0 : Int) < 2147483647 by decide)
    generalize y1 % 2147483647 = y2 at c1 c2 ⊢
    refine ⟨_, rfl, _, rfl, _, _, rfl, rfl, .inl ⟨by omega, by omega⟩, _, _, rfl, rfl, (by show (0 : Int) < 2147483587; decide), ?_⟩
    exact k _ (Int.emod_nonneg _ (by decide))
theorem ixN_nat {n i : Nat} (h : i < n) : ixN n (i : Int) = some i := by
  unfold ixN
  rw [if_pos (by omega), if_pos (by omega), Int.toNat_natCast]
theorem ints_set (ns : List Int) (i : Nat) (z : Int) : (intV ns).set i (.int z) = intV (ns.set i z) := by
  unfold intV
  rw [List.map_set]
theorem pm_rng {p : Nat} : M11.Pm p (rng 0 p) := by
  refine ⟨rng_len 0 p, ?_, fun z hz => ?_⟩
  · unfold rng
    exact List.Pairwise.map _ (fun a b (hab : a ≠ b) (z : (0 : Int) + (a : Int) = 0 + (b : Int)) => hab (by omega)) List.nodup_range
  · unfold rng at hz
    obtain ⟨i, hi, rfl⟩ := List.mem_map.mp hz
    have := List.mem_range.mp hi
    omega
theorem pm_ring {p : Nat} (hp : 1 ≤ p) : M11.Pm p (rng 1 (p - 1) ++ [0]) := by
  refine ⟨by rw [List.length_append, rng_len]; show p - 1 + 1 = p; omega, ?_, fun z hz => ?_⟩
  · rw [List.nodup_append]
    refine ⟨?_, by simp, fun a ha b hb => ?_⟩
    · unfold rng
      exact List.Pairwise.map _ (fun a b (hab : a ≠ b) (z : (1 : Int) + (a : Int) = 1 + (b : Int)) => hab (by omega)) List.nodup_range
    · rw [List.mem_singleton.mp hb]
      unfold rng at ha
      obtain ⟨i, hi, rfl⟩ := List.mem_map.mp ha
      omega
  · rcases List.mem_append.mp hz with hz | hz
    · unfold rng at hz
      obtain ⟨i, hi, rfl⟩ := List.mem_map.mp hz
      have := List.mem_range.mp hi
      omega
    · rw [List.mem_singleton.mp hz]
      omega
def But (p : Addr) (H H' : Hp) : Prop := ∀ q o, q ≠ p → H q = some o → H' q = some o
theorem But.trans {p : Addr} {H H1 H2 : Hp} (a : But p H H1) (b : But p H1 H2) : But p H H2 := fun q o n e => b q o n (a q o n e)
theorem But.upd {p : Addr} {H : Hp} {o : HO} : But p H (upd H p o) := fun q u n e => by rw [upd_ne n]; exact e
theorem _root_.L2.RowsAt.but {H H' : Hp} {rs : List Addr} {rows : List (List Int)} {w : Addr} (h : RowsAt H rs rows) (b : But w H H') (hw : w ∉ rs) : RowsAt H' rs rows := ⟨h.1, fun i r ns h1 h2 => b _ _ (fun z => hw (by rw [← z]; exact List.mem_of_getElem? h1)) (h.2 i r ns h1 h2)⟩
theorem rows_mem {H : Hp} {rs : List Addr} {rows : List (List Int)} (h : RowsAt H rs rows) {r : Addr} (hr : r ∈ rs) : ∃ ns, H r = some (.lst (intV ns)) := by
  obtain ⟨i, hi, e⟩ := List.mem_iff_getElem.mp hr
  have hi2 : i < rows.length := by rw [← h.1]; exact hi
  exact ⟨_, h.2 i r _ (by rw [List.getElem?_eq_getElem hi, e]) (List.getElem?_eq_getElem hi2)⟩
theorem _root_.L2.RowsAt.snoc {H : Hp} {rs : List Addr} {rows : List (List Int)} {r : Addr} {ns : List Int} (h : RowsAt H rs rows) (hr : H r = some (.lst (intV ns))) : RowsAt H (rs ++ [r]) (rows ++ [ns]) := by
  refine ⟨by rw [List.length_append, List.length_append, h.1]; rfl, fun i q ms h1 h2 => ?_⟩
  by_cases hi : i < rs.length
  · rw [List.getElem?_append_left hi] at h1
    rw [List.getElem?_append_left (by rw [← h.1]; exact hi)] at h2
    exact h.2 i q ms h1 h2
  · rw [List.getElem?_append_right (by omega)] at h1
    rw [List.getElem?_append_right (by rw [← h.1]; omega)] at h2
    rw [List.mem_singleton.mp (List.mem_of_getElem? h1), List.mem_singleton.mp (List.mem_of_getElem? h2)]
    exact hr
theorem rep_zero (p : Nat) : (List.replicate p [V.int 0]).flatten = intV (List.replicate p (0 : Int)) := by
  unfold intV
  rw [List.map_replicate]
  induction p with
  | zero => rfl
  | succ n ih => rw [List.replicate_succ, List.flatten_cons, ih, List.replicate_succ]; rfl
theorem tups_upd {H : Hp} {ps : List Addr} {ws : List (List Int)} (h : TupsAt H ps ws) {w : Addr} {xs : List V} {o : HO} (hw : H w = some (.lst xs)) : TupsAt (upd H w o) ps ws := h.keep fun p us e => by
  rw [upd_ne (ne_of e hw (by intro z; cases z))]
  exact e
def spPlace : Sp := fun vs H Q _ => ∃ s : Int, vs = [.int s] ∧ s ≠ 0 ∧ s.natAbs ≤ 1000 ∧ Q (.int (M11.pl s)) H
theorem tab_get {H : Hp} {a : Addr} {T : List (List Int)} {L i : Nat} (h : TabAt H a T) (hT : M11.Tab L T) (hi : i < T.length) : ∃ (rs : List Addr) (r : Addr) (row : List Int), H a = some (.lst (rs.map V.ref)) ∧ rs[i]? = some r ∧ H r = some (.lst (intV row)) ∧ row.length = 2 * L ∧ ∀ k, k < 2 * L → row[k]? = some ((M11.nx T k i : Nat) : Int) := by
  obtain ⟨rs, h1, h2⟩ := h
  have hil : i < rs.length := by rw [h2.1]; exact hi
  have hr : rs[i]? = some rs[i] := List.getElem?_eq_getElem hil
  have ht : T[i]? = some T[i] := List.getElem?_eq_getElem hi
  refine ⟨rs, _, _, h1, hr, h2.2 i _ _ hr ht, hT.row i _ ht, fun k hk => ?_⟩
  obtain ⟨r, e1, e2⟩ := hT.val i k hi hk
  rw [ht] at e1
  rw [Option.some.inj e1]
  exact e2
theorem walk_take {T : List (List Int)} {w : List Int} {i n : Nat} {s : Int} (h : w[n]? = some s) : M11.walk T (w.take (n + 1)) i = M11.nx T (M11.pl s) (M11.walk T (w.take n) i) := by
  rw [List.take_succ, h]
  exact M11.walk_app T (w.take n) [s] i
theorem steps_take {L : Nat} {w : List Int} (n : Nat) (h : M11.Steps L w) : M11.Steps L (w.take n) := fun s hs => h s (List.mem_of_mem_take hs)
theorem ok_place_of (T : Txt K mg A) : FnOk P w K mg base (CXw P w) 1 A.f_place_of A.d_place_of ["step"] spPlace := by
  refine T.place_of.F.okN sc_place_of (fun vs H Q E h => ?_) (fun cdv AA outer s H vs Q E hr h => ?_)
  · obtain ⟨s, rfl, _⟩ := h
    rfl
  · obtain ⟨s, rfl, hs0, hsl, k⟩ := h
    refine ⟨_, (pss_cons (ps_if (pt_cmpR op_gt (pv 0) pe_int (nomark _))
        (pss_one (ps_ret (pe_op op_sub (pe_op op_mul pe_int (pv 0)) pe_int)))
        pss_nil)
      (pss_one (ps_ret (pe_op op_sub (pe_op op_mul (pe_un un_neg pe_int) (pv 0)) pe_int)))), ?_⟩
    try dsimp only [cx_noxK, cx_K]
    refine seq_let1 ?_
    intro u_1
    refine ⟨_, rfl, _, _, rfl, rfl, _, rfl, ?_⟩
    refine ite2 (fun h => ?_) (fun h => ?_)
    · have h' : (0 : Int) < s := of_decide_eq_true h
      refine ⟨_, rfl, _, _, rfl, rfl, .inl ⟨by decide, by decide⟩, _, _, rfl, rfl, ?_⟩
      unfold M11.pl at k
      rw [if_pos h', show ((2 * s.natAbs - 2 : Nat) : Int) = 2 * s - 2 by omega] at k
      exact k
    · have h' : ¬ (0 : Int) < s := fun z => h (decide_eq_true z)
      refine ⟨_, rfl, _, rfl, _, _, rfl, rfl, .inl ⟨by decide, by decide⟩, _, _, rfl, rfl, ?_⟩
      unfold M11.pl at k
      rw [if_neg h', show ((2 * s.natAbs - 1 : Nat) : Int) = -2 * s - 1 by omega] at k
      exact k
theorem comp_copy {K : PySem.W.Frag} {H : Hp} {a : Addr} {fv : St} {te : TE} {Q : VK} {rs : List Addr} {rows : List (List Int)} (hrs : H a = some (.lst (rs.map V.ref))) (hrw : RowsAt H rs rows) (hz : rows.length ≤ 1000) (he : ∀ (H2 : Hp) (r : Addr) (ns : List Int) (R : VK), H2 r = some (.lst (intV ns)) → (∀ l, H2 l = none → R (.ref l) (upd H2 l (.lst (intV ns)))) → te (some (.ref r) :: fv) H2 R)
    (hQ : ∀ D H2 qs, Same H H2 → H2 D = none → RowsAt H2 qs rows → Q (.ref D) (upd H2 D (.lst (qs.map V.ref)))) : CompGo te fv Q (Itl K a) H := by
  have hrl := hrw.1
  refine ⟨fun i m ys H2 => m = rs.length - i ∧ i ≤ rs.length ∧ ∃ qs : List Addr, ys = qs.map V.ref ∧ Same H H2 ∧ RowsAt H2 qs (rows.take i), ⟨rs.length, by simp, Nat.zero_le _, [], rfl, fun _ _ e => e, ⟨by simp, fun i r ns h1 => by simp at h1⟩⟩, ?_⟩
  rintro i m ys H2 ⟨rfl, hi, qs, rfl, s2, hqa⟩
  have hql : qs.length = i := by have := hqa.1; rw [List.length_take] at this; omega
  by_cases hlt : i < rs.length
  · have g1 : rs[i]? = some rs[i] := List.getElem?_eq_getElem hlt
    have hil : i < rows.length := by omega
    have g2 : rows[i]? = some rows[i] := List.getElem?_eq_getElem hil
    have hr := hrw.2 i _ _ g1 g2
    refine .inr ⟨itl_go (SqL.of (s2 _ _ hrs)) i (by rw [List.length_map]; exact hlt), by rw [List.length_map, hql]; exact Nat.lt_of_le_of_lt (show i ≤ 1000 by omega) (by decide), fun x H3 hy => ?_⟩
    obtain ⟨rfl, hx⟩ := itl_yld (SqL.of (s2 _ _ hrs)) i x H3 (by rw [List.length_map]; exact hlt) hy
    rw [List.getElem?_map, g1] at hx
    have ex : V.ref rs[i] = x := Option.some.inj hx
    subst ex
    refine he H3 _ _ _ (s2 _ _ hr) fun l hl => ?_
    refine ⟨rs.length - (i + 1), by omega, rfl, hlt, qs ++ [l], by rw [List.map_append]; rfl, s2.trans (Same.upd hl), ?_⟩
    have e : rows.take (i + 1) = rows.take i ++ [rows[i]] := by rw [List.take_succ, g2]; rfl
    rw [e]
    exact (hqa.same (Same.upd hl)).snoc upd_same
  · have e : i = rs.length := by omega
    refine .inl ⟨?_, by rw [List.length_map, hql]; exact Nat.le_trans (show i ≤ 1000 by omega) (by decide), fun D hD => ?_⟩
    · have := itl_stop (K := K) (SqL.of (s2 _ _ hrs))
      rw [List.length_map, ← e] at this
      exact this
    · rw [List.take_of_length_le (by omega)] at hqa
      exact hQ D H2 qs s2 hD hqa
theorem rng_thr (rows : List (List Int)) (p : Nat) : rng 0 p = M18.thr rows p [] := by
  unfold rng M18.thr
  refine List.map_congr_left fun i _ => ?_
  show (0 : Int) + (i : Int) = (i : Int)
  omega
def spTurns : Sp := fun vs H Q _ => ∃ (z : Int) (L p : Nat), vs = [.int z, .int L, .int p] ∧ 1 ≤ L ∧ L ≤ 40 ∧ 1 ≤ p ∧ p ≤ 30 ∧ ∀ l rows H', Same H H' → WordsAt H' l rows → rows.length = L → (∀ r ∈ rows, M11.Pm p r) → Q (.ref l) H'
def spBackT : Sp := fun vs H Q _ => ∃ (a : Addr) (r : List Int) (p : Nat), vs = [.ref a] ∧ H a = some (.tup (intV r)) ∧ M11.Pm p r ∧ p ≤ 100 ∧ ∀ l t H', Same H H' → H' l = some (.tup (intV t)) → M11.InvOf p r t → Q (.ref l) H'
def spTable : Sp := fun vs H Q _ => ∃ (a : Addr) (rows : List (List Int)) (p : Nat) (G : List Int → Prop), vs = [.ref a, .int p] ∧ WordsAt H a rows ∧ (∀ r ∈ rows, M11.Pm p r) ∧ p ≤ 100 ∧ 1 ≤ rows.length ∧ rows.length ≤ 40 ∧ G (M18.thr rows p []) ∧ (∀ u, G u → M11.Pm p u) ∧ (∀ (k : Nat) (u : List Int), k < 2 * rows.length → G u → G (M18.mvs rows (M12.st k) u)) ∧ (∀ c : List (List Int), c.Nodup → (∀ u ∈ c, G u) → c.length ≤ 300) ∧
  ∀ l lt lc T come H', Same H H' → H' l = some (.tup [.ref lt, .ref lc]) → TabAt H' lt T → WordsAt H' lc come → M18.Cm rows.length (fun k u => M18.mvs rows (M12.st k) u) T come → come[0]? = some (M18.thr rows p []) → (∀ u ∈ come, G u) → M12.Fc (2 * rows.length) T.flatten T.length → Q (.ref l) H'
theorem ok__law_turns (T : Txt K mg A) : FnOk P w K mg base (CXw P w) 2 A.f__law_turns A.d__law_turns ["_law_number", "_law_letters", "_law_points"] spTurns := by
  have G__law_mix : FnOk P w K mg base (CXw P w) 1 A.f__law_mix A.d__law_mix ["_law_number", "_law_place"] spMix := ok__law_mix T
  refine T._law_turns.F.okN sc__law_turns (fun vs H Q E h => ?_) (fun cdv AA outer s H vs Q E hr h => ?_)
  · obtain ⟨z, L, p, rfl, _⟩ := h
    rfl
  · obtain ⟨z, L, p, rfl, hL1, hL2, hp1, hp2, k⟩ := h
    refine ⟨_, (pss_cons (ps_set (i := 3) sc__law_turns.nd rfl (Or.inl rfl) (pe_lst pa_nil))
      (pss_cons (ps_for PassesOwn.never rfl (pi_range1 rfl T.z_range (pa_cons (pv 1) pa_nil)) (pg_name (i := 4) sc__law_turns.nd rfl (Or.inl rfl))
        (pss_cons (ps_set (i := 5) sc__law_turns.nd rfl (Or.inl rfl) (pe_listRange1 rfl rfl T.z_list rfl T.z_range (pa_cons (pv 2) pa_nil)))
        (pss_cons (ps_for PassesOwn.never rfl (pi_range1 rfl T.z_range (pa_cons (pv 2) pa_nil)) (pg_name (i := 6) sc__law_turns.nd rfl (Or.inl rfl))
          (pss_cons (ps_set (i := 7) sc__law_turns.nd rfl (Or.inl rfl) (pe_op op_mod (pe_call (G__law_mix) (hr.mono (by decide)) rfl T._law_mix.m T._law_mix.F.kp T._law_mix.b .nil passF (pa_cons (pv 0) (pa_cons (pe_op op_add (pe_op op_mul pe_int (pv 4)) (pv 6)) pa_nil))) (pv 2)))
          (pss_cons (ps_set (i := 8) sc__law_turns.nd rfl (Or.inl rfl) (pe_ix ix_list (pv 5) (pv 6) (fun _ _ => rfl)))
          (pss_cons (ps_asg (pe_ix ix_list (pv 5) (pv 7) (fun _ _ => rfl)) (pg_sub (pv 5) (pv 6) set_list))
          (pss_one (ps_asg (pv 8) (pg_sub (pv 5) (pv 7) set_list)))))))
        (pss_one (ps_expr (pe_bm PySem.F.plainAttrs_list PySem.F.slot_list_append PySem.F.type_list_append mt_append (pv 3) (pa_cons (pe_callTy call_tuple_of rfl T.z_tuple PyProof.Rows.boot_tuple (pa_cons (pv 5) pa_nil)) pa_nil)))))))
      (pss_one (ps_ret (pv 3))))), ?_⟩
    try dsimp only [cx_noxK, cx_K]
    refine seq_let2 ?_
    intro u_2 u_1
    refine ⟨Nat.zero_le _, fun lt hlt => ?_⟩
    have s0 : Same H (upd H lt (.lst [])) := Same.upd hlt
    have h0 : upd H lt (.lst []) lt = some (.lst (([] : List Addr).map V.ref)) := upd_same
    generalize upd H lt (.lst []) = H0 at s0 h0 ⊢
    refine ⟨_, rfl, (L : Int), rfl, by omega, by omega, ?_⟩
    let LI_1 : Nat → St → Hp → Prop := fun i σ H2 => ∃ (ps : List Addr) (rows : List (List Int)) (v4 v5 v6 v7 v8 : Option V), σ = [some (.int z), some (.int L), some (.int p), some (.ref lt), v4, v5, v6, v7, v8] ∧ Same H H2 ∧ H2 lt = some (.lst (ps.map V.ref)) ∧ TupsAt H2 ps rows ∧ rows.length = i ∧ ∀ r ∈ rows, M11.Pm p r
    refine for_range (lo := 0) (n := ((L : Int)).toNat) LI_1
      ⟨[], [], none, none, none, none, none, rfl, s0, h0, ⟨rfl, fun i r ns h1 => by simp at h1⟩, rfl, fun r hr => by simp at hr⟩ ?_ ?_
    · intro i σ H2 hi hh_
      refine goal_let ?_
      intro q_
      obtain ⟨ps, rows, v4, v5, v6, v7, v8, rfl, s2, h2, t2, hrl, hpm⟩ := hh_
      dsimp only [q_]
      clear q_
      dsimp only [gName]
      refine blk_let2 ?_
      intro D_0 w_2 w_1
      refine ⟨_, rfl, p, rfl, by omega, fun lr hlr => ?_⟩
      have s3 : Same H2 (upd H2 lr (.lst (intV (rng 0 p)))) := Same.upd hlr
      have h3 : upd H2 lr (.lst (intV (rng 0 p))) lr = some (.lst (intV (rng 0 p))) := upd_same
      generalize upd H2 lr (.lst (intV (rng 0 p))) = H3 at s3 h3 ⊢
      refine ⟨_, rfl, (p : Int), rfl, by omega, by omega, ?_⟩
      let LI_2 : Nat → St → Hp → Prop := fun j σ H4 => ∃ (row : List Int) (v6 v7 v8 : Option V), σ = [some (.int z), some (.int L), some (.int p), some (.ref lt), some (.int (0 + (i : Int))), some (.ref lr), v6, v7, v8] ∧ Same H2 H4 ∧ H4 lr = some (.lst (intV row)) ∧ M11.Pm p row
      refine for_range (lo := 0) (n := ((p : Int)).toNat) LI_2
        ⟨rng 0 p, v6, v7, v8, rfl, s3, h3, pm_rng⟩ ?_ ?_
      · intro j σ H4 hj hh_
        refine goal_let ?_
        intro q_
        obtain ⟨row, v6, v7, v8, rfl, s4, h4, hP⟩ := hh_
        dsimp only [q_]
        clear q_
        dsimp only [gName]
        refine blk_let3 ?_
        intro D_0 w_3 w_2 w_1
        have hjp : j < p := by omega
        refine ⟨_, rfl, _, rfl, _, _, rfl, rfl, .inr ⟨by omega, by omega⟩, _, rfl, _, _, rfl, rfl, z, 8 * (0 + (i : Int)) + (0 + (j : Int)), rfl, by omega, by omega, fun r hr => ?_⟩
        obtain ⟨o2, ho2, ho2l⟩ := emod_nat r (n := p) (by omega)
        obtain ⟨x1, hx1, _⟩ := hP.at hjp
        obtain ⟨x2, hx2, _⟩ := hP.at ho2l
        have ej : (0 : Int) + (j : Int) = (j : Int) := by omega
        refine ⟨_, rfl, _, _, rfl, rfl, (by show (0 : Int) < (p : Int); omega), ?_⟩
        simp only [ho2, ej]
        refine ⟨_, rfl, _, rfl, lr, _, _, _, rfl, rfl, SqL.of h4, atI_nat (ints_at hx1), ?_⟩
        refine ⟨_, rfl, _, rfl, lr, _, _, _, rfl, rfl, SqL.of h4, atI_nat (ints_at hx2), _, rfl, _, rfl, lr, _, _, j, rfl, rfl, h4, ixN_nat (by rw [ints_len, hP.len]; exact hjp), ?_⟩
        rw [ints_set]
        have h6 : upd H4 lr (.lst (intV (row.set j (x2 : Int)))) lr = some (.lst (intV (row.set j (x2 : Int)))) := upd_same
        refine ⟨_, rfl, _, rfl, _, rfl, lr, _, _, o2, rfl, rfl, h6, ixN_nat (by rw [ints_len, List.length_set, hP.len]; exact ho2l), ?_⟩
        rw [ints_set]
        refine ⟨_, _, _, _, rfl, fun b o e => ?_, upd_same, hP.swap hx1 hx2⟩
        have hb : b ≠ lr := ne_of_none e hlr
        rw [upd_ne hb, upd_ne hb]
        exact s4 _ _ e
      · intro σ H4 hh_
        refine goal_let ?_
        intro q_
        obtain ⟨row, v6, v7, v8, rfl, s4, h4, hP⟩ := hh_
        dsimp only [q_]
        clear q_
        refine ⟨_, rfl, .inl ⟨rfl, _, SqL.of (s4 _ _ h2)⟩, _, rfl, lr, _, rfl, .inl ⟨SqL.of h4, fun q hq => ?_⟩⟩
        have s5 : Same H4 (upd H4 q (.tup (intV row))) := Same.upd hq
        have h5 : upd H4 q (.tup (intV row)) q = some (.tup (intV row)) := upd_same
        generalize upd H4 q (.tup (intV row)) = H5 at s5 h5 ⊢
        have s25 := s4.trans s5
        have hpl : ps.length = rows.length := t2.1
        refine ⟨lt, _, _, rfl, rfl, s25 _ _ h2, ?_, ?_⟩
        · rw [List.length_map]
          exact Nat.lt_of_le_of_lt (show ps.length ≤ 40 by omega) (by decide)
        refine ⟨ps ++ [q], rows ++ [row], _, _, _, _, _, rfl, fun b o e => by rw [upd_ne (ne_of_none e hlt)]; exact s25 _ _ (s2 _ _ e), by rw [upd_same, List.map_append]; rfl, tups_upd ((t2.same s25).snoc h5) (s25 _ _ h2), by rw [List.length_append, hrl]; rfl, fun r hr => ?_⟩
        rcases List.mem_append.mp hr with hr | hr
        · exact hpm r hr
        · rw [List.mem_singleton.mp hr]; exact hP
    · intro σ H2 hh_
      refine goal_let ?_
      intro q_
      obtain ⟨ps, rows, v4, v5, v6, v7, v8, rfl, s2, h2, t2, hrl, hpm⟩ := hh_
      dsimp only [q_]
      clear q_
      rw [Int.toNat_natCast] at hrl
      exact ⟨_, rfl, k lt rows H2 s2 ⟨ps, h2, t2⟩ hrl hpm⟩
theorem ok__law_back (T : Txt K mg A) : FnOk P w K mg base (CXw P w) 1 A.f__law_back A.d__law_back ["_law_turned"] spBackT := by
  refine T._law_back.F.okN sc__law_back (fun vs H Q E h => ?_) (fun cdv AA outer s H vs Q E hr h => ?_)
  · obtain ⟨a, r, p, rfl, _⟩ := h
    rfl
  · obtain ⟨a, r, p, rfl, ha, hP, hp, k⟩ := h
    refine ⟨_, (pss_cons (ps_set (i := 1) sc__law_back.nd rfl (Or.inl rfl) (pe_op op_rep (pe_lst (pa_cons pe_int pa_nil)) (pe_callB call_len_seq rfl T.z_len PySem.boot_len (pa_cons (pv 0) pa_nil))))
      (pss_cons (ps_for PassesOwn.never rfl (pi_range1 rfl T.z_range (pa_cons (pe_callB call_len_seq rfl T.z_len PySem.boot_len (pa_cons (pv 0) pa_nil)) pa_nil)) (pg_name (i := 2) sc__law_back.nd rfl (Or.inl rfl))
        (pss_one (ps_asg (pv 2) (pg_sub (pv 1) (pe_ix ix_tup (pv 0) (pv 2) (fun _ _ => rfl)) set_list))))
      (pss_one (ps_ret (pe_callTy call_tuple_of rfl T.z_tuple PyProof.Rows.boot_tuple (pa_cons (pv 1) pa_nil)))))), ?_⟩
    try dsimp only [cx_noxK, cx_K]
    refine seq_let2 ?_
    intro u_2 u_1
    refine ⟨by show 1 ≤ sizeLine; decide, fun q hq => ?_⟩
    have sq : Same H (upd H q (.lst [.int 0])) := Same.upd hq
    have hqq : upd H q (.lst [.int 0]) q = some (.lst [.int 0]) := upd_same
    generalize upd H q (.lst [.int 0]) = H3 at sq hqq ⊢
    have hlen : ((intV r).length : Int) = (p : Int) := by rw [ints_len, hP.len]
    refine ⟨_, rfl, a, _, rfl, .inr (SqT.of (sq _ _ ha)), q, _, _, rfl, rfl, hqq, by omega, by omega, ?_, fun t ht => ?_⟩
    · show 1 * ((intV r).length : Int).toNat ≤ sizeLine
      rw [hlen, Int.toNat_natCast]
      exact Nat.le_trans (show 1 * p ≤ 300 by omega) (by decide)
    rw [hlen, Int.toNat_natCast, rep_zero]
    have st : Same H3 (upd H3 t (.lst (intV (List.replicate p (0 : Int))))) := Same.upd ht
    have htt : upd H3 t (.lst (intV (List.replicate p (0 : Int)))) t = some (.lst (intV (List.replicate p (0 : Int)))) := upd_same
    generalize upd H3 t (.lst (intV (List.replicate p (0 : Int)))) = H4 at st htt ⊢
    have s4 := sq.trans st
    have nt : H t = none := sq.free ht
    have tra : a ≠ t := fun z => by
      have := ha
      rw [z, nt] at this
      cases this
    refine ⟨_, rfl, a, _, rfl, .inr (SqT.of (s4 _ _ ha)), (p : Int), by rw [hlen], by omega, by omega, ?_⟩
    let LI_1 : Nat → St → Hp → Prop := fun n σ H5 => ∃ (tv : List Int) (v2 : Option V), σ = [some (.ref a), some (.ref t), v2] ∧ But t H4 H5 ∧ H5 t = some (.lst (intV tv)) ∧ M11.InvTo p r tv n
    refine for_range (lo := 0) (n := ((p : Int)).toNat) LI_1
      ⟨_, _, rfl, fun _ _ _ e => e, htt, List.length_replicate .., fun k j hk => by omega⟩ ?_ ?_
    · intro n σ H5 hn hh_
      refine goal_let ?_
      intro q_
      obtain ⟨tv, v5, rfl, b5, ht5, hto⟩ := hh_
      dsimp only [q_]
      clear q_
      dsimp only [gName]
      refine blk_let0 ?_
      intro D_0 
      have hn' : n < p := by omega
      obtain ⟨j, hj, hjp⟩ := hP.at hn'
      have hra5 := b5 _ _ tra (s4 _ _ ha)
      refine ⟨_, rfl, _, rfl, _, rfl, _, rfl, a, _, _, _, rfl, rfl, SqT.of hra5, (by rw [Int.zero_add]; exact atI_nat (ints_at hj)), t, _, _, j, rfl, rfl, ht5, ixN_nat (by rw [ints_len, hto.1]; exact hjp), ?_⟩
      rw [Int.zero_add, ints_set]
      exact ⟨_, _, rfl, b5.trans But.upd, upd_same, hto.step hP hj hjp⟩
    · intro σ H5 hh_
      refine goal_let ?_
      intro q_
      obtain ⟨tv, v5, rfl, b5, ht5, hto⟩ := hh_
      dsimp only [q_]
      clear q_
      rw [show ((p : Int)).toNat = p by omega] at hto
      have hIv := hto.all hP
      refine ⟨_, rfl, t, _, rfl, .inl ⟨SqL.of ht5, fun l hl => ?_⟩⟩
      refine k l tv _ (fun b o e => ?_) upd_same hIv
      have : b ≠ t := ne_of_none e nt
      exact (Same.upd hl) _ _ (b5 _ _ this (s4 _ _ e))
structure TS (H0 H : Hp) (lc lt : Addr) (cs ts : List Addr) (come Tb : List (List Int)) : Prop where
  same : Same H0 H
  c1 : H lc = some (.lst (cs.map V.ref))
  c2 : TupsAt H cs come
  t1 : H lt = some (.lst (ts.map V.ref))
  t2 : RowsAt H ts Tb
  ne : lc ≠ lt
  nc : lc ∉ ts
  nt : lt ∉ ts
  newc : H0 lc = none
  newt : H0 lt = none
section
variable {H0 H : Hp} {lc lt : Addr} {cs ts : List Addr} {come Tb : List (List Int)}
theorem TS.more {H' : Hp} (h : TS H0 H lc lt cs ts come Tb) (s : Same H H') : TS H0 H' lc lt cs ts come Tb :=
  ⟨h.same.trans s, s _ _ h.c1, h.c2.same s, s _ _ h.t1, h.t2.same s, h.ne, h.nc, h.nt, h.newc, h.newt⟩
theorem TS.comes (h : TS H0 H lc lt cs ts come Tb) {q : Addr} {u : List Int} (hq : H q = some (.tup (intV u))) : TS H0 (upd H lc (.lst (cs.map V.ref ++ [V.ref q]))) lc lt (cs ++ [q]) ts (come ++ [u]) Tb where
  same := fun b o e => by rw [upd_ne (ne_of_none e h.newc)]; exact h.same _ _ e
  c1 := by rw [upd_same, List.map_append]; rfl
  c2 := tups_upd (h.c2.snoc hq) h.c1
  t1 := by rw [upd_ne (Ne.symm h.ne)]; exact h.t1
  t2 := h.t2.but But.upd h.nc
  ne := h.ne
  nc := h.nc
  nt := h.nt
  newc := h.newc
  newt := h.newt
theorem TS.grows (h : TS H0 H lc lt cs ts come Tb) {lr : Addr} {r r' : List Int} (hr : H lr = some (.lst (intV r))) (hn : H0 lr = none) (h1 : lr ≠ lc) (h2 : lr ≠ lt) (h3 : lr ∉ ts) : TS H0 (upd H lr (.lst (intV r'))) lc lt cs ts come Tb where
  same := fun b o e => by rw [upd_ne (ne_of_none e hn)]; exact h.same _ _ e
  c1 := by rw [upd_ne (Ne.symm h1)]; exact h.c1
  c2 := tups_upd h.c2 hr
  t1 := by rw [upd_ne (Ne.symm h2)]; exact h.t1
  t2 := h.t2.but But.upd h3
  ne := h.ne
  nc := h.nc
  nt := h.nt
  newc := h.newc
  newt := h.newt
theorem TS.lays (h : TS H0 H lc lt cs ts come Tb) {lr : Addr} {r : List Int} (hr : H lr = some (.lst (intV r))) (h1 : lr ≠ lc) (h2 : lr ≠ lt) : TS H0 (upd H lt (.lst (ts.map V.ref ++ [V.ref lr]))) lc lt cs (ts ++ [lr]) come (Tb ++ [r]) where
  same := fun b o e => by rw [upd_ne (ne_of_none e h.newt)]; exact h.same _ _ e
  c1 := by rw [upd_ne h.ne]; exact h.c1
  c2 := tups_upd h.c2 h.t1
  t1 := by rw [upd_same, List.map_append]; rfl
  t2 := by
    refine RowsAt.but (w := lt) (h.t2.snoc hr) But.upd fun z => ?_
    rcases List.mem_append.mp z with z | z
    · exact h.nt z
    · exact h2 (List.mem_singleton.mp z).symm
  ne := h.ne
  nc := fun z => by
    rcases List.mem_append.mp z with z | z
    · exact h.nc z
    · exact h1 (List.mem_singleton.mp z).symm
  nt := fun z => by
    rcases List.mem_append.mp z with z | z
    · exact h.nt z
    · exact h2 (List.mem_singleton.mp z).symm
  newc := h.newc
  newt := h.newt
end
structure WG (L : Nat) (f : Nat → List Int → List Int) (G : List Int → Prop) (come Tb : List (List Int)) (u0 : List Int) : Prop where
  nd : come.Nodup
  g : ∀ u ∈ come, G u
  z : come[0]? = some u0
  rw_ : ∀ (i : Nat) (x r : List Int), come[i]? = some x → Tb[i]? = some r → M18.RowG f come x r (2 * L)
theorem WG.more {L : Nat} {f : Nat → List Int → List Int} {G : List Int → Prop} {come Tb : List (List Int)} {u0 y : List Int} (h : WG L f G come Tb u0) (hT : Tb.length ≤ come.length) (hy : y ∉ come) (h0 : G y) : WG L f G (come ++ [y]) Tb u0 := by
  refine ⟨?_, fun x hx => ?_, ?_, fun i x r h1 h2 => ?_⟩
  · rw [List.nodup_append]
    exact ⟨h.nd, by simp, fun a ha b hb => by rw [List.mem_singleton.mp hb]; exact fun z => hy (by rw [← z]; exact ha)⟩
  · rcases List.mem_append.mp hx with hx | hx
    · exact h.g x hx
    · rw [List.mem_singleton.mp hx]; exact h0
  · rw [List.getElem?_append_left (List.getElem?_eq_some_iff.mp h.z).1]
    exact h.z
  · have hi := (List.getElem?_eq_some_iff.mp h2).1
    rw [List.getElem?_append_left (by omega)] at h1
    exact (h.rw_ i x r h1 h2).more
theorem st_abs (n : Nat) : (M12.st n).natAbs - 1 = n / 2 := by
  unfold M12.st
  split <;> omega
theorem st_sign (n : Nat) : 0 < M12.st n ↔ n % 2 = 0 := by
  unfold M12.st
  split <;> omega
theorem sub_dec {a b c : Nat} (h : a = b + 1) (h2 : b < c) : c - a < c - b := by omega
theorem ok__law_table (T : Txt K mg A) : FnOk P w K mg base (CXw P w) 2 A.f__law_table A.d__law_table ["_law_turns_here", "_law_points"] spTable := by
  have G__law_back : FnOk P w K mg base (CXw P w) 1 A.f__law_back A.d__law_back ["_law_turned"] spBackT := ok__law_back T
  refine T._law_table.F.okN sc__law_table (fun vs H Q E h => ?_) (fun cdv AA outer s H vs Q E hr h => ?_)
  · obtain ⟨a, rows, p, G, rfl, _⟩ := h
    rfl
  · obtain ⟨a, rows, p, G, rfl, hTa, hpm, hp, hL1, hL2, hG0, hGp, hGs, hGb, k⟩ := h
    have hu2 := hu_of hr
    refine ⟨_, (pss_cons (ps_set (i := 2) sc__law_table.nd rfl (Or.inl rfl) (pe_lst (pa_cons (pe_tupRange1 rfl rfl T.z_tuple rfl T.z_range (pa_cons (pv 1) pa_nil)) pa_nil)))
      (pss_cons (ps_set (i := 3) sc__law_table.nd rfl (Or.inl rfl) (pe_lst pa_nil))
      (pss_cons (ps_cut (ps_while PassesOwn.never (pt_cmpR op_lt (pe_callB call_len_seq rfl T.z_len PySem.boot_len (pa_cons (pv 3) pa_nil)) (pe_callB call_len_seq rfl T.z_len PySem.boot_len (pa_cons (pv 2) pa_nil)) (nomark _))
        (pss_cons (ps_set (i := 4) sc__law_table.nd rfl (Or.inl rfl) (pe_ix ix_list (pv 2) (pe_callB call_len_seq rfl T.z_len PySem.boot_len (pa_cons (pv 3) pa_nil)) (fun _ _ => rfl)))
        (pss_cons (ps_set (i := 5) sc__law_table.nd rfl (Or.inl rfl) (pe_lst pa_nil))
        (pss_cons (ps_for PassesOwn.never rfl (pi_range1 rfl T.z_range (pa_cons (pe_op op_mul pe_int (pe_callB call_len_seq rfl T.z_len PySem.boot_len (pa_cons (pv 0) pa_nil))) pa_nil)) (pg_name (i := 6) sc__law_table.nd rfl (Or.inl rfl))
          (pss_cons (ps_set (i := 7) sc__law_table.nd rfl (Or.inr rfl) (pe_ix ix_list (pv 0) (pe_op op_fdiv (pv 6) pe_int) (fun _ _ => rfl)))
          (pss_cons (ps_cut (ps_if (pt_cmpR op_eq (pe_op op_mod (pv 6) pe_int) pe_int (nomark _))
            (pss_one (ps_set (i := 7) sc__law_table.nd rfl (Or.inr rfl) (pe_call (G__law_back) (hr.mono (by decide)) rfl T._law_back.m T._law_back.F.kp T._law_back.b .nil passF (pa_cons (pv 7) pa_nil))))
            pss_nil))
          (pss_cons (ps_set (i := 8) sc__law_table.nd rfl (Or.inl rfl) (pe_callTy call_tuple_of rfl T.z_tuple PyProof.Rows.boot_tuple (pa_cons (pe_comp (fns := ["_law_turned"]) (ixs := [7]) (cl := _) rfl (pi_tup (pv 4)) (compScope1 rfl rfl (by decide +kernel) rfl (by decide +kernel) rfl (by decide +kernel) (by decide +kernel) rfl rfl rfl rfl) (fun C s H ex => (pe_ix (ix_tupK (K := K) rfl) (pv 1) (pv 0) (fun _ _ => rfl)))) pa_nil)))
          (pss_cons (ps_cut (ps_if (pt_cmpR (op_NOTIN_lt hu2) (pv 8) (pv 2) rfl)
            (pss_one (ps_expr (pe_bm PySem.F.plainAttrs_list PySem.F.slot_list_append PySem.F.type_list_append mt_append (pv 2) (pa_cons (pv 8) pa_nil))))
            pss_nil))
          (pss_one (ps_expr (pe_bm PySem.F.plainAttrs_list PySem.F.slot_list_append PySem.F.type_list_append mt_append (pv 5) (pa_cons (pe_bm PySem.F.plainAttrs_list PySem.F.slot_list_index PySem.F.type_list_index (mt_index_lt hu2) (pv 2) (pa_cons (pv 8) pa_nil)) pa_nil)))))))))
        (pss_one (ps_expr (pe_bm PySem.F.plainAttrs_list PySem.F.slot_list_append PySem.F.type_list_append mt_append (pv 3) (pa_cons (pv 5) pa_nil)))))))))
      (pss_one (ps_ret (pe_tup (pa_cons (pv 3) (pa_cons (pv 2) pa_nil)))))))), ?_⟩
    try dsimp only [cx_noxK, cx_K]
    refine seq_let3 ?_
    intro u_3 u_2 u_1
    obtain ⟨ps, hps, hpt⟩ := id hTa
    have hpl : ps.length = rows.length := hpt.1
    refine ⟨_, rfl, p, rfl, by omega, fun q0 hq0 => ?_⟩
    have s0 : Same H (upd H q0 (.tup (intV (rng 0 p)))) := Same.upd hq0
    have h0 : upd H q0 (.tup (intV (rng 0 p))) q0 = some (.tup (intV (M18.thr rows p []))) := by rw [upd_same, rng_thr rows p]
    generalize upd H q0 (.tup (intV (rng 0 p))) = H0 at s0 h0 ⊢
    refine ⟨by show 1 ≤ sizeLine; decide, fun lc hlc => ?_⟩
    have s1 : Same H0 (upd H0 lc (.lst [.ref q0])) := Same.upd hlc
    have h1 : upd H0 lc (.lst [.ref q0]) lc = some (.lst ([q0].map V.ref)) := upd_same
    have nlc : H lc = none := s0.free hlc
    generalize upd H0 lc (.lst [.ref q0]) = H1 at s1 h1 ⊢
    refine ⟨Nat.zero_le _, fun lt hlt => ?_⟩
    have s2 : Same H1 (upd H1 lt (.lst [])) := Same.upd hlt
    have h2 : upd H1 lt (.lst []) lt = some (.lst (([] : List Addr).map V.ref)) := upd_same
    have nlt : H lt = none := (s0.trans s1).free hlt
    have hne : lc ≠ lt := fun e => by rw [← e, h1] at hlt; cases hlt
    generalize upd H1 lt (.lst []) = H2 at s2 h2 ⊢
    have B2 : TS H H2 lc lt [q0] [] [M18.thr rows p []] [] := ⟨(s0.trans s1).trans s2, s2 _ _ h1, ⟨rfl, fun i r ns g1 g2 => by
      have e1 := List.mem_singleton.mp (List.mem_of_getElem? g1)
      have e2 := List.mem_singleton.mp (List.mem_of_getElem? g2)
      rw [e1, e2]
      exact s2 _ _ (s1 _ _ h0)⟩, h2, ⟨rfl, fun i r ns h1 => by simp at h1⟩, hne, by simp, by simp, nlc, nlt⟩
    obtain ⟨u0, hu0⟩ : ∃ u0, u0 = M18.thr rows p [] := ⟨_, rfl⟩
    rw [← hu0] at B2 hG0
    obtain ⟨f, hf⟩ : ∃ f : Nat → List Int → List Int, f = fun k u => M18.mvs rows (M12.st k) u := ⟨_, rfl⟩
    have hfk : ∀ k u, M18.mvs rows (M12.st k) u = f k u := fun k u => by rw [hf]
    have W2 : WG rows.length f G [u0] [] u0 := ⟨by simp, fun u hu => by rw [List.mem_singleton.mp hu]; exact hG0, rfl, fun i x r h1 h2 => by simp at h2⟩
    let LG_1 : St → Hp → Prop := fun σ' H' => ∃ (come Tb : List (List Int)) (cs ts : List Addr) (v4 v5 v6 v7 v8 : Option V), σ' = [some (.ref a), some (.int p), some (.ref lc), some (.ref lt), v4, v5, v6, v7, v8] ∧ TS H H' lc lt cs ts come Tb ∧ WG rows.length f G come Tb u0 ∧ Tb.length = come.length ∧ M12.Fc (2 * rows.length) Tb.flatten come.length
    refine ⟨LG_1, ?_, ?_⟩
    · refine blk_let0 ?_
      intro D_0
      refine ⟨fun m σ H' => ∃ (come Tb : List (List Int)) (cs ts : List Addr) (v4 v5 v6 v7 v8 : Option V), m = 300 - Tb.length ∧ σ = [some (.ref a), some (.int p), some (.ref lc), some (.ref lt), v4, v5, v6, v7, v8] ∧ TS H H' lc lt cs ts come Tb ∧ WG rows.length f G come Tb u0 ∧ Tb.length ≤ come.length ∧ M12.Fc (2 * rows.length) Tb.flatten come.length,
        ⟨_, [u0], [], [q0], [], none, none, none, none, none, rfl, rfl, B2, W2, Nat.zero_le _, M12.Fc.zero _⟩, ?_⟩
      intro m σ H5 hh_
      refine goal_let ?_
      intro q_
      obtain ⟨come, Tb, cs, ts, v4, v5, v6, v7, v8, rfl, rfl, B5, W5, hTc, hFc⟩ := hh_
      dsimp only [q_]
      clear q_
      have htl : ts.length = Tb.length := B5.t2.1
      have hcl : cs.length = come.length := B5.c2.1
      have hcb := hGb come W5.nd W5.g
      refine ⟨_, rfl, lt, _, rfl, .inl (SqL.of B5.t1), _, rfl, lc, _, rfl, .inl (SqL.of B5.c1), _, _, rfl, rfl, _, rfl, ?_⟩
      refine ite2 (fun h => ?_) (fun h => ?_)
      · have hlt2 : Tb.length < come.length := by
          have h' : ((ts.map V.ref).length : Int) < ((cs.map V.ref).length : Int) := of_decide_eq_true h
          rw [List.length_map, List.length_map, htl, hcl] at h'
          omega
        obtain ⟨x, hx⟩ := get_some (xs := come) (i := Tb.length) hlt2
        obtain ⟨sa, hsa⟩ := get_some (xs := cs) (i := Tb.length) (by omega)
        have hPx := hGp x (W5.g x (List.mem_of_getElem? hx))
        refine ⟨fun σ' H' => ∃ (come Tb2 : List (List Int)) (cs ts : List Addr) (v4 v5 v6 v7 v8 : Option V), σ' = [some (.ref a), some (.int p), some (.ref lc), some (.ref lt), v4, v5, v6, v7, v8] ∧ TS H H' lc lt cs ts come Tb2 ∧ WG rows.length f G come Tb2 u0 ∧ Tb2.length ≤ come.length ∧ Tb2.length = Tb.length + 1 ∧ M12.Fc (2 * rows.length) Tb2.flatten come.length, fun σ' H' hh_ => ?_, ?_⟩
        · obtain ⟨c, T2, c2, ts2, a4, a5, a6, a7, a8, e, b, w', q1, q2, q3⟩ := hh_
          exact ⟨300 - T2.length, sub_dec q2 (by omega), c, T2, c2, ts2, a4, a5, a6, a7, a8, rfl, e, b, w', q1, q3⟩
        refine ⟨_, rfl, _, rfl, lt, _, rfl, .inl (SqL.of B5.t1), lc, _, _, .ref sa, rfl, rfl, SqL.of B5.c1, (by rw [List.length_map, htl]; exact ref_at hsa), ?_⟩
        refine ⟨Nat.zero_le _, fun lr hlr => ?_⟩
        have s56 : Same H5 (upd H5 lr (.lst [])) := Same.upd hlr
        have hr6 : upd H5 lr (.lst []) lr = some (.lst (intV [])) := upd_same
        have nlr : H lr = none := B5.same.free hlr
        have n1 : lr ≠ lc := fun e => by have := B5.c1; rw [← e, hlr] at this; cases this
        have n2 : lr ≠ lt := fun e => by have := B5.t1; rw [← e, hlr] at this; cases this
        have n3 : lr ∉ ts := fun z => by obtain ⟨ns, e⟩ := rows_mem B5.t2 z; rw [hlr] at e; cases e
        have B6 := B5.more s56
        generalize upd H5 lr (.lst []) = H6 at s56 hr6 B6 ⊢
        have hps6 := B6.same _ _ hps
        refine ⟨_, rfl, a, _, rfl, .inl (SqL.of hps6), _, _, rfl, rfl, .inl ⟨by decide, by decide⟩, ((2 * rows.length : Nat) : Int), ?_, by omega, by omega, ?_⟩
        · show [V.int (2 * ((ps.map V.ref).length : Int))] = _
          rw [List.length_map, hpl]
          rfl
        let LI_2 : Nat → St → Hp → Prop := fun n σ H7 => ∃ (come : List (List Int)) (cs : List Addr) (r : List Int) (v6 v7 v8 : Option V), σ = [some (.ref a), some (.int p), some (.ref lc), some (.ref lt), some (.ref sa), some (.ref lr), v6, v7, v8] ∧ TS H H7 lc lt cs ts come Tb ∧ WG rows.length f G come Tb u0 ∧ come[Tb.length]? = some x ∧ cs[Tb.length]? = some sa ∧ H7 lr = some (.lst (intV r)) ∧ M18.RowG f come x r n ∧ M12.Fc (2 * rows.length) (Tb.flatten ++ r) come.length
        refine for_range (lo := 0) (n := (((2 * rows.length : Nat) : Int)).toNat) LI_2
          ⟨come, cs, [], v6, v7, v8, rfl, B6, W5, hx, hsa, hr6, ⟨rfl, fun k hk => by omega⟩, by rw [List.append_nil]; exact hFc⟩ ?_ ?_
        · intro n σ H7 hn hh_
          refine goal_let ?_
          intro q_
          obtain ⟨come, cs, r, v6, v7, v8, rfl, B7, W7, hx7, hsa7, hr7, hro, hF7⟩ := hh_
          dsimp only [q_]
          clear q_
          dsimp only [gName]
          refine blk_let4 ?_
          intro D_0 w_4 w_3 w_2 w_1
          have hn' : n < 2 * rows.length := by omega
          have hTl7 := (List.getElem?_eq_some_iff.mp hx7).1
          have hcb7 := hGb come W7.nd W7.g
          have hxa := B7.c2.2 _ _ _ hsa7 hx7
          obtain ⟨row, g2⟩ := get_some (xs := rows) (i := n / 2) (by omega)
          obtain ⟨pa, g1⟩ := get_some (xs := ps) (i := n / 2) (by omega)
          have hpa := B7.same _ _ (hpt.2 _ _ _ g1 g2)
          have hP := hpm row (List.mem_of_getElem? g2)
          have g3 : rows[(M12.st n).natAbs - 1]? = some row := by rw [st_abs]; exact g2
          have e0 : (0 : Int) + (n : Int) = (n : Int) := by omega
          refine ⟨_, rfl, _, rfl, _, _, rfl, rfl, ⟨by decide, by decide⟩, a, _, _, .ref pa, rfl, rfl, SqL.of (B7.same _ _ hps), ?_, ?_⟩
          · show atI _ ((0 + (n : Int)) / 2) = _
            rw [show (0 + (n : Int)) / 2 = ((n / 2 : Nat) : Int) by omega]
            exact ref_at g1
          let LG_3 : St → Hp → Prop := fun σ' H' => ∃ tq : Addr, σ' = [some (.ref a), some (.int p), some (.ref lc), some (.ref lt), some (.ref sa), some (.ref lr), some (.int (0 + (n : Int))), some (.ref tq), v8] ∧ Same H7 H' ∧ H' tq = some (.tup (intV (M18.tn p rows (M12.st n))))
          refine ⟨LG_3, ?_, ?_⟩
          · refine blk_let0 ?_
            intro D_0
            refine ⟨_, rfl, _, _, rfl, rfl, (by show (0 : Int) < 2; decide), rfl, _, rfl, ?_⟩
            by_cases hod : n % 2 = 0
            · refine ite2 (fun h => ?_) (fun h => ?_)
              · have h' : V.int ((0 + (n : Int)) % 2) = V.int 1 := of_decide_eq_true h
                injection h' with h'
                omega
              · refine ⟨pa, rfl, fun _ _ e => e, ?_⟩
                rw [M18.tn_pos g3 hP ((st_sign n).mpr hod)]
                exact hpa
            · refine ite2 (fun h => ?_) (fun h => ?_)
              · refine ⟨_, rfl, pa, row, p, rfl, hpa, hP, hp, fun l t H3 s3 h3 hI => ⟨l, rfl, s3, ?_⟩⟩
                rw [M18.tn_neg g3 hP (fun z => hod ((st_sign n).mp z)) hI]
                exact h3
              · refine absurd (decide_eq_true ?_) h
                show V.int ((0 + (n : Int)) % 2) = V.int 1
                rw [show (0 + (n : Int)) % 2 = 1 by omega]
          rintro σ' H8 ⟨tq, rfl, s78, htq⟩
          have hx8 := s78 _ _ hxa
          refine ⟨_, rfl, sa, rfl, ⟨_, SqT.of hx8⟩, ?_⟩
          refine comp_pure (intV x) (fun v => match v with | .int y => .int ((M18.sf rows y.toNat (M12.st n) : Nat) : Int) | v => v) (itt_go (SqT.of hx8)) (itt_yld (SqT.of hx8)) (itt_stop (SqT.of hx8)) (by rw [ints_len, hPx.len]; exact Nat.le_trans hp (by decide)) (fun i y0 hy0 R hR => ?_) (fun D hD => ?_)
          · obtain ⟨y, rfl, hy⟩ := ints_of_at hy0
            have hyr := hPx.rg y (List.mem_of_getElem? hy)
            have ey : y = ((y.toNat : Nat) : Int) := by omega
            refine ⟨_, rfl, _, rfl, tq, _, _, _, rfl, rfl, SqT.of htq, ?_, hR⟩
            have := M18.tn_at (p := p) (rows := rows) (s := M12.st n) (show y.toNat < p by omega)
            have h5 := atI_nat (ints_at this)
            rw [← ey] at h5
            exact h5
          refine ⟨D, _, rfl, .inl ⟨SqL.of upd_same, fun ol hol => ?_⟩⟩
          have eo : upd (upd H8 D (.lst ((intV x).map fun v => match v with | .int y => V.int ((M18.sf rows y.toNat (M12.st n) : Nat) : Int) | v => v))) ol (.tup ((intV x).map fun v => match v with | .int y => V.int ((M18.sf rows y.toNat (M12.st n) : Nat) : Int) | v => v)) ol = some (.tup (intV (f n x))) := by
            rw [upd_same, ← hfk]
            unfold M18.mvs intV
            rw [List.map_map, List.map_map]
            rfl
          have s79 := (s78.trans (Same.upd (o := .lst ((intV x).map fun v => match v with | .int y => V.int ((M18.sf rows y.toNat (M12.st n) : Nat) : Int) | v => v)) hD)).trans (Same.upd (o := .tup ((intV x).map fun v => match v with | .int y => V.int ((M18.sf rows y.toNat (M12.st n) : Nat) : Int) | v => v)) hol)
          generalize upd (upd H8 D (.lst ((intV x).map fun v => match v with | .int y => V.int ((M18.sf rows y.toNat (M12.st n) : Nat) : Int) | v => v))) ol (.tup ((intV x).map fun v => match v with | .int y => V.int ((M18.sf rows y.toNat (M12.st n) : Nat) : Int) | v => v)) = H9 at eo s79 ⊢
          have B9 := B7.more s79
          have hr9 := s79 _ _ hr7
          have hGf : G (f n x) := by rw [← hfk]; exact hGs n x hn' (W7.g x (List.mem_of_getElem? hx7))
          let LG_4 : St → Hp → Prop := fun σ' H' => ∃ (come : List (List Int)) (cs : List Addr), σ' = [some (.ref a), some (.int p), some (.ref lc), some (.ref lt), some (.ref sa), some (.ref lr), some (.int (0 + (n : Int))), some (.ref tq), some (.ref ol)] ∧ TS H H' lc lt cs ts come Tb ∧ WG rows.length f G come Tb u0 ∧ come[Tb.length]? = some x ∧ cs[Tb.length]? = some sa ∧ H' lr = some (.lst (intV r)) ∧ M18.RowG f come x r n ∧ f n x ∈ come ∧ H' ol = some (.tup (intV (f n x))) ∧ ∀ j : Nat, come[j]? = some (f n x) → M12.Fc (2 * rows.length) ((Tb.flatten ++ r) ++ [(j : Int)]) come.length
          refine ⟨LG_4, ?_, ?_⟩
          · refine blk_let0 ?_
            intro D_0
            refine ⟨_, rfl, _, rfl, ol, lc, _, _, rfl, rfl, eo, ⟨cs, B9.c1, B9.c2⟩, _, rfl, ?_⟩
            by_cases hm : f n x ∈ come
            · rw [decide_eq_true hm]
              exact iteF ⟨come, cs, rfl, B9, W7, hx7, hsa7, hr9, hro, hm, eo, fun j hj => hF7.old (List.getElem?_eq_some_iff.mp hj).1⟩
            · rw [decide_eq_false hm]
              refine iteT ⟨_, rfl, .inl ⟨rfl, _, SqL.of B9.c1⟩, _, rfl, lc, _, _, rfl, rfl, B9.c1, ?_, ?_⟩
              · rw [List.length_map, B9.c2.1]
                exact Nat.lt_of_le_of_lt hcb7 (by decide)
              have hcl7 : cs.length = come.length := B7.c2.1
              refine ⟨come ++ [f n x], cs ++ [ol], rfl, B9.comes eo, W7.more (by omega) hm hGf, ?_, ?_, by rw [upd_ne n1]; exact hr9, hro.more, by simp, ?_, fun j hj => ?_⟩
              · rw [List.getElem?_append_left hTl7]; exact hx7
              · rw [List.getElem?_append_left (by omega)]; exact hsa7
              · rw [upd_ne (ne_of eo B9.c1 (by intro z; cases z))]
                exact eo
              · have ej : j = come.length := by
                  have hl2 := (List.getElem?_eq_some_iff.mp hj).1
                  rw [List.length_append] at hl2
                  simp only [List.length_cons, List.length_nil] at hl2
                  by_cases hj2 : j < come.length
                  · rw [List.getElem?_append_left hj2] at hj
                    exact absurd (List.mem_of_getElem? hj) hm
                  · omega
                rw [ej, List.length_append]
                refine hF7.new (by omega) ?_
                have hfl := M12.flat_len (T := Tb) (W := 2 * rows.length) (fun i r' hi => by
                  have hil := (List.getElem?_eq_some_iff.mp hi).1
                  exact (W7.rw_ i _ r' (List.getElem?_eq_getElem (by omega)) hi).1)
                rw [List.length_append, hfl, hro.1]
                have : (Tb.length + 1) * (2 * rows.length) ≤ come.length * (2 * rows.length) := Nat.mul_le_mul_right _ (by omega)
                rw [Nat.succ_mul] at this
                omega
          intro σ' H10 hh_
          refine goal_let ?_
          intro q_
          obtain ⟨come, cs, rfl, B10, W10, hx10, hsa10, hr10, hro10, hm, eo10, hF10⟩ := hh_
          dsimp only [q_]
          clear q_
          refine ⟨_, rfl, .inl ⟨rfl, _, SqL.of hr10⟩, _, rfl, .inl ⟨rfl, _, SqL.of B10.c1⟩, _, rfl, lc, ol, _, _, rfl, rfl, eo10, ⟨cs, B10.c1, B10.c2⟩, hm, fun j hj _ => ?_⟩
          refine ⟨lr, _, _, rfl, rfl, hr10, ?_, ?_⟩
          · rw [ints_len, hro10.1]
            exact Nat.lt_of_le_of_lt (show n ≤ 100 by omega) (by decide)
          have B11 := B10.grows (r' := r ++ [(j : Int)]) hr10 nlr n1 n2 n3
          rw [ints_app] at B11
          exact ⟨come, cs, r ++ [(j : Int)], _, _, _, rfl, B11, W10, hx10, hsa10, by rw [upd_same, ints_app]; rfl, hro10.snoc hj, by rw [← List.append_assoc]; exact hF10 j hj⟩
        · intro σ H7 hh_
          refine goal_let ?_
          intro q_
          obtain ⟨come, cs, r, v6, v7, v8, rfl, B7, W7, hx7, hsa7, hr7, hro, hF7⟩ := hh_
          dsimp only [q_]
          clear q_
          rw [Int.toNat_natCast] at hro
          have hTl7 := (List.getElem?_eq_some_iff.mp hx7).1
          have hcb7 := hGb come W7.nd W7.g
          refine ⟨_, rfl, .inl ⟨rfl, _, SqL.of B7.t1⟩, _, rfl, lt, _, _, rfl, rfl, B7.t1, ?_, ?_⟩
          · rw [List.length_map, htl]
            exact Nat.lt_of_le_of_lt (show Tb.length ≤ 300 by omega) (by decide)
          refine ⟨come, Tb ++ [r], cs, ts ++ [lr], _, _, _, _, _, rfl, B7.lays hr7 n1 n2, ⟨W7.nd, W7.g, W7.z, fun i y r' h1 h2 => ?_⟩, ?_, ?_, ?_⟩
          · by_cases hi : i < Tb.length
            · rw [List.getElem?_append_left hi] at h2
              exact W7.rw_ i y r' h1 h2
            · rw [List.getElem?_append_right (by omega)] at h2
              have e1 := List.mem_singleton.mp (List.mem_of_getElem? h2)
              have e2 : i = Tb.length := by
                have := (List.getElem?_eq_some_iff.mp h2).1
                simp only [List.length_cons, List.length_nil] at this
                omega
              subst e2
              rw [hx7] at h1
              rw [e1, ← Option.some.inj h1]
              exact hro
          · rw [List.length_append]
            simp only [List.length_cons, List.length_nil]
            omega
          · rw [List.length_append]
            rfl
          · rw [List.flatten_append, List.flatten_cons, List.flatten_nil, List.append_nil]
            exact hF7
      · have hge : come.length ≤ Tb.length := by
          have h' : ¬ ((ts.map V.ref).length : Int) < ((cs.map V.ref).length : Int) := fun z => h (decide_eq_true z)
          rw [List.length_map, List.length_map, htl, hcl] at h'
          omega
        exact ⟨come, Tb, cs, ts, v4, v5, v6, v7, v8, rfl, B5, W5, by omega, hFc⟩
    intro σ' H5 hh_
    refine goal_let ?_
    intro q_
    obtain ⟨come, Tb, cs, ts, v4, v5, v6, v7, v8, rfl, B5, W5, hTc, hFc⟩ := hh_
    dsimp only [q_]
    clear q_
    have hcb := hGb come W5.nd W5.g
    have hc1 := (List.getElem?_eq_some_iff.mp W5.z).1
    refine ⟨_, rfl, _, rfl, by show 2 ≤ sizeLine; decide, fun q hq => ?_⟩
    have sq := Same.upd (o := .tup [.ref lt, .ref lc]) hq
    refine k q lt lc Tb come _ (B5.same.trans sq) upd_same (TabAt.same ⟨ts, B5.t1, B5.t2⟩ sq) (WordsAt.same ⟨cs, B5.c1, B5.c2⟩ sq) ?_ (by rw [← hu0]; exact W5.z) W5.g (by rw [hTc]; exact hFc)
    have hCm := M18.tabG (f := f) hL1 hL2 W5.nd (by omega) hcb hTc W5.rw_ fun k u hk hu => ?_
    · rw [hf] at hCm
      exact hCm
    · rw [hf]
      show M18.mvs rows (M12.st (M11.flip k)) (M18.mvs rows (M12.st k) u) = u
      rw [M18.st_flip]
      exact M18.mvs_back hpm (M12.st_ok hk) (hGp u (W5.g u hu))
theorem fill_take {Im : List (List Int)} {w : List Int} {n : Nat} {s : Int} (h : w[n]? = some s) : M18.fill Im (w.take (n + 1)) = M18.fill Im (w.take n) ++ M18.im1 Im s := by
  unfold M18.fill
  rw [List.take_succ, h, List.flatMap_append]
  simp
def spThr : Sp := fun vs H Q _ => ∃ (a wa : Addr) (rows : List (List Int)) (p : Nat) (w : List Int), vs = [.ref a, .ref wa, .int p] ∧ WordsAt H a rows ∧ (∀ r ∈ rows, M11.Pm p r) ∧ p ≤ 100 ∧ H wa = some (.tup (intV w)) ∧ M11.Steps rows.length w ∧ rows.length ≤ 1000 ∧ ∀ l H', Same H H' → H' l = some (.tup (intV (M18.thr rows p w))) → Q (.ref l) H'
def spWord : Sp := fun vs H Q _ => ∃ (a : Addr) (cs : List Int) (L : Nat), vs = [.ref a, .int L] ∧ H a = some (.lst (intV cs)) ∧ cs.length ≤ 63 ∧ 1 ≤ L ∧ L ≤ 40 ∧ ∀ l w H', Same H H' → H' l = some (.tup (intV w)) → M11.Steps L w → w.length = cs.length → Q (.ref l) H'
theorem ok__law_word (T : Txt K mg A) : FnOk P w K mg base (CXw P w) 2 A.f__law_word A.d__law_word ["_law_cells", "_law_letters"] spWord := by
  have G__law_mix : FnOk P w K mg base (CXw P w) 1 A.f__law_mix A.d__law_mix ["_law_number", "_law_place"] spMix := ok__law_mix T
  refine T._law_word.F.okN sc__law_word (fun vs H Q E h => ?_) (fun cdv AA outer s H vs Q E hr h => ?_)
  · obtain ⟨a, cs, L, rfl, _⟩ := h
    rfl
  · obtain ⟨a, cs, L, rfl, ha, hcl, hL1, hL2, k⟩ := h
    refine ⟨_, (pss_cons (ps_set (i := 2) sc__law_word.nd rfl (Or.inl rfl) (pe_lst pa_nil))
      (pss_cons (ps_for PassesOwn.never rfl (pi_list (pv 0)) (pg_name (i := 3) sc__law_word.nd rfl (Or.inl rfl))
        (pss_cons (ps_set (i := 4) sc__law_word.nd rfl (Or.inl rfl) (pe_call (G__law_mix) (hr.mono (by decide)) rfl T._law_mix.m T._law_mix.F.kp T._law_mix.b .nil passF (pa_cons (pv 3) (pa_cons pe_int pa_nil))))
        (pss_cons (ps_set (i := 5) sc__law_word.nd rfl (Or.inl rfl) (pe_op op_add pe_int (pe_op op_mod (pe_op op_fdiv (pv 4) pe_int) (pv 1))))
        (pss_cons (ps_cut (ps_if (pt_cmpR op_eq (pe_op op_mod (pv 4) pe_int) pe_int (nomark _))
          (pss_one (ps_set (i := 5) sc__law_word.nd rfl (Or.inl rfl) (pe_op op_sub pe_int (pv 5))))
          pss_nil))
        (pss_one (ps_expr (pe_bm PySem.F.plainAttrs_list PySem.F.slot_list_append PySem.F.type_list_append mt_append (pv 2) (pa_cons (pv 5) pa_nil))))))))
      (pss_one (ps_ret (pe_callTy call_tuple_of rfl T.z_tuple PyProof.Rows.boot_tuple (pa_cons (pv 2) pa_nil)))))), ?_⟩
    try dsimp only [cx_noxK, cx_K]
    refine seq_let2 ?_
    intro u_2 u_1
    refine ⟨Nat.zero_le _, fun l hl => ?_⟩
    have hnl : l ≠ a := fun e => by rw [e, ha] at hl; cases hl
    have s0 : Same H (upd H l (.lst [])) := Same.upd hl
    refine ⟨_, rfl, a, rfl, ⟨_, SqL.of (s0 _ _ ha)⟩, ?_⟩
    let LI_1 : Nat → St → Hp → Prop := fun i σ H2 => ∃ (ws : List Int) (v3 v4 v5 : Option V), σ = [some (.ref a), some (.int L), some (.ref l), v3, v4, v5] ∧ Same H H2 ∧ H2 l = some (.lst (intV ws)) ∧ M11.Steps L ws ∧ ws.length = i
    refine for_list (K := K) (a := a) (xs := intV cs) LI_1
      ⟨[], none, none, none, rfl, s0, upd_same, (fun s hs => by cases hs), rfl⟩ (fun i σ H2 _ hh => by obtain ⟨_, _, _, _, _, s, _⟩ := hh; exact SqL.of (s _ _ ha)) ?_ ?_
    · intro i y σ H2 hi hh_
      refine goal_let ?_
      intro q_
      obtain ⟨ws, v3, v4, v5, rfl, s2, hl2, hst, hwl⟩ := hh_
      dsimp only [q_]
      clear q_
      dsimp only [gName]
      refine blk_let3 ?_
      intro D_0 w_3 w_2 w_1
      obtain ⟨z, rfl, hz⟩ := ints_of_at hi
      have hil : i < cs.length := (List.getElem?_eq_some_iff.mp hz).1
      refine ⟨_, rfl, z, 2, rfl, by decide, by decide, fun r hr => ?_⟩
      have e1 := Int.emod_nonneg (r / 2) (show (L : Int) ≠ 0 by omega)
      have e2 := Int.emod_lt_of_pos (r / 2) (show (0 : Int) < (L : Int) by omega)
      refine ⟨_, rfl, _, _, rfl, rfl, ⟨by decide, by decide⟩, _, rfl, _, _, rfl, rfl, (by show (0 : Int) < (L : Int); omega), _, _, rfl, rfl, ?_⟩
      let LG_2 : St → Hp → Prop := fun σ' H' => ∃ st : Int, σ' = [some (.ref a), some (.int L), some (.ref l), some (.int z), some (.int r), some (.int st)] ∧ H' = H2 ∧ st ≠ 0 ∧ st.natAbs ≤ L
      refine ⟨LG_2, ?_, ?_⟩
      · refine blk_let0 ?_
        intro D_0
        refine ⟨_, rfl, _, _, rfl, rfl, (by show (0 : Int) < 2; decide), rfl, _, rfl, ?_⟩
        refine ite2 (fun _ => ?_) (fun _ => ⟨_, rfl, rfl, by omega, by omega⟩)
        exact ⟨_, rfl, _, _, rfl, rfl, _, rfl, rfl, by omega, by omega⟩
      rintro σ' H3 ⟨st, rfl, rfl, h0, h1⟩
      refine ⟨_, rfl, .inl ⟨rfl, _, SqL.of hl2⟩, _, rfl, l, _, _, rfl, rfl, hl2, ?_, ?_⟩
      · rw [ints_len]
        exact Nat.lt_of_le_of_lt (show ws.length ≤ 63 by omega) (by decide)
      refine ⟨ws ++ [st], _, _, _, rfl, fun b o e => by rw [upd_ne (ne_of_none e hl)]; exact s2 _ _ e, by rw [upd_same, ints_app]; rfl, fun s hs => ?_, by rw [List.length_append, hwl]; rfl⟩
      rcases List.mem_append.mp hs with hs | hs
      · exact hst s hs
      · rw [List.mem_singleton.mp hs]
        exact ⟨h0, h1⟩
    · intro σ H2 hh_
      refine goal_let ?_
      intro q_
      obtain ⟨ws, v3, v4, v5, rfl, s2, hl2, hst, hwl⟩ := hh_
      dsimp only [q_]
      clear q_
      rw [ints_len] at hwl
      refine ⟨_, rfl, l, _, rfl, .inl ⟨SqL.of hl2, fun lt hlt => ?_⟩⟩
      exact k lt ws _ (s2.trans (Same.upd hlt)) upd_same hst hwl
theorem ok__law_through (T : Txt K mg A) : FnOk P w K mg base (CXw P w) 2 A.f__law_through A.d__law_through ["_law_turns_here", "_law_word_here", "_law_points"] spThr := by
  have G__law_back : FnOk P w K mg base (CXw P w) 1 A.f__law_back A.d__law_back ["_law_turned"] spBackT := ok__law_back T
  refine T._law_through.F.okN sc__law_through (fun vs H Q E h => ?_) (fun cdv AA outer s H vs Q E hr h => ?_)
  · obtain ⟨a, wa, rows, p, w, rfl, _⟩ := h
    rfl
  · obtain ⟨a, wa, rows, p, w, rfl, hTa, hpm, hp, hwa, hst, hrl, k⟩ := h
    refine ⟨_, (pss_cons (ps_set (i := 3) sc__law_through.nd rfl (Or.inl rfl) (pe_tupRange1 rfl rfl T.z_tuple rfl T.z_range (pa_cons (pv 2) pa_nil)))
      (pss_cons (ps_for PassesOwn.never rfl (pi_tup (pv 1)) (pg_name (i := 4) sc__law_through.nd rfl (Or.inl rfl))
        (pss_cons (ps_set (i := 5) sc__law_through.nd rfl (Or.inr rfl) (pe_ix ix_list (pv 0) (pe_op op_sub (pe_callB call_abs rfl T.z_abs PyProof.Rows.boot_abs (pa_cons (pv 4) pa_nil)) pe_int) (fun _ _ => rfl)))
        (pss_cons (ps_cut (ps_if (pt_cmpR op_lt (pv 4) pe_int (nomark _))
          (pss_one (ps_set (i := 5) sc__law_through.nd rfl (Or.inr rfl) (pe_call (G__law_back) (hr.mono (by decide)) rfl T._law_back.m T._law_back.F.kp T._law_back.b .nil passF (pa_cons (pv 5) pa_nil))))
          pss_nil))
        (pss_one (ps_set (i := 3) sc__law_through.nd rfl (Or.inl rfl) (pe_callTy call_tuple_of rfl T.z_tuple PyProof.Rows.boot_tuple (pa_cons (pe_comp (fns := ["_law_turned"]) (ixs := [5]) (cl := _) rfl (pi_tup (pv 3)) (compScope1 rfl rfl (by decide +kernel) rfl (by decide +kernel) rfl (by decide +kernel) (by decide +kernel) rfl rfl rfl rfl) (fun C s H ex => (pe_ix (ix_tupK (K := K) rfl) (pv 1) (pv 0) (fun _ _ => rfl)))) pa_nil)))))))
      (pss_one (ps_ret (pv 3))))), ?_⟩
    try dsimp only [cx_noxK, cx_K]
    refine seq_let2 ?_
    intro u_2 u_1
    obtain ⟨ps, hps, hpt⟩ := id hTa
    have hpl : ps.length = rows.length := hpt.1
    refine ⟨_, rfl, p, rfl, by omega, fun q0 hq0 => ?_⟩
    have s0 : Same H (upd H q0 (.tup (intV (rng 0 p)))) := Same.upd hq0
    have h0 : upd H q0 (.tup (intV (rng 0 p))) q0 = some (.tup (intV (M18.thr rows p (w.take 0)))) := by rw [upd_same, rng_thr rows p]; rfl
    generalize upd H q0 (.tup (intV (rng 0 p))) = H0 at s0 h0 ⊢
    refine ⟨_, rfl, wa, rfl, ⟨_, SqT.of (s0 _ _ hwa)⟩, ?_⟩
    refine for_tup (K := K) (a := wa) (xs := intV w) (fun n σ H2 => ∃ (q : Addr) (v4 v5 : Option V), σ = [some (.ref a), some (.ref wa), some (.int p), some (.ref q), v4, v5] ∧ Same H H2 ∧ H2 q = some (.tup (intV (M18.thr rows p (w.take n))))) ⟨q0, none, none, rfl, s0, h0⟩ (fun n σ H2 _ hh => by obtain ⟨_, _, _, _, s, _⟩ := hh; exact SqT.of (s _ _ hwa)) ?_ ?_
    · intro n y σ H2 hn hh_
      refine goal_let ?_
      intro q_
      obtain ⟨q, v4, v5, rfl, s2, h2⟩ := hh_
      dsimp only [q_]
      clear q_
      dsimp only [gName]
      refine seq_let2 ?_
      intro w_2 w_1
      obtain ⟨z, rfl, hz⟩ := ints_of_at hn
      have hs := hst z (List.mem_of_getElem? hz)
      obtain ⟨row, g2⟩ := get_some (xs := rows) (i := z.natAbs - 1) (by omega)
      obtain ⟨pa, g1⟩ := get_some (xs := ps) (i := z.natAbs - 1) (by omega)
      have hpa := s2 _ _ (hpt.2 _ _ _ g1 g2)
      have hP := hpm row (List.mem_of_getElem? g2)
      have hU := M18.thr_pm hpm (fun s hs => hst s (List.mem_of_mem_take hs) : M11.Steps rows.length (w.take n)) (p := p)
      have eU : M18.thr rows p (w.take (n + 1)) = M18.mvs rows z (M18.thr rows p (w.take n)) := by
        rw [M18.thr_snoc, List.take_succ, hz]
        rfl
      rw [eU]
      generalize M18.thr rows p (w.take n) = us at h2 hU
      have ez : (if z < 0 then -z else z) - 1 = ((z.natAbs - 1 : Nat) : Int) := by split <;> omega
      refine ⟨_, rfl, _, rfl, z, rfl, _, _, rfl, rfl, a, _, _, .ref pa, rfl, rfl, SqL.of (s2 _ _ hps), (by rw [ez]; exact ref_at g1), ?_⟩
      refine ⟨fun σ' H' => ∃ tq : Addr, σ' = [some (.ref a), some (.ref wa), some (.int p), some (.ref q), some (.int z), some (.ref tq)] ∧ Same H2 H' ∧ H' tq = some (.tup (intV (M18.tn p rows z))), ?_, ?_⟩
      · refine blk_let0 ?_
        intro D_0
        refine ⟨_, rfl, _, _, rfl, rfl, _, rfl, ite2 (fun h => ?_) (fun h => ?_)⟩
        · have h' : z < (0 : Int) := of_decide_eq_true h
          refine ⟨_, rfl, pa, row, p, rfl, hpa, hP, hp, fun l t H3 s3 h3 hI => ⟨l, rfl, s3, ?_⟩⟩
          rw [M18.tn_neg g2 hP (by omega) hI]
          exact h3
        · have h' : ¬ z < (0 : Int) := fun q => h (decide_eq_true q)
          refine ⟨pa, rfl, fun _ _ e => e, ?_⟩
          rw [M18.tn_pos g2 hP (by omega)]
          exact hpa
      rintro σ' H3 ⟨tq, rfl, s3, htq⟩
      have h3 := s3 _ _ h2
      refine ⟨_, rfl, q, rfl, ⟨_, SqT.of h3⟩, ?_⟩
      refine comp_pure (intV us) (fun v => match v with | .int y => .int ((M18.sf rows y.toNat z : Nat) : Int) | v => v) (itt_go (SqT.of h3)) (itt_yld (SqT.of h3)) (itt_stop (SqT.of h3)) (by rw [ints_len, hU.len]; exact Nat.le_trans hp (by decide)) (fun i x hx R hR => ?_) (fun D hD => ?_)
      · obtain ⟨y, rfl, hy⟩ := ints_of_at hx
        have hyr := hU.rg y (List.mem_of_getElem? hy)
        have ey : y = ((y.toNat : Nat) : Int) := by omega
        refine ⟨_, rfl, _, rfl, tq, _, _, _, rfl, rfl, SqT.of htq, ?_, hR⟩
        have := M18.tn_at (p := p) (rows := rows) (s := z) (show y.toNat < p by omega)
        have h5 := atI_nat (ints_at this)
        rw [← ey] at h5
        exact h5
      refine ⟨D, _, rfl, .inl ⟨SqL.of upd_same, fun l hl => ?_⟩⟩
      refine ⟨l, _, _, rfl, ((s2.trans s3).trans (Same.upd hD)).trans (Same.upd hl), ?_⟩
      rw [upd_same]
      unfold M18.mvs intV
      rw [List.map_map, List.map_map]
      rfl
    · intro σ H2 hh_
      refine goal_let ?_
      intro q_
      obtain ⟨q, v4, v5, rfl, s2, h2⟩ := hh_
      dsimp only [q_]
      clear q_
      rw [ints_len, List.take_length] at h2
      exact ⟨_, rfl, k q H2 s2 h2⟩
theorem rep_flat (w : List Int) (n : Nat) : (List.replicate n (intV w)).flatten = intV ((List.replicate n w).flatten) := by
  induction n with
  | zero => rfl
  | succ n ih => rw [List.replicate_succ, List.flatten_cons, ih, List.replicate_succ, List.flatten_cons, ints_app]
theorem flat_mem {w : List Int} {n : Nat} {s : Int} (h : s ∈ (List.replicate n w).flatten) : s ∈ w := by
  obtain ⟨u, hu, hs⟩ := List.mem_flatten.mp h
  rw [(List.mem_replicate.mp hu).2] at hs
  exact hs
theorem flat_lenR (w : List Int) (n : Nat) : (List.replicate n w).flatten.length = w.length * n := by
  induction n with
  | zero => rfl
  | succ n ih => rw [List.replicate_succ, List.flatten_cons, List.length_append, ih, Nat.mul_succ]; omega
def wd (u : List Nat) : List Int := u.map M12.st
def stL (n : Nat) : List Int := (List.range n).map M12.st
theorem stL_len (n : Nat) : (stL n).length = n := by unfold stL; rw [List.length_map, List.length_range]
theorem stL_at {n i : Nat} (h : i < n) : (stL n)[i]? = some (M12.st i) := by
  unfold stL
  rw [List.getElem?_map, List.getElem?_range h]
  rfl
theorem stL_two (i : Nat) : stL (2 * i) ++ [1 + (i : Int)] ++ [-(1 + (i : Int))] = stL (2 * (i + 1)) := by
  have e : 2 * (i + 1) = 2 * i + 1 + 1 := by omega
  rw [e]
  unfold stL
  rw [List.range_succ, List.range_succ, List.map_append, List.map_append]
  have e1 : M12.st (2 * i) = 1 + (i : Int) := by unfold M12.st; rw [if_pos (by omega)]; omega
  have e2 : M12.st (2 * i + 1) = -(1 + (i : Int)) := by unfold M12.st; rw [if_neg (by omega)]; omega
  show _ = (List.range (2 * i)).map M12.st ++ [M12.st (2 * i)] ++ [M12.st (2 * i + 1)]
  rw [e1, e2]
structure LW (L : Nat) (T : List (List Int)) (ws : List (List Nat)) : Prop where
  lw : M12.Lw L T ws
  ok : ∀ (i : Nat) (u : List Nat), ws[i]? = some u → (∀ k ∈ u, k < 2 * L) ∧ M11.walk T (wd u) 0 = i ∧ u.length ≤ 300
def spLeast : Sp := fun vs H Q _ => ∃ (a : Addr) (T : List (List Int)) (L : Nat), vs = [.ref a] ∧ TabAt H a T ∧ M11.Tab L T ∧ M12.Fc (2 * L) T.flatten T.length ∧ ∀ l ws H', Same H H' → H l = none → WordsAt H' l (ws.map wd) → LW L T ws → Q (.ref l) H'
def spStepsO : Sp := fun vs H Q _ => ∃ L : Nat, vs = [.int L] ∧ 1 ≤ L ∧ L ≤ 200 ∧ ∀ l H', Same H H' → H' l = some (.lst (intV ((List.range (2 * L)).map M12.st))) → Q (.ref l) H'
theorem wd_len (u : List Nat) : (wd u).length = u.length := by unfold wd; rw [List.length_map]
theorem wd_app (u v : List Nat) : wd (u ++ v) = wd u ++ wd v := by unfold wd; rw [List.map_append]
theorem ok_steps_of (T : Txt K mg A) : FnOk P w K mg base (CXw P w) 1 A.f_steps_of A.d_steps_of ["letters"] spStepsO := by
  refine T.steps_of.F.okN sc_steps_of (fun vs H Q E h => ?_) (fun cdv AA outer s H vs Q E hr h => ?_)
  · obtain ⟨L, rfl, _⟩ := h
    rfl
  · obtain ⟨L, rfl, hL1, hL2, k⟩ := h
    refine ⟨_, (pss_cons (ps_set (i := 1) sc_steps_of.nd rfl (Or.inl rfl) (pe_lst pa_nil))
      (pss_cons (ps_for PassesOwn.never rfl (pi_range2 rfl T.z_range (pa_cons pe_int (pa_cons (pe_op op_add (pv 0) pe_int) pa_nil))) (pg_name (i := 2) sc_steps_of.nd rfl (Or.inl rfl))
        (pss_cons (ps_expr (pe_bm PySem.F.plainAttrs_list PySem.F.slot_list_append PySem.F.type_list_append mt_append (pv 1) (pa_cons (pv 2) pa_nil)))
        (pss_one (ps_expr (pe_bm PySem.F.plainAttrs_list PySem.F.slot_list_append PySem.F.type_list_append mt_append (pv 1) (pa_cons (pe_un un_neg (pv 2)) pa_nil))))))
      (pss_one (ps_ret (pv 1))))), ?_⟩
    try dsimp only [cx_noxK, cx_K]
    refine seq_let2 ?_
    intro u_2 u_1
    refine ⟨Nat.zero_le _, fun l hl => ?_⟩
    have s0 : Same H (upd H l (.lst [])) := Same.upd hl
    have h0 : upd H l (.lst []) l = some (.lst (intV (stL (2 * 0)))) := upd_same
    generalize upd H l (.lst []) = H0 at s0 h0 ⊢
    refine ⟨_, rfl, _, _, rfl, rfl, 1, (L : Int) + 1, rfl, ⟨by omega, by omega, by omega, by omega⟩, ?_⟩
    let LI_1 : Nat → St → Hp → Prop := fun i σ H2 => ∃ v : Option V, σ = [some (.int L), some (.ref l), v] ∧ Same H H2 ∧ H2 l = some (.lst (intV (stL (2 * i))))
    refine for_range (lo := 1) (n := ((L : Int) + 1 - 1).toNat) LI_1 ⟨none, rfl, s0, h0⟩ ?_ ?_
    · rintro i σ H2 hi ⟨v, rfl, s2, h2⟩
      dsimp only [gName]
      refine blk_let1 ?_
      intro D_0 w_1
      have hi' : i < L := by omega
      refine ⟨_, rfl, .inl ⟨rfl, _, SqL.of h2⟩, _, rfl, l, _, _, rfl, rfl, h2, ?_, ?_⟩
      · rw [ints_len, stL_len]
        exact Nat.lt_of_le_of_lt (show 2 * i ≤ 400 by omega) (by decide)
      refine ⟨_, rfl, .inl ⟨rfl, _, SqL.of upd_same⟩, _, rfl, _, rfl, l, _, _, rfl, rfl, upd_same, ?_, ?_⟩
      · rw [List.length_append, ints_len, stL_len]
        exact Nat.lt_of_le_of_lt (show 2 * i + 1 ≤ 400 by omega) (by decide)
      refine ⟨_, rfl, fun b o e => ?_, ?_⟩
      · rw [upd_ne (ne_of_none e hl), upd_ne (ne_of_none e hl)]
        exact s2 _ _ e
      · rw [upd_same, ← stL_two, ints_app, ints_app]
        rfl
    · rintro σ H2 ⟨v, rfl, s2, h2⟩
      rw [show ((L : Int) + 1 - 1).toNat = L by omega] at h2
      exact ⟨_, rfl, k l H2 s2 h2⟩
def RefD (kvs : List (Key × V)) (ps : List Addr) : Prop := kvs.length ≤ ps.length ∧ ∀ i : Nat, valV kvs (Sum.inl (i : Int)) = (ps[i]?).map V.ref
theorem RefD.one (p : Addr) : RefD [(Sum.inl 0, .ref p)] [p] := by
  refine ⟨Nat.le_refl _, fun i => ?_⟩
  cases i with
  | zero => exact valV_pos rfl
  | succ i =>
    rw [valV_neg (fun z => by injection z with z; omega)]
    rfl
theorem RefD.put {kvs : List (Key × V)} {ps : List Addr} (h : RefD kvs ps) (p : Addr) : RefD (putK kvs (Sum.inl (ps.length : Int)) (.ref p)) (ps ++ [p]) := by
  have hn : valV kvs (Sum.inl (ps.length : Int)) = none := by rw [h.2, List.getElem?_eq_none (Nat.le_refl _)]; rfl
  refine ⟨?_, fun i => ?_⟩
  · rw [putK_new _ hn, List.length_append, List.length_append]
    have := h.1
    simp only [List.length_cons, List.length_nil]
    omega
  · rw [valV_put]
    by_cases e : i = ps.length
    · subst e
      rw [if_pos rfl, List.getElem?_append_right (Nat.le_refl _), Nat.sub_self]
      rfl
    · rw [if_neg (fun z => e (by injection z with z; omega)), h.2]
      by_cases c : i < ps.length
      · rw [List.getElem?_append_left c]
      · rw [List.getElem?_eq_none (show ps.length ≤ i by omega), List.getElem?_eq_none (by rw [List.length_append]; simp only [List.length_cons, List.length_nil]; omega)]
theorem RefD.get {kvs : List (Key × V)} {ps : List Addr} {H : Hp} {d p : Addr} {i : Nat} (h : RefD kvs ps) (hd : H d = some (.dK kvs)) (hp : ps[i]? = some p) : DGet H d (.int (i : Int)) (some (.ref p)) := by
  have := DGet.k (k := Sum.inl (i : Int)) hd
  rw [h.2 i, hp] at this
  exact this
def natW (n : Nat) : List V := (List.range n).map fun i : Nat => V.int (i : Int)
theorem natW_len (n : Nat) : (natW n).length = n := by unfold natW; rw [List.length_map, List.length_range]
theorem natW_at {n i : Nat} (h : i < n) : (natW n)[i]? = some (V.int (i : Int)) := by
  unfold natW
  rw [List.getElem?_map, List.getElem?_range h]
  rfl
theorem comp_rangeV {H1 : Hp} {fv : St} {te : TE} {Q : VK} {n : Nat} (g : Nat → V) (hn : n ≤ 1000) (he : ∀ i : Nat, i < n → ∀ R : VK, R (g i) H1 → te (some (.int (i : Int)) :: fv) H1 R) (hQ : ∀ D, H1 D = none → Q (.ref D) (upd H1 D (.lst ((List.range n).map g)))) : CompGo te fv Q (Itr 0 n) H1 := by
  refine comp_pure (natW n) (fun v => match v with | .int z => g z.toNat | v => v) (fun i hi => by rw [natW_len] at hi; exact hi) (fun i x H3 hi y => ?_) (by rw [natW_len]; exact Nat.le_refl _) (by rw [natW_len]; exact Nat.le_trans hn (by decide)) (fun i x hx R hR => ?_) (fun D hD => ?_)
  · rw [natW_len] at hi
    obtain ⟨e1, e2⟩ := y
    refine ⟨e1, ?_⟩
    rw [natW_at hi]
    congr 1
    rw [e2, Int.zero_add]
  · have hi : i < n := by
      have := (List.getElem?_eq_some_iff.mp hx).1
      rw [natW_len] at this
      exact this
    rw [natW_at hi] at hx
    have ex := Option.some.inj hx
    subst ex
    refine he i hi R ?_
    have : R (g ((i : Int)).toNat) H1 := hR
    rw [Int.toNat_natCast] at this
    exact this
  · have e : ((natW n).map fun v => match v with | .int z => g z.toNat | v => v) = (List.range n).map g := by
      unfold natW
      rw [List.map_map]
      rfl
    rw [e]
    exact hQ D hD
theorem range_refs (ps : List Addr) : ((List.range ps.length).map fun i => V.ref (ps.getD i 0)) = ps.map V.ref := by
  apply List.ext_getElem
  · simp
  · intro i h1 h2
    simp [List.getD_eq_getElem?_getD] at h1 ⊢
    rw [List.getElem?_eq_getElem h1]
    rfl
theorem ok_least_ways (T : Txt K mg A) : FnOk P w K mg base (CXw P w) 2 A.f_least_ways A.d_least_ways ["table"] spLeast := by
  have G_steps_of : FnOk P w K mg base (CXw P w) 1 A.f_steps_of A.d_steps_of ["letters"] spStepsO := ok_steps_of T
  refine T.least_ways.F.okN sc_least_ways (fun vs H Q E h => ?_) (fun cdv AA outer s H vs Q E hr h => ?_)
  · obtain ⟨a, Tb, L, rfl, _⟩ := h
    rfl
  · obtain ⟨a, Tb, L, rfl, hTa, hT, hF, k⟩ := h
    have hu2 := hu_of hr
    refine ⟨_, (pss_cons (ps_set (i := 1) sc_least_ways.nd rfl (Or.inl rfl) (pe_call (G_steps_of) (hr.mono (by decide)) rfl T.steps_of.m T.steps_of.F.kp T.steps_of.b .nil passF (pa_cons (pe_op op_fdiv (pe_callB call_len_seq rfl T.z_len PySem.boot_len (pa_cons (pe_ix ix_list (pv 0) pe_int (fun _ _ => rfl)) pa_nil)) pe_int) pa_nil)))
      (pss_cons (ps_set (i := 2) sc_least_ways.nd rfl (Or.inr rfl) (pe_disp (pps_cons pe_int (pe_tup pa_nil) pps_nil) rfl rfl (by simp) (by decide)))
      (pss_cons (ps_for PassesOwn.never rfl (pi_enumL rfl T.z_enumerate (pv 0)) (pg_tup rfl (pgs_cons (pg_name (i := 3) sc_least_ways.nd rfl (Or.inl rfl)) (pgs_cons (pg_name (i := 4) sc_least_ways.nd rfl (Or.inl rfl)) pgs_nil)))
        (pss_one (ps_for PassesOwn.never rfl (pi_zip rfl T.z_zip (pa_cons (pv 1) (pa_cons (pv 4) pa_nil))) (pg_tup rfl (pgs_cons (pg_name (i := 5) sc_least_ways.nd rfl (Or.inl rfl)) (pgs_cons (pg_name (i := 6) sc_least_ways.nd rfl (Or.inl rfl)) pgs_nil)))
          (pss_one (ps_cut (ps_if (pt_cmp (pc_dnotin hu2 (pv 6) (pv 2)))
            (pss_one (ps_dput hu2 (pv 2) (pv 6) (pe_op op_catTT (pe_dget hu2 (pv 2) (pv 3) (fun _ _ => rfl)) (pe_tup (pa_cons (pv 5) pa_nil))) rfl))
            pss_nil))))))
      (pss_one (ps_ret (pe_comp (fns := ["ways"]) (ixs := [2]) (cl := _) rfl (pi_range1 rfl T.z_range (pa_cons (pe_callB call_len_seq rfl T.z_len PySem.boot_len (pa_cons (pv 0) pa_nil)) pa_nil)) (compScope1 rfl rfl (by decide +kernel) rfl (by decide +kernel) rfl (by decide +kernel) (by decide +kernel) rfl rfl rfl rfl) (fun C s H ex => (pe_dget hu2 (pv 1) (pv 0) (fun _ _ => rfl))))))))), ?_⟩
    try dsimp only [cx_noxK, cx_K]
    refine seq_let3 ?_
    intro u_3 u_2 u_1
    have h300 := hT.top
    have h40 := hT.let2
    have hL1 := hT.let1
    obtain ⟨rs0, r0, row0, g1, g2, g3, g4, g5⟩ := tab_get hTa hT hT.pos
    have eL : ((intV row0).length : Int) / 2 = (L : Int) := by rw [ints_len, g4]; omega
    refine ⟨_, rfl, a, _, _, .ref r0, rfl, rfl, SqL.of g1, ref_at (i := 0) g2, r0, _, rfl, .inl (SqL.of g3), _, _, rfl, rfl, ⟨by decide, by decide⟩, ?_⟩
    refine ⟨L, by rw [← eL]; rfl, hL1, by omega, fun sl H1 s1 hs1 => ?_⟩
    intro d hd
    refine ⟨Nat.zero_le _, fun q0 hq0 => ?_⟩
    refine ⟨(Same.upd hq0) _ _ upd_same, [(Sum.inl 0, .ref q0)], rfl, by show 1 ≤ 15; decide, ?_⟩
    have hdq : q0 ≠ d := fun z => by rw [z, upd_same] at hq0; cases hq0
    have hq1 : H1 q0 = none := by rw [upd_ne hdq] at hq0; exact hq0
    generalize hH2 : upd (upd (upd H1 d (.dK [])) q0 (.tup [])) d _ = H2
    have hd2 : H2 d = some (.dK [(Sum.inl 0, .ref q0)]) := by rw [← hH2, upd_same]; rfl
    have hq2 : H2 q0 = some (.tup (intV (wd []))) := by rw [← hH2, upd_ne hdq, upd_same]; rfl
    have s2 : Same H1 H2 := fun b o e => by rw [← hH2, upd_ne (ne_of_none e hd), upd_ne (ne_of_none e hq1), upd_ne (ne_of_none e hd)]; exact e
    clear hH2
    have hT2 : TupsAt H2 [q0] ([[]].map wd) := ⟨rfl, fun i p w h1 h2 => by
      rw [List.mem_singleton.mp (List.mem_of_getElem? h1), List.mem_singleton.mp (List.mem_of_getElem? h2)]
      exact hq2⟩
    obtain ⟨rs, hrs, hrw⟩ := hTa.same s1
    have hlen : ((rs.map V.ref).length : Int) = (Tb.length : Int) := by rw [List.length_map, hrw.1]
    refine ⟨_, rfl, a, rfl, ⟨_, SqL.of (s2 _ _ hrs)⟩, ?_⟩
    let LI_1 : Nat → St → Hp → Prop := fun i σ H3 => ∃ (ps : List Addr) (ws : List (List Nat)) (kvs : List (Key × V)) (v3 v4 v5 v6 : Option V), σ = [some (.ref a), some (.ref sl), some (.ref d), v3, v4, v5, v6] ∧ Same H1 H3 ∧ H3 d = some (.dK kvs) ∧ RefD kvs ps ∧ TupsAt H3 ps (ws.map wd) ∧ M13.Part L Tb ws (i * (2 * L))
    refine for_enumL (K := K) (a := a) (xs := rs.map V.ref) LI_1
      ⟨[q0], [[]], _, none, none, none, none, rfl, s2, hd2, RefD.one q0, hT2, by rw [Nat.zero_mul]; exact M13.Part.start hT hF⟩ (fun i σ H3 _ hh => by obtain ⟨_, _, _, _, _, _, _, _, s, _⟩ := hh; exact SqL.of (s _ _ hrs)) ?_ ?_
    · intro i v σ H3 p hi hp hh_
      refine goal_let ?_
      intro q_
      obtain ⟨ps, ws, kvs, v3, v4, v5, v6, rfl, s3, hd3, hr3, ht3, hP3⟩ := hh_
      dsimp only [q_]
      clear q_
      rw [List.getElem?_map] at hi
      have hil : i < rs.length := by
        cases e : rs[i]? with
        | none => rw [e] at hi; cases hi
        | some r => exact (List.getElem?_eq_some_iff.mp e).1
      obtain ⟨rr, q1⟩ := get_some (xs := rs) (i := i) hil
      rw [q1] at hi
      have ey : V.ref rr = v := Option.some.inj hi
      subst ey
      have hiT : i < Tb.length := by rw [← hrw.1]; exact hil
      obtain ⟨row, q2⟩ := get_some (xs := Tb) (i := i) hiT
      have hrr := hrw.2 i rr row q1 q2
      have hrl := hT.row i row q2
      have s34 := Same.upd (o := .tup [.int (i : Int), .ref rr]) hp
      refine ⟨p, _, rfl, SqT.of upd_same, rfl, _, _, rfl, _, _, rfl, rfl, ?_⟩
      generalize upd H3 p (.tup [.int (i : Int), .ref rr]) = H4 at s34 ⊢
      refine blk_let0 ?_
      intro D_6
      have s4 := s3.trans s34
      refine ⟨_, rfl, _, rfl, sl, rr, rfl, ⟨_, SqL.of (s4 _ _ hs1)⟩, ⟨_, SqL.of (s4 _ _ hrr)⟩, ?_⟩
      let LI_2 : Nat → St → Hp → Prop := fun n σ H5 => ∃ (ps : List Addr) (ws : List (List Nat)) (kvs : List (Key × V)) (v5 v6 : Option V), σ = [some (.ref a), some (.ref sl), some (.ref d), some (.int (i : Int)), some (.ref rr), v5, v6] ∧ Same H1 H5 ∧ H5 d = some (.dK kvs) ∧ RefD kvs ps ∧ TupsAt H5 ps (ws.map wd) ∧ M13.Part L Tb ws (i * (2 * L) + n)
      refine for_zip (K := K) (a := sl) (b := rr) (xs := intV ((List.range (2 * L)).map M12.st)) (ys := intV row) LI_2
        (by rw [ints_len, ints_len, List.length_map, List.length_range, hrl]) ⟨ps, ws, kvs, v5, v6, rfl, s4, s34 _ _ hd3, hr3, ht3.same s34, hP3⟩ (fun n σ H5 _ hh => by obtain ⟨_, _, _, _, _, _, s, _⟩ := hh; exact ⟨SqL.of (s _ _ hs1), SqL.of (s _ _ hrr)⟩) ?_ ?_
      · intro n v u σ H5 q hv hu hq hh_
        refine goal_let ?_
        intro q_
        obtain ⟨ps, ws, kvs, v5, v6, rfl, s5, hd5, hr5, ht5, hP5⟩ := hh_
        dsimp only [q_]
        clear q_
        have hn' : n < 2 * L := by
          have := (List.getElem?_eq_some_iff.mp hv).1
          rw [ints_len, List.length_map, List.length_range] at this
          exact this
        rw [show (intV ((List.range (2 * L)).map M12.st))[n]? = some (V.int (M12.st n)) from ints_at (stL_at hn')] at hv
        have ev := Option.some.inj hv
        subst ev
        obtain ⟨r', e1, e2⟩ := hT.val i n hiT hn'
        have er : row = r' := Option.some.inj (q2.symm.trans e1)
        subst er
        rw [ints_at e2] at hu
        have eu := Option.some.inj hu
        subst eu
        obtain ⟨st1, st2⟩ := M13.Part.step hT hF hP5 hiT hn'
        have hle := M13.Part.le hT hF hP5 hiT hn'
        have s56 := Same.upd (o := .tup [.int (M12.st n), .int ((M11.nx Tb n i : Nat) : Int)]) hq
        refine ⟨q, _, rfl, SqT.of upd_same, rfl, _, _, rfl, _, _, rfl, rfl, ?_⟩
        generalize upd H5 q (.tup [.int (M12.st n), .int ((M11.nx Tb n i : Nat) : Int)]) = H6 at s56 ⊢
        refine blk_let0 ?_
        intro D_8
        have s6 := s5.trans s56
        have hd6 := s56 _ _ hd5
        have ht6 := ht5.same s56
        have hpl : ps.length = ws.length := by have := ht5.1; rw [List.length_map] at this; exact this
        refine ⟨_, ?_, fun _ _ h => h⟩
        refine ⟨_, rfl, _, rfl, d, _, rfl, DGet.k (k := Sum.inl ((M11.nx Tb n i : Nat) : Int)) hd6, _, rfl, ?_⟩
        rw [hr5.2]
        by_cases hnx : M11.nx Tb n i = ws.length
        · rw [List.getElem?_eq_none (show ps.length ≤ M11.nx Tb n i by omega)]
          refine iteT ?_
          have hiw := hP5.has hT hF hiT rfl
          obtain ⟨u, hu⟩ := get_some (xs := ws) (i := i) hiw
          obtain ⟨pa, hpi⟩ := get_some (xs := ps) (i := i) (by omega)
          have hpa := ht6.2 i pa (wd u) hpi (by rw [List.getElem?_map, hu]; rfl)
          have hul := (hP5.ok i u hu).2.2
          have htop := hP5.top
          refine ⟨_, rfl, _, rfl, d, _, rfl, hr5.get hd6 hpi, _, rfl, by show 1 ≤ sizeLine; decide, fun q7 hq7 => ?_⟩
          have s67 : Same H6 (upd H6 q7 (.tup [.int (M12.st n)])) := Same.upd hq7
          have hq7' : upd H6 q7 (.tup [.int (M12.st n)]) q7 = some (.tup (intV (wd [n]))) := upd_same
          generalize upd H6 q7 (.tup [.int (M12.st n)]) = H7 at s67 hq7' ⊢
          refine ⟨pa, q7, _, _, rfl, rfl, s67 _ _ hpa, hq7', ?_, fun p3 H8 s78 h8 => ?_⟩
          · rw [ints_len, ints_len, wd_len, wd_len]
            exact Nat.le_trans (show u.length + 1 ≤ 400 by omega) (by decide)
          rw [← ints_app, ← wd_app] at h8
          have s68 := s67.trans s78
          have hd8 := s68 _ _ hd6
          refine ⟨_, rfl, _, rfl, d, _, rfl, DPut.k (k := Sum.inl ((M11.nx Tb n i : Nat) : Int)) hd8 (Nat.lt_of_le_of_lt (show kvs.length ≤ 300 by have := hr5.1; omega) (by decide)), ?_⟩
          have kp : ∀ p xs, H8 p = some (.tup xs) → upd H8 d (.dK (putK kvs (Sum.inl ((M11.nx Tb n i : Nat) : Int)) (.ref p3))) p = some (.tup xs) := fun p xs e => by
            rw [upd_ne (ne_of e hd8 (by intro z; cases z))]
            exact e
          refine ⟨ps ++ [p3], ws ++ [u ++ [n]], _, _, _, rfl, fun b o e => ?_, upd_same, ?_, ?_, st2 hnx u hu⟩
          · rw [upd_ne (ne_of_none e hd)]
            exact s68 _ _ (s6 _ _ e)
          · have := hr5.put p3
            rw [hpl, ← hnx] at this
            exact this
          · rw [List.map_append]
            exact ((ht6.same s68).snoc h8).keep kp
        · have hpx : ps[M11.nx Tb n i]? = some (ps[M11.nx Tb n i]'(by omega)) := List.getElem?_eq_getElem (by omega)
          rw [hpx]
          exact iteF ⟨ps, ws, kvs, _, _, rfl, s6, hd6, hr5, ht6, st1 hnx⟩
      · intro σ H5 hh_
        refine goal_let ?_
        intro q_
        obtain ⟨ps, ws, kvs, v5, v6, rfl, s5, hd5, hr5, ht5, hP5⟩ := hh_
        dsimp only [q_]
        clear q_
        rw [ints_len, List.length_map, List.length_range] at hP5
        exact ⟨ps, ws, kvs, _, _, _, _, rfl, s5, hd5, hr5, ht5, by rw [Nat.succ_mul]; exact hP5⟩
    · intro σ H3 hh_
      refine goal_let ?_
      intro q_
      obtain ⟨ps, ws, kvs, v3, v4, v5, v6, rfl, s3, hd3, hr3, ht3, hP3⟩ := hh_
      dsimp only [q_]
      clear q_
      rw [List.length_map, hrw.1] at hP3
      have hLw := M13.Part.end_ hT hF hP3
      have hpl : ps.length = Tb.length := by have := ht3.1; rw [List.length_map, hLw.1] at this; exact this
      refine ⟨_, rfl, a, _, rfl, .inl (SqL.of (s3 _ _ hrs)), (Tb.length : Int), by rw [← hlen], by omega, by omega, ?_⟩
      rw [Int.toNat_natCast]
      refine comp_rangeV (fun i => V.ref (ps.getD i 0)) (by omega) (fun i hi R hR => ?_) (fun D hD => ?_)
      · have hpi : ps[i]? = some (ps[i]'(by omega)) := List.getElem?_eq_getElem (by omega)
        rw [List.getD_eq_getElem?_getD, hpi] at hR
        exact ⟨_, rfl, _, rfl, d, _, rfl, hr3.get hd3 hpi, hR⟩
      · rw [← hpl, range_refs]
        refine k D ws _ ((s1.trans s3).trans (Same.upd hD)) ((s1.trans s3).free hD) ⟨ps, upd_same, ht3.same (Same.upd hD)⟩ ⟨hLw, fun i u hu => ?_⟩
        obtain ⟨a1, a2, a3⟩ := hP3.ok i u hu
        have hi := (List.getElem?_eq_some_iff.mp hu).1
        have := hP3.top
        exact ⟨a1, a2, by omega⟩
open M11 in
def turnL (T : List (List Int)) (w : List Int) : List Int := (List.range T.length).map fun i => ((M11.walk T w i : Nat) : Int)
def spTurning : Sp := fun vs H Q _ => ∃ (a wa : Addr) (T : List (List Int)) (L : Nat) (w : List Int), vs = [.ref a, .ref wa] ∧ TabAt H a T ∧ M11.Tab L T ∧ H wa = some (.tup (intV w)) ∧ M11.Steps L w ∧ ∀ l H', Same H H' → H l = none → H' l = some (.lst (intV (turnL T w))) → Q (.ref l) H'
theorem turnL_len (T : List (List Int)) (w : List Int) : (turnL T w).length = T.length := by unfold turnL; rw [List.length_map, List.length_range]
theorem turnL_at {T : List (List Int)} {w : List Int} {i : Nat} (h : i < T.length) : (turnL T w)[i]? = some ((M11.walk T w i : Nat) : Int) := by
  unfold turnL
  rw [List.getElem?_map, List.getElem?_range h]
  rfl
theorem turn_step {Tb : List (List Int)} {ws : List Int} {n : Nat} {s : Int} (h : ws[n]? = some s) : (turnL Tb (ws.take n)).map (fun z => ((M11.nx Tb (M11.pl s) z.toNat : Nat) : Int)) = turnL Tb (ws.take (n + 1)) := by
  unfold turnL
  rw [List.map_map]
  refine List.map_congr_left fun i _ => ?_
  show ((M11.nx Tb (M11.pl s) ((M11.walk Tb (ws.take n) i : Nat) : Int).toNat : Nat) : Int) = _
  rw [Int.toNat_natCast, walk_take h]
theorem turn_nil (Tb : List (List Int)) : turnL Tb [] = rng 0 Tb.length := by
  unfold turnL rng
  refine List.map_congr_left fun i _ => ?_
  show ((i : Nat) : Int) = 0 + (i : Int)
  rw [Int.zero_add]
theorem none_back {H H2 : Hp} {D : Addr} (s : Same H H2) (h : H2 D = none) : H D = none := by
  cases q : H D with
  | none => rfl
  | some o => rw [s _ _ q] at h; cases h
theorem ok_turning (T : Txt K mg A) : FnOk P w K mg base (CXw P w) 2 A.f_turning A.d_turning ["table", "word"] spTurning := by
  have G_place_of : FnOk P w K mg base (CXw P w) 1 A.f_place_of A.d_place_of ["step"] spPlace := ok_place_of T
  refine T.turning.F.okN sc_turning (fun vs H Q E h => ?_) (fun cdv AA outer s H vs Q E hr h => ?_)
  · obtain ⟨a, wa, Tb, L, ws, rfl, _⟩ := h
    rfl
  · obtain ⟨a, wa, Tb, L, ws, rfl, hTa, hT, hwa, hst, k⟩ := h
    refine ⟨_, (pss_cons (ps_set (i := 2) sc_turning.nd rfl (Or.inl rfl) (pe_listRange1 rfl rfl T.z_list rfl T.z_range (pa_cons (pe_callB call_len_seq rfl T.z_len PySem.boot_len (pa_cons (pv 0) pa_nil)) pa_nil)))
      (pss_cons (ps_for PassesOwn.never rfl (pi_tup (pv 1)) (pg_name (i := 3) sc_turning.nd rfl (Or.inl rfl))
        (pss_cons (ps_set (i := 4) sc_turning.nd rfl (Or.inr rfl) (pe_call (G_place_of) (hr.mono (by decide)) rfl T.place_of.m T.place_of.F.kp T.place_of.b .nil passF (pa_cons (pv 3) pa_nil)))
        (pss_one (ps_setComp (iy := 2) sc_turning.nd rfl (Or.inl rfl) (fns := ["table", "place"]) (ixs := [0, 4]) (cl := _) rfl (pi_list (pv 2)) (compScope2 rfl rfl rfl (by decide +kernel) rfl (by decide +kernel) rfl (by decide +kernel) (by decide +kernel) rfl rfl rfl rfl rfl rfl rfl) (fun C s H ex => (pe_ix (ix_listK (K := K) rfl) (pe_ix (ix_listK (K := K) rfl) (pv 1) (pv 0) (fun _ _ => rfl)) (pv 2) (fun _ _ => rfl)))))))
      (pss_one (ps_ret (pv 2))))), ?_⟩
    try dsimp only [cx_noxK, cx_K]
    refine seq_let2 ?_
    intro u_2 u_1
    obtain ⟨rs, hrs, hrw⟩ := id hTa
    have h300 := hT.top
    have h40 := hT.let2
    have hlen : ((rs.map V.ref).length : Int) = (Tb.length : Int) := by rw [List.length_map, hrw.1]
    refine ⟨_, rfl, a, _, rfl, .inl (SqL.of hrs), Tb.length, by rw [← hlen], by omega, fun l hl => ?_⟩
    have s0 : Same H (upd H l (.lst (intV (rng 0 Tb.length)))) := Same.upd hl
    have hl0 : upd H l (.lst (intV (rng 0 Tb.length))) l = some (.lst (intV (turnL Tb (ws.take 0)))) := by rw [upd_same, List.take_zero, turn_nil]
    generalize upd H l (.lst (intV (rng 0 Tb.length))) = H0 at s0 hl0 ⊢
    refine ⟨_, rfl, wa, rfl, ⟨_, SqT.of (s0 _ _ hwa)⟩, ?_⟩
    let LI_1 : Nat → St → Hp → Prop := fun n σ H2 => ∃ (l : Addr) (v3 v4 : Option V), σ = [some (.ref a), some (.ref wa), some (.ref l), v3, v4] ∧ Same H H2 ∧ H l = none ∧ H2 l = some (.lst (intV (turnL Tb (ws.take n))))
    refine for_tup (K := K) (a := wa) (xs := intV ws) LI_1 ⟨l, none, none, rfl, s0, hl, hl0⟩ (fun n σ H2 _ hh => by obtain ⟨_, _, _, _, s, _⟩ := hh; exact SqT.of (s _ _ hwa)) ?_ ?_
    · intro n y σ H2 hn hh_
      refine goal_let ?_
      intro q_
      obtain ⟨l, v3, v4, rfl, s2, hln, hl2⟩ := hh_
      dsimp only [q_]
      clear q_
      dsimp only [gName]
      refine blk_let1 ?_
      intro D_0 w_1
      obtain ⟨z, rfl, hz⟩ := ints_of_at hn
      have hs := hst z (List.mem_of_getElem? hz)
      have hTa2 := hTa.same s2
      refine ⟨_, rfl, z, rfl, hs.1, Nat.le_trans hs.2 (Nat.le_trans h40 (by decide)), ?_⟩
      refine ⟨_, rfl, l, rfl, ⟨_, SqL.of hl2⟩, ?_⟩
      refine comp_pure (intV (turnL Tb (ws.take n))) (fun v => match v with | .int z' => .int ((M11.nx Tb (M11.pl z) z'.toNat : Nat) : Int) | v => v) (itl_go (SqL.of hl2)) (itl_yld (SqL.of hl2)) (itl_stop (SqL.of hl2)) (by rw [ints_len, turnL_len]; exact Nat.le_trans h300 (by decide)) (fun i x hx R hR => ?_) (fun D hD => ?_)
      · have hi : i < Tb.length := by
          have := (List.getElem?_eq_some_iff.mp hx).1
          rw [ints_len, turnL_len] at this
          exact this
        rw [ints_at (turnL_at hi)] at hx
        have ex := Option.some.inj hx
        subst ex
        have hlt := M11.walk_lt hT (steps_take n hst) hi
        obtain ⟨rs, r, row, h1, h2, h3, h4, h5⟩ := tab_get hTa2 hT hlt
        have hR' : R (V.int ((M11.nx Tb (M11.pl z) (M11.walk Tb (ws.take n) i) : Nat) : Int)) H2 := by
          have : R (V.int ((M11.nx Tb (M11.pl z) ((M11.walk Tb (ws.take n) i : Nat) : Int).toNat : Nat) : Int)) H2 := hR
          rw [Int.toNat_natCast] at this
          exact this
        exact ⟨_, rfl, _, rfl, a, _, _, _, rfl, rfl, SqL.of h1, ref_at h2, _, rfl, r, _, _, _, rfl, rfl, SqL.of h3, atI_nat (ints_at (h5 _ (M11.pl_lt hs))), hR'⟩
      · have e : ((intV (turnL Tb (ws.take n))).map fun v => match v with | .int z' => V.int ((M11.nx Tb (M11.pl z) z'.toNat : Nat) : Int) | v => v) = intV (turnL Tb (ws.take (n + 1))) := by
          rw [← turn_step hz]
          unfold intV
          rw [List.map_map, List.map_map]
          rfl
        rw [e]
        exact ⟨D, _, _, rfl, s2.trans (Same.upd hD), none_back s2 hD, upd_same⟩
    · intro σ H2 hh_
      refine goal_let ?_
      intro q_
      obtain ⟨l, v3, v4, rfl, s2, hln, hl2⟩ := hh_
      dsimp only [q_]
      clear q_
      rw [ints_len, List.take_length] at hl2
      exact ⟨_, rfl, k l H2 s2 hln hl2⟩
def forth (T : List (List Int)) (ws : List (List Nat)) : List (List Int) := ws.map fun u => turnL T (wd u)
def wy (ws : List (List Nat)) (r : Nat) : List Int := wd (ws.getD r [])
def natI (hs : List Nat) : List Int := hs.map fun r => ((r : Nat) : Int)
def spForth : Sp := fun vs H Q _ => ∃ (a : Addr) (T : List (List Int)) (L : Nat), vs = [.ref a] ∧ TabAt H a T ∧ M11.Tab L T ∧ M12.Fc (2 * L) T.flatten T.length ∧ ∀ l ws H', Same H H' → LW L T ws → TabAt H' l (forth T ws) → Q (.ref l) H'
theorem lw_last {L : Nat} {T : List (List Int)} {ws : List (List Nat)} (hT : M11.Tab L T) (hF : M12.Fc (2 * L) T.flatten T.length) (hw : M12.Lw L T ws) {j : Nat} (h0 : 0 < j) (hj : j < T.length) : ∃ (r k : Nat) (u : List Nat), r < j ∧ k < 2 * L ∧ ws[r]? = some u ∧ ws[j]? = some (u ++ [k]) ∧ M11.nx T k r = j := by
  have hL := hT.let1
  obtain ⟨q, a1, a2, a3⟩ := hF.2 j h0 hj
  obtain ⟨u, b1, b2⟩ := hw.2.2 j q h0 hj a2 a3
  have hr : q / (2 * L) < j := by
    rw [Nat.div_lt_iff_lt_mul (by omega)]
    exact a1
  have hk : q % (2 * L) < 2 * L := Nat.mod_lt _ (by omega)
  obtain ⟨r, c1, c2⟩ := hT.val (q / (2 * L)) (q % (2 * L)) (by omega) hk
  have e := M12.flat_at (W := 2 * L) (by omega) hT.row c1 hk
  have e2 : q / (2 * L) * (2 * L) + q % (2 * L) = q := by rw [Nat.mul_comm]; exact Nat.div_add_mod _ _
  rw [e2, a2, c2] at e
  exact ⟨_, _, u, hr, hk, b1, b2, by have := Option.some.inj e; omega⟩
theorem turn_snoc (T : List (List Int)) (w : List Int) (s : Int) : (turnL T w).map (fun z => ((M11.nx T (M11.pl s) z.toNat : Nat) : Int)) = turnL T (w ++ [s]) := by
  unfold turnL
  rw [List.map_map]
  refine List.map_congr_left fun i _ => ?_
  show ((M11.nx T (M11.pl s) ((M11.walk T w i : Nat) : Int).toNat : Nat) : Int) = _
  rw [Int.toNat_natCast, M11.walk_app]
  rfl
theorem wd_steps {L : Nat} {u : List Nat} (h : ∀ k ∈ u, k < 2 * L) : M11.Steps L (wd u) := fun s hs => by
  unfold wd at hs
  obtain ⟨k, hk, rfl⟩ := List.mem_map.mp hs
  exact M12.st_ok (h k hk)
theorem ok_turned_by_least_ways (T : Txt K mg A) : FnOk P w K mg base (CXw P w) 3 A.f_turned_by_least_ways A.d_turned_by_least_ways ["table"] spForth := by
  have G_least_ways : FnOk P w K mg base (CXw P w) 2 A.f_least_ways A.d_least_ways ["table"] spLeast := ok_least_ways T
  have G_turning : FnOk P w K mg base (CXw P w) 2 A.f_turning A.d_turning ["table", "word"] spTurning := ok_turning T
  have G_place_of : FnOk P w K mg base (CXw P w) 1 A.f_place_of A.d_place_of ["step"] spPlace := ok_place_of T
  refine T.turned_by_least_ways.F.okN sc_turned_by_least_ways (fun vs H Q E h => ?_) (fun cdv AA outer s H vs Q E hr h => ?_)
  · obtain ⟨a, TT, L, rfl, _⟩ := h
    rfl
  · obtain ⟨a, TT, L, rfl, hTa, hT, hF, k⟩ := h
    refine ⟨_, (pss_cons (ps_set (i := 1) sc_turned_by_least_ways.nd rfl (Or.inl rfl) (pe_call (G_least_ways) (hr.mono (by decide)) rfl T.least_ways.m T.least_ways.F.kp T.least_ways.b .nil passF (pa_cons (pv 0) pa_nil)))
      (pss_cons (ps_set (i := 2) sc_turned_by_least_ways.nd rfl (Or.inl rfl) (pe_lst (pa_cons (pe_call (G_turning) (hr.mono (by decide)) rfl T.turning.m T.turning.F.kp T.turning.b .nil passF (pa_cons (pv 0) (pa_cons (pe_tup pa_nil) pa_nil))) pa_nil)))
      (pss_cons (ps_for PassesOwn.never rfl (pi_range2 rfl T.z_range (pa_cons pe_int (pa_cons (pe_callB call_len_seq rfl T.z_len PySem.boot_len (pa_cons (pv 0) pa_nil)) pa_nil))) (pg_name (i := 3) sc_turned_by_least_ways.nd rfl (Or.inl rfl))
        (pss_cons (ps_set (i := 4) sc_turned_by_least_ways.nd rfl (Or.inl rfl) (pe_ix ix_tup (pe_ix ix_list (pv 1) (pv 3) (fun _ _ => rfl)) (pe_un un_neg pe_int) (fun _ _ => rfl)))
        (pss_cons (ps_set (i := 5) sc_turned_by_least_ways.nd rfl (Or.inl rfl) (pe_ix ix_list (pv 2) (pe_ix ix_list (pe_ix ix_list (pv 0) (pv 3) (fun _ _ => rfl)) (pe_call (G_place_of) (hr.mono (by decide)) rfl T.place_of.m T.place_of.F.kp T.place_of.b .nil passF (pa_cons (pe_un un_neg (pv 4)) pa_nil)) (fun _ _ => rfl)) (fun _ _ => rfl)))
        (pss_cons (ps_set (i := 6) sc_turned_by_least_ways.nd rfl (Or.inr rfl) (pe_call (G_place_of) (hr.mono (by decide)) rfl T.place_of.m T.place_of.F.kp T.place_of.b .nil passF (pa_cons (pv 4) pa_nil)))
        (pss_one (ps_expr (pe_bm PySem.F.plainAttrs_list PySem.F.slot_list_append PySem.F.type_list_append mt_append (pv 2) (pa_cons (pe_comp (fns := ["table", "place"]) (ixs := [0, 6]) (cl := _) rfl (pi_list (pv 5)) (compScope2 rfl rfl rfl (by decide +kernel) rfl (by decide +kernel) rfl (by decide +kernel) (by decide +kernel) rfl rfl rfl rfl rfl rfl rfl) (fun C s H ex => (pe_ix (ix_listK (K := K) rfl) (pe_ix (ix_listK (K := K) rfl) (pv 1) (pv 0) (fun _ _ => rfl)) (pv 2) (fun _ _ => rfl)))) pa_nil))))))))
      (pss_one (ps_ret (pv 2)))))), ?_⟩
    try dsimp only [cx_noxK, cx_K]
    refine seq_let3 ?_
    intro u_3 u_2 u_1
    have h300 := hT.top
    have h40 := hT.let2
    refine ⟨_, rfl, a, TT, L, rfl, hTa, hT, hF, fun lw ws H1 s1 nlw hWa hLW => ?_⟩
    have hLw := hLW.lw
    have hwl : ws.length = TT.length := hLw.1
    have hTa1 := hTa.same s1
    refine ⟨_, rfl, Nat.zero_le _, fun q0 hq0 => ?_⟩
    have s12 : Same H1 (upd H1 q0 (.tup [])) := Same.upd hq0
    have hq2 : upd H1 q0 (.tup []) q0 = some (.tup (intV [])) := upd_same
    generalize upd H1 q0 (.tup []) = H2 at s12 hq2 ⊢
    refine ⟨a, q0, TT, L, [], rfl, hTa1.same s12, hT, hq2, (fun s hs => by cases hs), fun t0 H3 s23 nt0 ht3 => ?_⟩
    refine ⟨by show 1 ≤ sizeLine; decide, fun lt hlt => ?_⟩
    have s34 : Same H3 (upd H3 lt (.lst [.ref t0])) := Same.upd hlt
    have h4 : upd H3 lt (.lst [.ref t0]) lt = some (.lst ([t0].map V.ref)) := upd_same
    have nt : lt ≠ t0 := fun e => by rw [e, ht3] at hlt; cases hlt
    have s13 := s12.trans s23
    have nlt : H1 lt = none := s13.free hlt
    generalize upd H3 lt (.lst [.ref t0]) = H4 at s34 h4 ⊢
    have s14 := s13.trans s34
    have e0 : ws[0]? = some [] := hLw.2.1
    have hpos := hT.pos
    have R4 : RowsAt H4 [t0] ((forth TT ws).take 1) := by
      have ef : (forth TT ws).take 1 = [turnL TT (wd [])] := by
        unfold forth
        rw [List.take_succ, List.getElem?_map, e0]
        rfl
      rw [ef]
      refine ⟨rfl, fun i r ns g1 g2 => ?_⟩
      rw [List.mem_singleton.mp (List.mem_of_getElem? g1), List.mem_singleton.mp (List.mem_of_getElem? g2)]
      exact s34 _ _ ht3
    obtain ⟨rs0, hrs0, hrw0⟩ := id (hTa1.same s14)
    have hlen : ((rs0.map V.ref).length : Int) = (TT.length : Int) := by rw [List.length_map, hrw0.1]
    refine ⟨_, rfl, a, _, rfl, .inl (SqL.of hrs0), 1, (TT.length : Int), by rw [← hlen], ⟨by omega, by omega, by omega, by omega⟩, ?_⟩
    let LI_1 : Nat → St → Hp → Prop := fun i σ H5 => ∃ (ts : List Addr) (v3 v4 v5 v6 : Option V), σ = [some (.ref a), some (.ref lw), some (.ref lt), v3, v4, v5, v6] ∧ Same H1 H5 ∧ H5 lt = some (.lst (ts.map V.ref)) ∧ RowsAt H5 ts ((forth TT ws).take (1 + i)) ∧ lt ∉ ts
    refine for_range (lo := 1) (n := ((TT.length : Int) - 1).toNat) LI_1
      ⟨[t0], none, none, none, none, rfl, s14, h4, R4, by simpa using nt⟩ ?_ ?_
    · intro i σ H5 hi hh_
      refine goal_let ?_
      intro q_
      obtain ⟨ts, v3, v4, v5, v6, rfl, s15, h5, R5, hnt⟩ := hh_
      dsimp only [q_]
      clear q_
      dsimp only [gName]
      refine blk_let3 ?_
      intro D_0 w_3 w_2 w_1
      have hj : 1 + i < TT.length := by omega
      obtain ⟨r, kk, u, hrj, hkk, hu, hju, hnx⟩ := lw_last hT hF hLw (show 0 < 1 + i by omega) hj
      have hTa5 := hTa1.same s15
      have ej : (1 : Int) + (i : Int) = ((1 + i : Nat) : Int) := by omega
      obtain ⟨wps, hws, hwt⟩ := hWa.same s15
      have hwpl : wps.length = ws.length := by have := hwt.1; rw [List.length_map] at this; exact this
      obtain ⟨wp, g1⟩ := get_some (xs := wps) (i := 1 + i) (by omega)
      have hwp := hwt.2 (1 + i) wp (wd (u ++ [kk])) g1 (by rw [List.getElem?_map, hju]; rfl)
      rw [wd_app, ints_app] at hwp
      have hat : atI (intV (wd u) ++ intV (wd [kk])) (-(1 : Int)) = some (V.int (M12.st kk)) := atI_last _ _
      have hsk := M12.st_ok hkk
      refine ⟨_, rfl, _, rfl, lw, _, _, .ref wp, rfl, rfl, SqL.of hws, (by rw [ej]; exact ref_at g1), _, rfl, wp, _, _, _, rfl, rfl, SqT.of hwp, hat, ?_⟩
      obtain ⟨rs, rp, row, t1, t2, t3, t4, t5⟩ := tab_get hTa5 hT hj
      have hfl := M11.flip_lt hkk
      have hpl : M11.pl (-(M12.st kk)) = M11.flip kk := by rw [M11.pl_flip hsk.1, M12.pl_st]
      have hbk : M11.nx TT (M11.flip kk) (1 + i) = r := by
        have := hT.back r kk (by omega) hkk
        rw [hnx] at this
        exact this
      have hfr : (forth TT ws)[r]? = some (turnL TT (wd u)) := by unfold forth; rw [List.getElem?_map, hu]; rfl
      have htl : ts.length = 1 + i := by
        have := R5.1
        rw [List.length_take] at this
        unfold forth at this
        rw [List.length_map] at this
        omega
      obtain ⟨ap, g3⟩ := get_some (xs := ts) (i := r) (by omega)
      have hap := R5.2 r ap (turnL TT (wd u)) g3 (by rw [List.getElem?_take, if_pos (by omega)]; exact hfr)
      refine ⟨_, rfl, _, rfl, _, rfl, a, _, _, .ref rp, rfl, rfl, SqL.of t1, (by rw [ej]; exact ref_at t2), _, rfl, _, rfl, -(M12.st kk), rfl, by have := hsk.1; omega, by rw [Int.natAbs_neg]; omega, ?_⟩
      rw [hpl]
      refine ⟨rp, _, _, _, rfl, rfl, SqL.of t3, atI_nat (ints_at (t5 _ hfl)), ?_⟩
      rw [hbk]
      refine ⟨lt, _, _, .ref ap, rfl, rfl, SqL.of h5, ref_at g3, ?_⟩
      refine ⟨_, rfl, M12.st kk, rfl, hsk.1, by omega, ?_⟩
      refine ⟨_, rfl, .inl ⟨rfl, _, SqL.of h5⟩, _, rfl, ap, rfl, ⟨_, SqL.of hap⟩, ?_⟩
      have hus : M11.Steps L (wd u) := wd_steps (hLW.ok r u hu).1
      refine comp_pure (intV (turnL TT (wd u))) (fun v => match v with | .int z' => .int ((M11.nx TT (M11.pl (M12.st kk)) z'.toNat : Nat) : Int) | v => v) (itl_go (SqL.of hap)) (itl_yld (SqL.of hap)) (itl_stop (SqL.of hap)) (by rw [ints_len, turnL_len]; exact Nat.le_trans h300 (by decide)) (fun i' x hx R hR => ?_) (fun D hD => ?_)
      · have hi : i' < TT.length := by
          have := (List.getElem?_eq_some_iff.mp hx).1
          rw [ints_len, turnL_len] at this
          exact this
        rw [ints_at (turnL_at hi)] at hx
        have ex := Option.some.inj hx
        subst ex
        have hlt := M11.walk_lt hT hus hi
        obtain ⟨rs, r, row, h1, h2, h3, h4, h5⟩ := tab_get hTa5 hT hlt
        have hR' : R (V.int ((M11.nx TT (M11.pl (M12.st kk)) (M11.walk TT (wd u) i') : Nat) : Int)) H5 := by
          have : R (V.int ((M11.nx TT (M11.pl (M12.st kk)) ((M11.walk TT (wd u) i' : Nat) : Int).toNat : Nat) : Int)) H5 := hR
          rw [Int.toNat_natCast] at this
          exact this
        exact ⟨_, rfl, _, rfl, a, _, _, _, rfl, rfl, SqL.of h1, ref_at h2, _, rfl, r, _, _, _, rfl, rfl, SqL.of h3, atI_nat (ints_at (h5 _ (M11.pl_lt hsk))), hR'⟩
      have e : ((intV (turnL TT (wd u))).map fun v => match v with | .int z' => V.int ((M11.nx TT (M11.pl (M12.st kk)) z'.toNat : Nat) : Int) | v => v) = intV (turnL TT (wd (u ++ [kk]))) := by
        rw [wd_app]
        show _ = intV (turnL TT (wd u ++ [M12.st kk]))
        rw [← turn_snoc]
        unfold intV
        rw [List.map_map, List.map_map]
        rfl
      rw [e]
      have s56 : Same H5 (upd H5 D (.lst (intV (turnL TT (wd (u ++ [kk])))))) := Same.upd hD
      have hD6 : upd H5 D (.lst (intV (turnL TT (wd (u ++ [kk]))))) D = some (.lst (intV (turnL TT (wd (u ++ [kk]))))) := upd_same
      have nD : D ≠ lt := fun z => by rw [z, h5] at hD; cases hD
      generalize upd H5 D (.lst (intV (turnL TT (wd (u ++ [kk]))))) = H6 at s56 hD6 ⊢
      refine ⟨lt, _, _, rfl, rfl, s56 _ _ h5, ?_, ?_⟩
      · rw [List.length_map, htl]
        exact Nat.lt_of_le_of_lt (show 1 + i ≤ 300 by omega) (by decide)
      refine ⟨ts ++ [D], _, _, _, _, rfl, fun b o e => by rw [upd_ne (ne_of_none e nlt)]; exact s56 _ _ (s15 _ _ e), by rw [upd_same, List.map_append]; rfl, ?_, ?_⟩
      · have ef : (forth TT ws).take (1 + (i + 1)) = (forth TT ws).take (1 + i) ++ [turnL TT (wd (u ++ [kk]))] := by
          rw [show 1 + (i + 1) = (1 + i) + 1 by omega, List.take_succ]
          unfold forth
          rw [List.getElem?_map, hju]
          rfl
        rw [ef]
        refine RowsAt.but (w := lt) ((R5.same s56).snoc hD6) But.upd fun z => ?_
        rcases List.mem_append.mp z with z | z
        · exact hnt z
        · exact nD (List.mem_singleton.mp z).symm
      · intro z
        rcases List.mem_append.mp z with z | z
        · exact hnt z
        · exact nD (List.mem_singleton.mp z).symm
    · intro σ H5 hh_
      refine goal_let ?_
      intro q_
      obtain ⟨ts, v3, v4, v5, v6, rfl, s15, h5, R5, hnt⟩ := hh_
      dsimp only [q_]
      clear q_
      rw [List.take_of_length_le (by unfold forth; rw [List.length_map]; omega)] at R5
      exact ⟨_, rfl, k lt ws H5 (s1.trans s15) hLW ⟨ts, h5, R5⟩⟩
theorem many_forth : ¬ (("many" : Str) = "forth") := by decide +kernel
theorem many_behind : ¬ (("many" : Str) = "behind") := by decide +kernel
theorem forth_behind : ¬ (("forth" : Str) = "behind") := by decide +kernel
theorem flds_len (x y z : V) : (putF ("forth" : Str) y (putF ("many" : Str) x [])).length = 2 := by
  show (if ("many" : Str) = "forth" then _ else (("many" : Str), x) :: putF ("forth" : Str) y []).length = 2
  rw [if_neg many_forth]
  rfl
def spInit (C : Addr) : Sp := fun vs H Q _ => ∃ (x dx a : Addr) (T : List (List Int)) (L : Nat), vs = [.ref x, .ref a] ∧ H x = some (.ins C dx []) ∧ TabAt H a T ∧ M11.Tab L T ∧ M12.Fc (2 * L) T.flatten T.length ∧ ∀ (fs : List (Str × V)) (fl d : Addr) (ws : List (List Nat)) (H' : Hp), (∀ b o, H b = some o → b ≠ x → H' b = some o) → H' x = some (.ins C dx fs) → fs.lookup ("many" : Str) = some (.int T.length) → fs.lookup ("forth" : Str) = some (.ref fl) → fs.lookup ("behind" : Str) = some (.ref d) → fs.lookup ("by_home" : Str) = none → H' d = some (.dK []) → H d = none → TabAt H' fl (forth T ws) → LW L T ws → Q .non H'
theorem by_many : ¬ (("by_home" : Str) = "many") := by decide +kernel
theorem by_forth : ¬ (("by_home" : Str) = "forth") := by decide +kernel
theorem by_behind : ¬ (("by_home" : Str) = "behind") := by decide +kernel
theorem ok_Moves___init__ (T : Txt K mg A) : FnOk P w K mg base (CXw P w) 4 A.f_Moves___init__ A.d_Moves___init__ ["self", "table"] (spInit A.c_Moves) := by
  have G_turned_by_least_ways : FnOk P w K mg base (CXw P w) 3 A.f_turned_by_least_ways A.d_turned_by_least_ways ["table"] spForth := ok_turned_by_least_ways T
  refine T.Moves___init__.F.okN sc_Moves___init__ (fun vs H Q E h => ?_) (fun cdv AA outer s H vs Q E hr h => ?_)
  · obtain ⟨x, dx, a, TT, L, rfl, _⟩ := h
    rfl
  · obtain ⟨x, dx, a, TT, L, rfl, hx, hTa, hT, hF, k⟩ := h
    refine ⟨_, (pss_cons (ps_fld (pv 0) (pe_callB call_len_seq rfl T.z_len PySem.boot_len (pa_cons (pv 1) pa_nil)) rfl)
      (pss_cons (ps_fld (pv 0) (pe_call (G_turned_by_least_ways) (hr.mono (by decide)) rfl T.turned_by_least_ways.m T.turned_by_least_ways.F.kp T.turned_by_least_ways.b .nil passF (pa_cons (pv 1) pa_nil)) rfl)
      (pss_one (ps_fld (pv 0) pe_dnewK rfl)))), ?_⟩
    try dsimp only [cx_noxK, cx_K]
    refine seq_let2 ?_
    intro u_2 u_1
    obtain ⟨rs, hrs, hrw⟩ := id hTa
    have nxa : a ≠ x := ne_of hrs hx (by intro z; cases z)
    have hlen : ((rs.map V.ref).length : Int) = (TT.length : Int) := by rw [List.length_map, hrw.1]
    refine ⟨_, rfl, a, _, rfl, .inl (SqL.of hrs), _, rfl, x, A.c_Moves, dx, [], rfl, hx, cl_Moves T, T.n_many, (by show 0 < 1000; decide), ?_⟩
    rw [hlen]
    have kp1 : ∀ b o, H b = some o → b ≠ x → upd H x (.ins A.c_Moves dx (putF "many" (.int (TT.length : Int)) [])) b = some o := fun b o e n => by rw [upd_ne n]; exact e
    have hx1 : upd H x (.ins A.c_Moves dx (putF "many" (.int (TT.length : Int)) [])) x = some (.ins A.c_Moves dx (putF "many" (.int (TT.length : Int)) [])) := upd_same
    generalize upd H x (.ins A.c_Moves dx (putF "many" (.int (TT.length : Int)) [])) = H1 at kp1 hx1 ⊢
    have hTa1 : TabAt H1 a TT := ⟨rs, kp1 _ _ hrs nxa, hrw.1, fun i r ns h1 h2 => by
      have := hrw.2 i r ns h1 h2
      exact kp1 _ _ this (ne_of this hx (by intro z; cases z))⟩
    refine ⟨_, rfl, a, TT, L, rfl, hTa1, hT, hF, fun fl ws H2 s12 hLW hFa => ?_⟩
    have hx2 := s12 _ _ hx1
    refine ⟨_, rfl, x, A.c_Moves, dx, _, rfl, hx2, cl_Moves T, T.n_forth, (by show 1 < 1000; decide), ?_⟩
    have kp3 : ∀ b o, H2 b = some o → b ≠ x → upd H2 x (.ins A.c_Moves dx (putF "forth" (.ref fl) (putF "many" (.int (TT.length : Int)) []))) b = some o := fun b o e n => by rw [upd_ne n]; exact e
    have hx3 : upd H2 x (.ins A.c_Moves dx (putF "forth" (.ref fl) (putF "many" (.int (TT.length : Int)) []))) x = some (.ins A.c_Moves dx (putF "forth" (.ref fl) (putF "many" (.int (TT.length : Int)) []))) := upd_same
    generalize upd H2 x (.ins A.c_Moves dx (putF "forth" (.ref fl) (putF "many" (.int (TT.length : Int)) []))) = H3 at kp3 hx3 ⊢
    intro d hd
    have s34 : Same H3 (upd H3 d (.dK [])) := Same.upd hd
    have hd4 : upd H3 d (.dK []) d = some (.dK []) := upd_same
    generalize upd H3 d (.dK []) = H4 at s34 hd4 ⊢
    have hx4 := s34 _ _ hx3
    refine ⟨_, rfl, x, A.c_Moves, dx, _, rfl, hx4, cl_Moves T, T.n_behind, (by rw [flds_len _ _ (.ref d)]; show 2 < 1000; decide), ?_⟩
    have kp5 : ∀ b o, H4 b = some o → b ≠ x → upd H4 x (.ins A.c_Moves dx (putF "behind" (.ref d) (putF "forth" (.ref fl) (putF "many" (.int (TT.length : Int)) [])))) b = some o := fun b o e n => by rw [upd_ne n]; exact e
    refine k _ fl d ws _ (fun b o e n => kp5 _ _ (s34 _ _ (kp3 _ _ (s12 _ _ (kp1 _ _ e n)) n)) n) upd_same ?_ ?_ ?_ ?_ ?_ ?_ ?_ hLW
    · rw [lookup_putF, if_neg many_behind, lookup_putF, if_neg many_forth, lookup_putF, if_pos rfl]
    · rw [lookup_putF, if_neg forth_behind, lookup_putF, if_pos rfl]
    · rw [lookup_putF, if_pos rfl]
    · rw [lookup_putF, if_neg by_behind, lookup_putF, if_neg by_forth, lookup_putF, if_neg by_many]
      rfl
    · rw [upd_ne (ne_of hd4 hx4 (by intro z; cases z))]
      exact hd4
    · cases q : H d with
      | none => rfl
      | some o =>
        exfalso
        by_cases hdx : d = x
        · rw [hdx, hx3] at hd
          cases hd
        · rw [kp3 _ _ (s12 _ _ (kp1 _ _ q hdx)) hdx] at hd
          cases hd
    · obtain ⟨fs, hfs, hfw⟩ := hFa
      have kq : ∀ b xs, H2 b = some (.lst xs) → upd H4 x (.ins A.c_Moves dx (putF "behind" (.ref d) (putF "forth" (.ref fl) (putF "many" (.int (TT.length : Int)) [])))) b = some (.lst xs) := fun b xs e => by
        have n : b ≠ x := ne_of e hx2 (by intro z; cases z)
        exact kp5 _ _ (s34 _ _ (kp3 _ _ e n)) n
      exact ⟨fs, kq _ _ hfs, hfw.1, fun i r ns h1 h2 => kq _ _ (hfw.2 i r ns h1 h2)⟩
theorem natI_at {hs : List Nat} {i : Nat} {z : Int} (h : (natI hs)[i]? = some z) : ∃ r, hs[i]? = some r ∧ z = ((r : Nat) : Int) := by
  unfold natI at h
  rw [List.getElem?_map] at h
  cases e : hs[i]? with
  | none => rw [e] at h; cases h
  | some r => rw [e] at h; exact ⟨r, rfl, (Option.some.inj h).symm⟩
theorem natI_get {hs : List Nat} {i r : Nat} (h : hs[i]? = some r) : (natI hs)[i]? = some ((r : Nat) : Int) := by
  unfold natI
  rw [List.getElem?_map, h]
  rfl
theorem natI_len (hs : List Nat) : (natI hs).length = hs.length := by unfold natI; rw [List.length_map]
theorem natI_app (F : List Nat) (j : Nat) : natI (F ++ [j]) = natI F ++ [((j : Nat) : Int)] := by unfold natI; rw [List.map_append]; rfl
def rot (p j : Nat) : List Int := (List.range p).map fun x => (((x + j) % p : Nat) : Int)
theorem rot_len (p j : Nat) : (rot p j).length = p := by unfold rot; rw [List.length_map, List.length_range]
theorem ring_at {p x : Nat} (hp : 1 ≤ p) (hx : x < p) : (rng 1 (p - 1) ++ [0])[x]? = some (((x + 1) % p : Nat) : Int) := by
  by_cases h : x < p - 1
  · rw [List.getElem?_append_left (by rw [rng_len]; exact h), rng_at h, Nat.mod_eq_of_lt (by omega)]
    congr 1
    omega
  · have e : x = p - 1 := by omega
    rw [List.getElem?_append_right (by rw [rng_len]; omega), rng_len, e, Nat.sub_self, show p - 1 + 1 = p by omega, Nat.mod_self]
    rfl
theorem ring_fwd {p x : Nat} (hp : 1 ≤ p) (hx : x < p) : M18.sf [rng 1 (p - 1) ++ [0]] x 1 = (x + 1) % p := M18.sf_pos (by decide) (show [rng 1 (p - 1) ++ [0]][0]? = some _ from rfl) (ring_at hp hx)
theorem ring_inv {p x : Nat} (hp : 1 ≤ p) (hx : x < p) : ((x + (p - 1)) % p + 1) % p = x ∧ (x + (p - 1)) % p < p := by
  refine ⟨?_, Nat.mod_lt _ (by omega)⟩
  by_cases h : x = 0
  · rw [h, Nat.zero_add, Nat.mod_eq_of_lt (show p - 1 < p by omega), show p - 1 + 1 = p by omega, Nat.mod_self]
  · rw [show x + (p - 1) = (x - 1) + p by omega, Nat.add_mod_right, Nat.mod_eq_of_lt (show x - 1 < p by omega), show x - 1 + 1 = x by omega, Nat.mod_eq_of_lt hx]
theorem ring_bwd {p x : Nat} (hp : 1 ≤ p) (hx : x < p) : M18.sf [rng 1 (p - 1) ++ [0]] x (-1) = (x + (p - 1)) % p := by
  obtain ⟨e, l⟩ := ring_inv hp hx
  refine M18.sf_neg (by decide) (show [rng 1 (p - 1) ++ [0]][0]? = some _ from rfl) (pm_ring hp).nd ?_
  rw [ring_at hp l, e]
theorem rot_mv {p j : Nat} {g : Nat → Nat} {s : Int} {c : Nat} (hg : ∀ x, x < p → M18.sf [rng 1 (p - 1) ++ [0]] x s = (x + c) % p) : M18.mvs [rng 1 (p - 1) ++ [0]] s (rot p j) = rot p ((j + c) % p) := by
  unfold M18.mvs rot
  rw [List.map_map]
  refine List.map_congr_left fun x hx => ?_
  have hp := List.mem_range.mp hx
  show ((M18.sf [rng 1 (p - 1) ++ [0]] ((((x + j) % p : Nat) : Int)).toNat s : Nat) : Int) = _
  rw [Int.toNat_natCast, hg _ (Nat.mod_lt _ (by omega)), Nat.mod_add_mod, Nat.add_mod_mod, Nat.add_assoc]
def Rg (p : Nat) (u : List Int) : Prop := ∃ j, j < p ∧ u = rot p j
theorem rg_zero {p : Nat} (rows : List (List Int)) (hp : 1 ≤ p) : Rg p (M18.thr rows p []) := ⟨0, by omega, by
  unfold M18.thr rot
  refine List.map_congr_left fun x hx => ?_
  have := List.mem_range.mp hx
  rw [Nat.add_zero, Nat.mod_eq_of_lt this]
  rfl⟩
theorem rg_pm {p : Nat} {u : List Int} (h : Rg p u) : M11.Pm p u := by
  obtain ⟨j, hj, rfl⟩ := h
  refine ⟨rot_len .., ?_, fun z hz => ?_⟩
  · unfold rot
    refine List.pairwise_map.mpr (List.Pairwise.imp_of_mem ?_ List.nodup_range)
    intro a b ha hb hab z
    have ha' := List.mem_range.mp ha
    have hb' := List.mem_range.mp hb
    have e : (a + j) % p = (b + j) % p := by omega
    have ma : (a + j) % p = if a + j < p then a + j else a + j - p := by
      split
      · rw [Nat.mod_eq_of_lt (by assumption)]
      · rw [Nat.mod_eq_sub_mod (by omega), Nat.mod_eq_of_lt (by omega)]
    have mb : (b + j) % p = if b + j < p then b + j else b + j - p := by
      split
      · rw [Nat.mod_eq_of_lt (by assumption)]
      · rw [Nat.mod_eq_sub_mod (by omega), Nat.mod_eq_of_lt (by omega)]
    rw [ma, mb] at e
    apply hab
    split at e <;> split at e <;> omega
  · unfold rot at hz
    obtain ⟨x, hx, rfl⟩ := List.mem_map.mp hz
    have := Nat.mod_lt (x + j) (show 0 < p by omega)
    omega
theorem rg_mv {p : Nat} (hp : 1 ≤ p) {k : Nat} {u : List Int} (hk : k < 2 * [rng 1 (p - 1) ++ [0]].length) (h : Rg p u) : Rg p (M18.mvs [rng 1 (p - 1) ++ [0]] (M12.st k) u) := by
  obtain ⟨j, hj, rfl⟩ := h
  have hk2 : k < 2 := hk
  rcases (show k = 0 ∨ k = 1 by omega) with rfl | rfl
  · exact ⟨_, Nat.mod_lt _ (by omega), rot_mv (g := id) fun x hx => ring_fwd hp hx⟩
  · exact ⟨_, Nat.mod_lt _ (by omega), rot_mv (g := id) fun x hx => ring_bwd hp hx⟩
theorem rg_few {p : Nat} (hp : p ≤ 100) {c : List (List Int)} (hn : c.Nodup) (h : ∀ u ∈ c, Rg p u) : c.length ≤ 300 := by
  have key : ∀ {j : Nat}, j < p → ((rot p j).getD 0 0).toNat = j := fun {j} hj => by
    unfold rot
    rw [List.getD_eq_getElem?_getD, List.getElem?_map, List.getElem?_range (show 0 < p by omega)]
    show ((((0 + j) % p : Nat) : Int)).toNat = j
    rw [Int.toNat_natCast, Nat.zero_add, Nat.mod_eq_of_lt hj]
  refine Nat.le_trans (M18.nodup_code (n := p) (fun u => (u.getD 0 0).toNat) hn (fun u hu => ?_) (fun u hu v hv e => ?_)) (by omega)
  · obtain ⟨j, hj, rfl⟩ := h u hu
    rw [key hj]
    exact hj
  · obtain ⟨i, hi, rfl⟩ := h u hu
    obtain ⟨j, hj, rfl⟩ := h v hv
    have e' : ((rot p i).getD 0 0).toNat = ((rot p j).getD 0 0).toNat := e
    rw [key hi, key hj] at e'
    rw [e']
theorem refs_of (cps : List Addr) (hs : List Nat) : ((intV (natI hs)).map fun v => match v with | .int z => V.ref (cps.getD z.toNat 0) | v => v) = (hs.map fun r => cps.getD r 0).map V.ref := by
  unfold intV natI
  rw [List.map_map, List.map_map, List.map_map]
  refine List.map_congr_left fun r _ => ?_
  show V.ref (cps.getD ((r : Int)).toNat 0) = V.ref (cps.getD r 0)
  rw [Int.toNat_natCast]
def spMany : Sp := fun vs H Q _ => ∃ n r : Nat, vs = [.int n, .int r] ∧ n ≤ 1000 ∧ Q (.int ((M20.cap r n : Nat) : Int)) H
def spCheck (C : Addr) : Sp := fun vs H Q E => ∃ r n : Nat, vs = [.int r, .int n] ∧ 1 ≤ r ∧ r ≤ 1000 ∧ n ≤ 1000 ∧ (M20.cap r n ≤ 5000 → Q .non H) ∧ (5000 < M20.cap r n → E (.ref C) none H)
def spBackL : Sp := fun vs H Q _ => ∃ (a : Addr) (r : List Int) (p : Nat), vs = [.ref a] ∧ H a = some (.lst (intV r)) ∧ M11.Pm p r ∧ p ≤ 1000 ∧ ∀ l t H', Same H H' → H l = none → H' l = some (.lst (intV t)) → M11.InvOf p r t → Q (.ref l) H'
def spGl : Sp := fun vs H Q _ => ∃ (a : Addr) (w : List Int), vs = [.ref a] ∧ H a = some (.tup (intV w)) ∧ w.length ≤ 1000 ∧ ∀ H', Same H H' → Q (.int ((M20.gl w : Nat) : Int)) H'
def MvD (H : Hp) (d : Addr) (T : List (List Int)) (ws : List (List Nat)) (av : Addr → Prop) : Prop := ∃ (kvs : List (Key × V)) (rs : List Nat), H d = some (.dK kvs) ∧ rs.Nodup ∧ (∀ r ∈ rs, r < T.length) ∧ kvs.length = rs.length ∧ ∀ i : Nat, (i ∉ rs ∧ valV kvs (Sum.inl (i : Int)) = none) ∨ ∃ b, valV kvs (Sum.inl (i : Int)) = some (.ref b) ∧ H b = some (.lst (intV (turnL T (M11.back (wy ws i))))) ∧ ¬ av b
structure MvAt (C : Addr) (H : Hp) (m d : Addr) (T : List (List Int)) (ws : List (List Nat)) (av : Addr → Prop) : Prop where
  ins : ∃ (dx fl : Addr) (fs : List (Str × V)) (frs : List Addr), H m = some (.ins C dx fs) ∧ fs.lookup ("many" : Str) = some (.int T.length) ∧ fs.lookup ("forth" : Str) = some (.ref fl) ∧ fs.lookup ("behind" : Str) = some (.ref d) ∧ H fl = some (.lst (frs.map V.ref)) ∧ RowsAt H frs (forth T ws) ∧ ¬ av fl ∧ fs.lookup ("by_home" : Str) = none ∧ ∀ r ∈ frs, ¬ av r
  dct : MvD H d T ws av
def Im (ws : List (List Nat)) (hs : List Nat) : List (List Int) := hs.map (wy ws)
def spBy (C : Addr) : Sp := fun vs H Q _ => ∃ (av : Addr → Prop) (m ha d : Addr) (T : List (List Int)) (L : Nat) (ws : List (List Nat)) (hs : List Nat) (z : Int), vs = [.ref m, .ref ha, .int z] ∧ MvAt C H m d T ws av ∧ (∀ q, av q → ∃ o, H q = some o) ∧ M11.Tab L T ∧ LW L T ws ∧ H ha = some (.lst (intV (natI hs))) ∧ z ≠ 0 ∧ z.natAbs ≤ hs.length ∧ (∀ r ∈ hs, r < T.length) ∧ ∀ l H', But d H H' → MvAt C H' m d T ws av → H' l = some (.lst (intV (turnL T (M18.im1 (Im ws hs) z)))) → Q (.ref l) H'
def spLeads (C : Addr) : Sp := fun vs H Q _ => ∃ (av : Addr → Prop) (m ha ra d : Addr) (T : List (List Int)) (L : Nat) (ws : List (List Nat)) (hs : List Nat) (w : List Int), vs = [.ref m, .ref ha, .ref ra] ∧ MvAt C H m d T ws av ∧ (∀ q, av q → ∃ o, H q = some o) ∧ M11.Tab L T ∧ LW L T ws ∧ H ha = some (.lst (intV (natI hs))) ∧ H ra = some (.tup (intV w)) ∧ M11.Steps hs.length w ∧ w.length ≤ 1000 ∧ (∀ r ∈ hs, r < T.length) ∧ ∀ H', But d H H' → MvAt C H' m d T ws av → Q (.bl (M20.Good T (wy ws) hs w)) H'
def TabN (H H' : Hp) (l : Addr) (rows : List (List Int)) : Prop := ∃ rs : List Addr, H' l = some (.lst (rs.map V.ref)) ∧ RowsAt H' rs rows ∧ H l = none ∧ ∀ r ∈ rs, H r = none
def spLonger (C : Addr) : Sp := fun vs H Q _ => ∃ (la da m d : Addr) (T : List (List Int)) (L n : Nat) (ws : List (List Nat)) (ls : List (List Nat)) (due : List (List Int)), vs = [.ref la, .ref da, .ref m] ∧ TabAt H la (ls.map natI) ∧ WordsAt H da due ∧ MvAt C H m d T ws (fun _ => False) ∧ M11.Tab L T ∧ LW L T ws ∧ (∀ h ∈ ls, h.length = n ∧ ∀ x ∈ h, x < T.length) ∧ n ≤ 1000 ∧ ls.length * T.length ≤ 5000 ∧ due.length ≤ 1000 ∧ (∀ r ∈ due, M11.Steps (n + 1) r ∧ r.length ≤ 1000) ∧ ∀ l H', But d H H' → MvAt C H' m d T ws (fun _ => False) → TabN H H' l ((M20.lng T (wy ws) T.length ls due).map natI) → Q (.ref l) H'
def spHomesBy (C : Addr) : Sp := fun vs H Q _ => ∃ (m ra d : Addr) (T : List (List Int)) (L n : Nat) (ws : List (List Nat)) (rules : List (List Int)), vs = [.ref m, .int n, .ref ra] ∧ WordsAt H ra rules ∧ MvAt C H m d T ws (fun _ => False) ∧ M11.Tab L T ∧ LW L T ws ∧ n ≤ 900 ∧ M20.cap T.length n ≤ 5000 ∧ rules.length ≤ 1000 ∧ (∀ r ∈ rules, M11.Steps n r ∧ r.length ≤ 1000) ∧ ∀ l H', But d H H' → TabN H H' l ((M20.fnd T (wy ws) T.length rules n).map natI) → Q (.ref l) H'
def spHomes (C : Addr) : Sp := fun vs H Q E => ∃ (ra ta : Addr) (T : List (List Int)) (L n : Nat) (rules : List (List Int)), vs = [.int n, .ref ra, .ref ta] ∧ WordsAt H ra rules ∧ TabAt H ta T ∧ M11.Tab L T ∧ M12.Fc (2 * L) T.flatten T.length ∧ n ≤ 900 ∧ rules.length ≤ 1000 ∧ (∀ r ∈ rules, M11.Steps n r ∧ r.length ≤ 1000) ∧ (M20.cap T.length n ≤ 5000 → ∀ ws l H', Same H H' → LW L T ws → TabN H H' l ((M20.fnd T (wy ws) T.length rules n).map natI) → Q (.ref l) H') ∧ (5000 < M20.cap T.length n → E (.ref C) none H)
def spRules (K : PySem.W.Frag) : Sp := fun vs H Q _ => ∃ (a : Addr) (ns : List Int) (n : Nat) (z : Int), vs = [.ref a, .int n, .int z] ∧ SqL K H a (intV ns) ∧ ns.length ≤ 63 ∧ 1 ≤ n ∧ n ≤ 3 ∧ 0 ≤ z ∧ ∀ l rules H', Same H H' → WordsAt H' l rules → rules.length ≤ 200 → (∀ r ∈ rules, M11.Steps n r ∧ r.length ≤ 1000) → Q (.ref l) H'
def spLists : Sp := fun vs H Q _ => ∃ n N : Nat, vs = [.int n, .int N] ∧ n ≤ 900 ∧ 1 ≤ N ∧ N ≤ 1000 ∧ M20.cap N n ≤ 5000 ∧ ∀ l H', Same H H' → TabN H H' l ((M20.alls N n).map natI) → Q (.ref l) H'
def dueL (come : List (List Int)) (p n : Nat) (u0 : List Int) (rules : List (List Int)) : List (List Nat) := (M20.alls come.length n).filter fun h => rules.all fun r => decide (M18.thr (h.map fun r => come.getD r []) p r = u0)
def spDue : Sp := fun vs H Q _ => ∃ (ra ca : Addr) (come : List (List Int)) (p n : Nat) (u0 : List Int) (rules : List (List Int)), vs = [.int n, .ref ra, .ref ca] ∧ WordsAt H ra rules ∧ WordsAt H ca come ∧ come[0]? = some u0 ∧ (∀ u ∈ come, M11.Pm p u) ∧ p ≤ 100 ∧ come.length ≤ 1000 ∧ n ≤ 900 ∧ M20.cap come.length n ≤ 5000 ∧ rules.length ≤ 1000 ∧ (∀ r ∈ rules, M11.Steps n r) ∧ ∀ l H', Same H H' → TabAt H' l ((dueL come p n u0 rules).map natI) → Q (.ref l) H'
def spSame : Sp := fun vs H Q _ => ∃ (a b : Addr) (X : List (List Int)), vs = [.ref a, .ref b] ∧ TabAt H a X ∧ TabAt H b X ∧ ∀ H', Same H H' → Q (.bl true) H'
def spRefused : Sp := fun vs H Q _ => ∃ (ra ta : Addr) (T : List (List Int)) (L n : Nat) (rules : List (List Int)), vs = [.int n, .ref ra, .ref ta] ∧ WordsAt H ra rules ∧ TabAt H ta T ∧ M11.Tab L T ∧ M12.Fc (2 * L) T.flatten T.length ∧ n ≤ 900 ∧ rules.length ≤ 1000 ∧ (∀ r ∈ rules, M11.Steps n r ∧ r.length ≤ 1000) ∧ 5000 < M20.cap T.length n ∧ ∀ H', Same H H' → Q (.bl true) H'
theorem ok_turned_back (T : Txt K mg A) : FnOk P w K mg base (CXw P w) 1 A.f_turned_back A.d_turned_back ["turned"] spBackL := by
  refine T.turned_back.F.okN sc_turned_back (fun vs H Q E h => ?_) (fun cdv AA outer s H vs Q E hr h => ?_)
  · obtain ⟨a, r, p, rfl, _⟩ := h
    rfl
  · obtain ⟨a, r, p, rfl, ha, hP, hp, k⟩ := h
    refine ⟨_, (pss_cons (ps_set (i := 1) sc_turned_back.nd rfl (Or.inl rfl) (pe_op op_rep (pe_lst (pa_cons pe_int pa_nil)) (pe_callB call_len_seq rfl T.z_len PySem.boot_len (pa_cons (pv 0) pa_nil))))
      (pss_cons (ps_for PassesOwn.never rfl (pi_enumL rfl T.z_enumerate (pv 0)) (pg_tup rfl (pgs_cons (pg_name (i := 2) sc_turned_back.nd rfl (Or.inl rfl)) (pgs_cons (pg_name (i := 3) sc_turned_back.nd rfl (Or.inl rfl)) pgs_nil)))
        (pss_one (ps_asg (pv 2) (pg_sub (pv 1) (pv 3) set_list))))
      (pss_one (ps_ret (pv 1))))), ?_⟩
    try dsimp only [cx_noxK, cx_K]
    refine seq_let2 ?_
    intro u_2 u_1
    refine ⟨by show 1 ≤ sizeLine; decide, fun q hq => ?_⟩
    have sq : Same H (upd H q (.lst [.int 0])) := Same.upd hq
    have hqq : upd H q (.lst [.int 0]) q = some (.lst [.int 0]) := upd_same
    generalize upd H q (.lst [.int 0]) = H3 at sq hqq ⊢
    have hlen : ((intV r).length : Int) = (p : Int) := by rw [ints_len, hP.len]
    refine ⟨_, rfl, a, _, rfl, .inl (SqL.of (sq _ _ ha)), q, _, _, rfl, rfl, hqq, by omega, by omega, ?_, fun t ht => ?_⟩
    · show 1 * ((intV r).length : Int).toNat ≤ sizeLine
      rw [hlen, Int.toNat_natCast]
      exact Nat.le_trans (show 1 * p ≤ 1000 by omega) (by decide)
    rw [hlen, Int.toNat_natCast, rep_zero]
    have st : Same H3 (upd H3 t (.lst (intV (List.replicate p (0 : Int))))) := Same.upd ht
    have htt : upd H3 t (.lst (intV (List.replicate p (0 : Int)))) t = some (.lst (intV (List.replicate p (0 : Int)))) := upd_same
    generalize upd H3 t (.lst (intV (List.replicate p (0 : Int)))) = H4 at st htt ⊢
    have s4 := sq.trans st
    have nt : H t = none := sq.free ht
    have tra : a ≠ t := fun z => by
      have := ha
      rw [z, nt] at this
      cases this
    refine ⟨_, rfl, a, rfl, ⟨_, SqL.of (s4 _ _ ha)⟩, ?_⟩
    let LI_1 : Nat → St → Hp → Prop := fun n σ H5 => ∃ (tv : List Int) (v2 v3 : Option V), σ = [some (.ref a), some (.ref t), v2, v3] ∧ But t H4 H5 ∧ H5 t = some (.lst (intV tv)) ∧ M11.InvTo p r tv n
    refine for_enumL (K := K) (a := a) (xs := intV r) LI_1
      ⟨_, _, _, rfl, fun _ _ _ e => e, htt, List.length_replicate .., fun k j hk => by omega⟩ (fun n σ H5 _ hh => by obtain ⟨_, _, _, _, b, _⟩ := hh; exact SqL.of (b _ _ tra (s4 _ _ ha))) ?_ ?_
    · intro n v σ H5 q5 hn hq5 hh_
      refine goal_let ?_
      intro q_
      obtain ⟨tv, v2, v3, rfl, b5, ht5, hto⟩ := hh_
      dsimp only [q_]
      clear q_
      obtain ⟨z, rfl, hz⟩ := ints_of_at hn
      have hn' : n < p := by rw [← hP.len]; exact (List.getElem?_eq_some_iff.mp hz).1
      obtain ⟨j, hj, hjp⟩ := hP.at hn'
      have ez : z = (j : Int) := Option.some.inj (hz.symm.trans hj)
      subst ez
      have s56 := Same.upd (o := .tup [.int (n : Int), .int (j : Int)]) hq5
      refine ⟨q5, _, rfl, SqT.of upd_same, rfl, _, _, rfl, _, _, rfl, rfl, ?_⟩
      generalize upd H5 q5 (.tup [.int (n : Int), .int (j : Int)]) = H6 at s56 ⊢
      refine ⟨_, rfl, _, rfl, _, rfl, t, _, _, j, rfl, rfl, s56 _ _ ht5, ixN_nat (by rw [ints_len, hto.1]; exact hjp), ?_⟩
      rw [ints_set]
      exact ⟨_, _, _, rfl, (b5.trans (fun q o _ e => s56 _ _ e)).trans But.upd, upd_same, hto.step hP hj hjp⟩
    · intro σ H5 hh_
      refine goal_let ?_
      intro q_
      obtain ⟨tv, v2, v3, rfl, b5, ht5, hto⟩ := hh_
      dsimp only [q_]
      clear q_
      rw [ints_len, hP.len] at hto
      exact ⟨_, rfl, k t tv _ (fun b o e => b5 _ _ (ne_of_none e nt) (s4 _ _ e)) nt ht5 (hto.all hP)⟩
theorem gl_mx (w : List Int) : mxD (w.map fun y => ((y.natAbs : Nat) : Int)) = ((M20.gl w : Nat) : Int) := by
  have key : ∀ (r : List Int) (m : Nat), (r.map fun y => ((y.natAbs : Nat) : Int)).foldl (fun m x => if x > m then x else m) ((m : Nat) : Int) = ((r.foldl (fun m s => max m s.natAbs) m : Nat) : Int) := by
    intro r
    induction r with
    | nil => intro m; rfl
    | cons s r ih =>
      intro m
      rw [List.map_cons, List.foldl_cons, List.foldl_cons, ← ih]
      congr 1
      by_cases z : ((s.natAbs : Nat) : Int) > (m : Int)
      · rw [if_pos z]; omega
      · rw [if_neg z]; omega
  cases w with
  | nil => rfl
  | cons s r =>
    show (r.map fun y => ((y.natAbs : Nat) : Int)).foldl (fun m x => if x > m then x else m) ((s.natAbs : Nat) : Int) = _
    rw [key]
    unfold M20.gl
    rw [List.foldl_cons, Nat.zero_max]
theorem ok_greatest_letter (T : Txt K mg A) : FnOk P w K mg base (CXw P w) 1 A.f_greatest_letter A.d_greatest_letter ["rule"] spGl := by
  refine T.greatest_letter.F.okN sc_greatest_letter (fun vs H Q E h => ?_) (fun cdv AA outer s H vs Q E hr h => ?_)
  · obtain ⟨a, ws, rfl, _⟩ := h
    rfl
  · obtain ⟨a, ws, rfl, ha, hwl, k⟩ := h
    refine ⟨_, (pss_one (ps_ret (pe_maxD rfl rfl T.z_max (pe_comp (fns := []) (ixs := []) (cl := []) rfl (pi_tup (pv 0)) (compScope0 (by decide +kernel) (by decide +kernel) rfl (by decide +kernel) rfl) (fun C s H ex => (pe_callB call_abs rfl T.z_abs PyProof.Rows.boot_abs (pa_cons (pv 0) pa_nil))))))), ?_⟩
    try dsimp only [cx_noxK, cx_K]
    refine ⟨_, rfl, a, rfl, ⟨_, SqT.of ha⟩, ?_⟩
    refine comp_pure (intV ws) (fun v => match v with | .int y => .int ((y.natAbs : Nat) : Int) | v => v) (itt_go (SqT.of ha)) (itt_yld (SqT.of ha)) (itt_stop (SqT.of ha)) (by rw [ints_len]; exact Nat.le_trans hwl (by decide)) (fun i x hx R hR => ?_) (fun D hD => ?_)
    · obtain ⟨y, rfl, hy⟩ := ints_of_at hx
      have e : (if y < 0 then -y else y) = ((y.natAbs : Nat) : Int) := by split <;> omega
      refine ⟨_, rfl, y, rfl, ?_⟩
      rw [e]
      exact hR
    have e : ((intV ws).map fun v => match v with | .int y => V.int ((y.natAbs : Nat) : Int) | v => v) = intV (ws.map fun y => ((y.natAbs : Nat) : Int)) := by
      unfold intV
      rw [List.map_map, List.map_map]
      rfl
    rw [e]
    refine ⟨D, _, rfl, SqL.of upd_same, ?_⟩
    rw [gl_mx]
    exact k _ (Same.upd hD)
theorem ok_check_lists (T : Txt K mg A) : FnOk P w K mg base (CXw P w) 1 A.f_check_lists A.d_check_lists ["rooms", "letters"] (spCheck A.c_TooGreat) := by
  refine T.check_lists.F.okX sc_check_lists (fun vs H Q E h => ?_) (fun cdv AA outer s H vs Q E hr h => ?_)
  · obtain ⟨r, n, rfl, _⟩ := h
    rfl
  · obtain ⟨r, n, rfl, hr1, hr2, hn, k, kE⟩ := h
    refine ⟨_, (pss_cons (ps_set (i := 2) sc_check_lists.nd rfl (Or.inl rfl) pe_int)
      (pss_one (ps_for PassesOwn.leaving rfl (pi_range1 rfl T.z_range (pa_cons (pv 1) pa_nil)) (pg_name (i := 3) sc_check_lists.nd rfl (Or.inl rfl))
        (pss_cons (ps_set (i := 2) sc_check_lists.nd rfl (Or.inl rfl) (pe_op op_mul (pv 2) (pv 0)))
        (pss_one (ps_if (pt_cmpR op_gt (pv 2) (pe_glob (v := .int 5000) rfl T.g_MOST_LISTS ⟨_, rfl⟩) (nomark _))
          (pss_one (ps_raise (E := E) rfl rfl T.m_TooGreat T.x_TooGreat (pe_joined (pj_cons (pe_strX (l := [116, 104, 101, 114, 101, 32, 97, 114, 101, 32, 109, 111, 114, 101, 32, 116, 104, 97, 110, 32]) rfl) (pj_cons (pe_fmtI (pe_glob (v := .int 5000) rfl T.g_MOST_LISTS ⟨_, rfl⟩)) (pj_cons (pe_strX (l := [32, 108, 105, 115, 116, 115, 32, 111, 102, 32]) rfl) (pj_cons (pe_fmtI (pv 1)) (pj_cons (pe_strX (l := [32, 111, 117, 116, 32, 111, 102, 32]) rfl) (pj_cons (pe_fmtI (pv 0)) (pj_cons (pe_strX (l := [32, 114, 111, 111, 109, 115]) rfl) pj_nil)))))))) (fun pins σ H s h' e vs I hm q => leave_made I hm q)))
          pss_nil)))))), ?_⟩
    try dsimp only [cx_noxK, cx_K]
    refine seq_let1 ?_
    intro u_1
    refine ⟨_, rfl, (n : Int), rfl, by omega, by omega, ?_⟩
    let LI_1 : Nat → St → Hp → Prop := fun i σ H2 => ∃ (v3 : Option V), σ = [some (.int r), some (.int n), some (.int ((M20.cap r i : Nat) : Int)), v3] ∧ H2 = H ∧ M20.cap r i ≤ 5000
    refine for_range (lo := 0) (n := ((n : Int)).toNat) LI_1 ⟨none, rfl, rfl, by show 1 ≤ 5000; decide⟩ ?_ ?_
    · rintro i σ H2 hi ⟨v3, rfl, rfl, hc⟩
      dsimp only [gName]
      refine blk_let1 ?_
      intro D_0 w_1
      have hin : i < n := by omega
      refine ⟨_, rfl, _, rfl, _, _, rfl, rfl, .inl ⟨by omega, by omega⟩, ?_⟩
      have e : M20.cap r (i + 1) = min 5001 (M20.cap r i * r) := rfl
      obtain ⟨m, hm⟩ : ∃ m, m = M20.cap r i * r := ⟨_, rfl⟩
      rw [← hm] at e
      have hmm : ((M20.cap r i : Nat) : Int) * (r : Int) = (m : Int) := by rw [hm, Int.natCast_mul]
      simp only [hmm]
      refine ⟨_, rfl, _, _, rfl, rfl, _, rfl, ite2 (fun h => ?_) (fun h => ?_)⟩
      · have h' : (5000 : Int) < (m : Int) := of_decide_eq_true h
        have hd1 := digs_len (n := (5000 : Int)) (by omega) (by omega)
        have hd2 := digs_len (n := (n : Int)) (by omega) (by omega)
        have hd3 := digs_len (n := (r : Int)) (by omega) (by omega)
        refine ⟨_, rfl, by (simp only [List.length_append, List.length_cons, List.length_nil]; omega), _, rfl, by decide, _, rfl, by (simp only [List.length_append, List.length_cons, List.length_nil]; omega), _, rfl, by (simp only [List.length_append, List.length_cons, List.length_nil]; omega), _, rfl, _, rfl, by omega, _, rfl, by (simp only [List.length_append, List.length_cons, List.length_nil]; omega), _, rfl, by (simp only [List.length_append, List.length_cons, List.length_nil]; omega), _, rfl, _, rfl, by omega, _, rfl, by (simp only [List.length_append, List.length_cons, List.length_nil]; omega), _, rfl, by (simp only [List.length_append, List.length_cons, List.length_nil]; omega), by (simp only [List.length_append, List.length_cons, List.length_nil]; omega), ?_⟩
        exact kE (M20.cap_up hr1 (j := i + 1) (n := n) (by omega) (by omega))
      · have h' : ¬ (5000 : Int) < (m : Int) := fun q => h (decide_eq_true q)
        have e2 : M20.cap r (i + 1) = m := by omega
        rw [← e2]
        exact ⟨_, rfl, rfl, by omega⟩
    · rintro σ H2 ⟨v3, rfl, rfl, hc⟩
      rw [Int.toNat_natCast] at hc
      exact k hc
theorem ok__law_many (T : Txt K mg A) : FnOk P w K mg base (CXw P w) 1 A.f__law_many A.d__law_many ["_law_letters", "_law_rooms"] spMany := by
  refine T._law_many.F.okN sc__law_many (fun vs H Q E h => ?_) (fun cdv AA outer s H vs Q E hr h => ?_)
  · obtain ⟨n, r, rfl, _⟩ := h
    rfl
  · obtain ⟨n, r, rfl, hn, k⟩ := h
    refine ⟨_, (pss_cons (ps_set (i := 2) sc__law_many.nd rfl (Or.inl rfl) pe_int)
      (pss_cons (ps_for PassesOwn.never rfl (pi_range1 rfl T.z_range (pa_cons (pv 0) pa_nil)) (pg_name (i := 3) sc__law_many.nd rfl (Or.inl rfl))
        (pss_one (ps_set (i := 2) sc__law_many.nd rfl (Or.inl rfl) (pe_callB (call_min2 rfl) rfl T.z_min PyProof.Rows.boot_min (pa_cons pe_int (pa_cons (pe_op op_mul (pv 2) (pv 1)) pa_nil))))))
      (pss_one (ps_ret (pv 2))))), ?_⟩
    try dsimp only [cx_noxK, cx_K]
    refine seq_let2 ?_
    intro u_2 u_1
    refine ⟨_, rfl, (n : Int), rfl, by omega, by omega, ?_⟩
    let LI_1 : Nat → St → Hp → Prop := fun i σ H2 => ∃ (v3 : Option V), σ = [some (.int n), some (.int r), some (.int ((M20.cap r i : Nat) : Int)), v3] ∧ H2 = H
    refine for_range (lo := 0) (n := ((n : Int)).toNat) LI_1 ⟨none, rfl, rfl⟩ ?_ ?_
    · rintro i σ H2 hi ⟨v3, rfl, rfl⟩
      dsimp only [gName]
      refine blk_let0 ?_
      intro D_0 
      have hc := M20.cap_le r i
      refine ⟨_, rfl, _, rfl, _, _, rfl, rfl, .inl ⟨by omega, by omega⟩, _, _, rfl, some (.int (0 + (i : Int))), ?_, rfl⟩
      refine congrArg (fun z => [some (V.int (n : Int)), some (V.int (r : Int)), some (V.int z), some (V.int (0 + (i : Int)))]) ?_
      have e : M20.cap r (i + 1) = min 5001 (M20.cap r i * r) := rfl
      rw [e, ← Int.natCast_mul]
      generalize M20.cap r i * r = m
      split <;> omega
    · rintro σ H2 ⟨v3, rfl, rfl⟩
      rw [Int.toNat_natCast]
      exact ⟨_, rfl, k⟩
theorem turn_pm {L : Nat} {T : List (List Int)} {w : List Int} (hT : M11.Tab L T) (hw : M11.Steps L w) : M11.Pm T.length (turnL T w) := by
  have bk : ∀ i, i < T.length → M11.walk T (M11.back w) (M11.walk T w i) = i := fun i hi => by rw [← M11.walk_app]; exact M11.walk_back hT hw hi
  refine ⟨turnL_len .., ?_, fun z hz => ?_⟩
  · unfold turnL
    refine List.pairwise_map.mpr (List.Pairwise.imp_of_mem ?_ List.nodup_range)
    intro a b ha hb hab z
    have h1 := bk a (List.mem_range.mp ha)
    have h2 := bk b (List.mem_range.mp hb)
    have e : M11.walk T w a = M11.walk T w b := by omega
    rw [e, h2] at h1
    exact hab h1.symm
  · unfold turnL at hz
    obtain ⟨i, hi, rfl⟩ := List.mem_map.mp hz
    have := M11.walk_lt hT hw (List.mem_range.mp hi)
    omega
theorem turn_inv {L : Nat} {T : List (List Int)} {w : List Int} (hT : M11.Tab L T) (hw : M11.Steps L w) {t : List Int} (h : M11.InvOf T.length (turnL T w) t) : t = turnL T (M11.back w) := by
  refine M19.inv_one (turn_pm hT hw) h ⟨turnL_len .., fun k j hk => ?_⟩
  have hkl : k < T.length := by have := (List.getElem?_eq_some_iff.mp hk).1; rw [turnL_len] at this; exact this
  rw [turnL_at hkl] at hk
  have ej : M11.walk T w k = j := by have := Option.some.inj hk; omega
  have hlt := M11.walk_lt hT hw hkl
  rw [ej] at hlt
  rw [turnL_at hlt, ← ej, ← M11.walk_app, M11.walk_back hT hw hkl]
theorem MvAt.keep {C : Addr} {H H' : Hp} {m d : Addr} {T : List (List Int)} {ws : List (List Nat)} {av : Addr → Prop} (h : MvAt C H m d T ws av) (k1 : ∀ b C dx fs, H b = some (.ins C dx fs) → H' b = some (.ins C dx fs)) (k2 : ∀ b xs, ¬ av b → H b = some (.lst xs) → H' b = some (.lst xs)) (k3 : ∀ kvs, H d = some (.dK kvs) → H' d = some (.dK kvs)) : MvAt C H' m d T ws av := by
  obtain ⟨⟨dx, fl, fs, frs, a1, a2, a3, a4, a5, a6, a7, a9, a8⟩, kvs, rs, b1, b2, b3, b4, b5⟩ := h
  refine ⟨⟨dx, fl, fs, frs, k1 _ _ _ _ a1, a2, a3, a4, k2 _ _ a7 a5, ⟨a6.1, fun i r ns h1 h2 => k2 _ _ (a8 r (List.mem_of_getElem? h1)) (a6.2 i r ns h1 h2)⟩, a7, a9, a8⟩, kvs, rs, k3 _ b1, b2, b3, b4, fun i => ?_⟩
  rcases b5 i with h | ⟨b, h1, h2, h3⟩
  · exact .inl h
  · exact .inr ⟨b, h1, k2 _ _ h3 h2, h3⟩
theorem MvAt.same {C : Addr} {H H' : Hp} {m d : Addr} {T : List (List Int)} {ws : List (List Nat)} {av : Addr → Prop} (h : MvAt C H m d T ws av) (s : Same H H') : MvAt C H' m d T ws av := h.keep (fun _ _ _ _ e => s _ _ e) (fun _ _ _ e => s _ _ e) (fun _ e => s _ _ e)
theorem MvAt.off {C : Addr} {H : Hp} {m d : Addr} {T : List (List Int)} {ws : List (List Nat)} {av : Addr → Prop} (h : MvAt C H m d T ws av) : MvAt C H m d T ws (fun _ => False) := by
  obtain ⟨⟨dx, fl, fs, frs, a1, a2, a3, a4, a5, a6, a7, a9, a8⟩, kvs, rs, b1, b2, b3, b4, b5⟩ := h
  refine ⟨⟨dx, fl, fs, frs, a1, a2, a3, a4, a5, a6, fun z => z, a9, fun _ _ z => z⟩, kvs, rs, b1, b2, b3, b4, fun i => ?_⟩
  rcases b5 i with h | ⟨b, h1, h2, h3⟩
  · exact .inl h
  · exact .inr ⟨b, h1, h2, fun z => z⟩
theorem MvAt.on {C : Addr} {H : Hp} {m d : Addr} {T : List (List Int)} {ws : List (List Nat)} {q : Addr} (h : MvAt C H m d T ws (fun _ => False)) (hq : H q = none) : MvAt C H m d T ws (fun b => b = q) := by
  obtain ⟨⟨dx, fl, fs, frs, a1, a2, a3, a4, a5, a6, a7, a9, a8⟩, kvs, rs, b1, b2, b3, b4, b5⟩ := h
  refine ⟨⟨dx, fl, fs, frs, a1, a2, a3, a4, a5, a6, ne_of_none a5 hq, a9, fun r hr => ?_⟩, kvs, rs, b1, b2, b3, b4, fun i => ?_⟩
  · obtain ⟨ns, e⟩ := rows_mem a6 hr
    exact ne_of_none e hq
  · rcases b5 i with h | ⟨b, h1, h2, h3⟩
    · exact .inl h
    · exact .inr ⟨b, h1, h2, ne_of_none h2 hq⟩
theorem av_but {C : Addr} {H H' : Hp} {m d : Addr} {T : List (List Int)} {ws : List (List Nat)} {av : Addr → Prop} (h : ∀ q, av q → ∃ o, H q = some o) (b : But d H H') (M : MvAt C H' m d T ws av) : ∀ q, av q → ∃ o, H' q = some o := fun q hq => by
  obtain ⟨o, ho⟩ := h q hq
  by_cases e : q = d
  · obtain ⟨kvs, rs, hd, -⟩ := M.dct
    exact ⟨_, by rw [e]; exact hd⟩
  · exact ⟨o, b _ _ e ho⟩
theorem wy_ok {L : Nat} {T : List (List Int)} {ws : List (List Nat)} (hLW : LW L T ws) {r : Nat} (hr : r < T.length) : M11.Steps L (wy ws r) ∧ M11.walk T (wy ws r) 0 = r ∧ (forth T ws)[r]? = some (turnL T (wy ws r)) := by
  have hwl : ws.length = T.length := hLW.lw.1
  have hu : ws[r]? = some (ws[r]'(by omega)) := List.getElem?_eq_getElem (by omega)
  have ew : wy ws r = wd (ws[r]'(by omega)) := by unfold wy; rw [List.getD_eq_getElem?_getD, hu]; rfl
  obtain ⟨a1, a2, a3⟩ := hLW.ok r _ hu
  rw [ew]
  refine ⟨wd_steps a1, a2, ?_⟩
  unfold forth
  rw [List.getElem?_map, hu]
  rfl
theorem im_steps {L : Nat} {T : List (List Int)} {ws : List (List Nat)} (hLW : LW L T ws) {hs : List Nat} (hhs : ∀ r ∈ hs, r < T.length) : ∀ w ∈ Im ws hs, M11.Steps L w := fun w hw => by
  unfold Im at hw
  obtain ⟨r, hr, rfl⟩ := List.mem_map.mp hw
  exact (wy_ok hLW (hhs r hr)).1
theorem ok_Moves_by_home (T : Txt K mg A) : FnOk P w K mg base (CXw P w) 2 A.f_Moves_by_home A.d_Moves_by_home ["self", "home", "step"] (spBy A.c_Moves) := by
  have G_turned_back : FnOk P w K mg base (CXw P w) 1 A.f_turned_back A.d_turned_back ["turned"] spBackL := ok_turned_back T
  refine T.Moves_by_home.F.okN sc_Moves_by_home (fun vs H Q E h => ?_) (fun cdv AA outer s H vs Q E hr h => ?_)
  · obtain ⟨av, m, ha, d, TT, L, ws, hs, z, rfl, _⟩ := h
    rfl
  · obtain ⟨av, m, ha, d, TT, L, ws, hs, z, rfl, hM, hav, hT, hLW, hha, hz0, hzl, hhs, k⟩ := h
    have hu2 := hu_of hr
    refine ⟨_, (pss_cons (ps_set (i := 3) sc_Moves_by_home.nd rfl (Or.inl rfl) (pe_ix ix_list (pv 1) (pe_op op_sub (pe_callB call_abs rfl T.z_abs PyProof.Rows.boot_abs (pa_cons (pv 2) pa_nil)) pe_int) (fun _ _ => rfl)))
      (pss_cons (ps_if (pt_cmpR op_gt (pv 2) pe_int (nomark _))
        (pss_one (ps_ret (pe_ix ix_list (pe_fld (pv 0) rfl) (pv 3) (fun _ _ => rfl))))
        pss_nil)
      (pss_cons (ps_cut (ps_if (pt_cmp (pc_dnotin hu2 (pv 3) (pe_fld (pv 0) rfl)))
        (pss_one (ps_dput hu2 (pe_fld (pv 0) rfl) (pv 3) (pe_call (G_turned_back) (hr.mono (by decide)) rfl T.turned_back.m T.turned_back.F.kp T.turned_back.b .nil passF (pa_cons (pe_ix ix_list (pe_fld (pv 0) rfl) (pv 3) (fun _ _ => rfl)) pa_nil)) rfl))
        pss_nil))
      (pss_one (ps_ret (pe_dget hu2 (pe_fld (pv 0) rfl) (pv 3) (fun _ _ => rfl))))))), ?_⟩
    try dsimp only [cx_noxK, cx_K]
    refine seq_let3 ?_
    intro u_3 u_2 u_1
    have h300 := hT.top
    obtain ⟨dx, fl, fs, frs, hm, hmany, hforth, hbeh, hfrs, hfrw, naf, nby, nar⟩ := hM.ins
    have hwl : ws.length = TT.length := hLW.lw.1
    have ez : (if z < 0 then -z else z) - 1 = ((z.natAbs - 1 : Nat) : Int) := by split <;> omega
    obtain ⟨r, g0⟩ := get_some (xs := hs) (i := z.natAbs - 1) (by omega)
    have hrl := hhs r (List.mem_of_getElem? g0)
    have eIm : (Im ws hs).getD (z.natAbs - 1) [] = wy ws r := by unfold Im; rw [List.getD_eq_getElem?_getD, List.getElem?_map, g0]; rfl
    obtain ⟨hst, hw0, hfr⟩ := wy_ok hLW hrl
    have hffl : frs.length = TT.length := by
      have := hfrw.1
      unfold forth at this
      rw [List.length_map, hwl] at this
      exact this
    obtain ⟨fp, g1⟩ := get_some (xs := frs) (i := r) (by omega)
    have hfp := hfrw.2 r fp (turnL TT (wy ws r)) g1 hfr
    refine ⟨_, rfl, _, rfl, z, rfl, _, _, rfl, rfl, ha, _, _, _, rfl, rfl, SqL.of hha, (by rw [ez]; exact atI_nat (ints_at (natI_get g0))), ?_⟩
    refine ⟨_, rfl, _, _, rfl, rfl, _, rfl, ite2 (fun h => ?_) (fun h => ?_)⟩
    · have h' : 0 < z := of_decide_eq_true h
      refine ⟨_, rfl, m, A.c_Moves, dx, _, _, rfl, hm, cl_Moves T, T.n_forth, hforth, _, rfl, fl, _, _, .ref fp, rfl, rfl, SqL.of hfrs, ref_at g1, ?_⟩
      refine k fp H (fun _ _ _ e => e) hM ?_
      unfold M18.im1
      rw [if_pos h', eIm]
      exact hfp
    · have h' : ¬ 0 < z := fun q => h (decide_eq_true q)
      have him : M18.im1 (Im ws hs) z = M11.back (wy ws r) := by unfold M18.im1; rw [if_neg h', eIm]
      rw [him] at k
      obtain ⟨kvs, rs, hd, hnd, hrlt, hkl, hkv⟩ := id hM.dct
      let LG_1 : St → Hp → Prop := fun σ' H' => σ' = [some (.ref m), some (.ref ha), some (.int z), some (.int r)] ∧ But d H H' ∧ MvAt A.c_Moves H' m d TT ws av ∧ ∃ kvs b, H' d = some (.dK kvs) ∧ valV kvs (Sum.inl (r : Int)) = some (.ref b) ∧ H' b = some (.lst (intV (turnL TT (M11.back (wy ws r)))))
      refine ⟨LG_1, ?_, ?_⟩
      · refine blk_let0 ?_
        intro D_0
        refine ⟨_, rfl, _, rfl, m, A.c_Moves, dx, _, _, rfl, hm, cl_Moves T, T.n_behind, hbeh, d, _, rfl, DGet.k (k := Sum.inl (r : Int)) hd, _, rfl, ?_⟩
        rcases hkv r with ⟨hnr, hv⟩ | ⟨b, hv, hb, nb⟩
        · rw [hv]
          refine iteT ?_
          refine ⟨_, rfl, m, A.c_Moves, dx, _, _, rfl, hm, cl_Moves T, T.n_forth, hforth, _, rfl, fl, _, _, .ref fp, rfl, rfl, SqL.of hfrs, ref_at g1, fp, _, TT.length, rfl, hfp, turn_pm hT hst, by omega, fun l t H1 s1 nl h1 hI => ?_⟩
          have nal : ¬ av l := fun z => by
            obtain ⟨o, ho⟩ := hav l z
            rw [nl] at ho
            cases ho
          rw [turn_inv hT hst hI] at h1
          have hd1 := s1 _ _ hd
          have hkl2 : kvs.length ≤ 300 := by
            have := M11.nodup_len TT.length rs hnd hrlt
            omega
          refine ⟨_, rfl, m, A.c_Moves, dx, _, _, rfl, s1 _ _ hm, cl_Moves T, T.n_behind, hbeh, _, rfl, d, _, rfl, DPut.k (k := Sum.inl (r : Int)) hd1 (Nat.lt_of_le_of_lt hkl2 (by decide)), ?_⟩
          have hM1 := hM.same s1
          have kL : ∀ b xs, H1 b = some (.lst xs) → upd H1 d (.dK (putK kvs (Sum.inl (r : Int)) (.ref l))) b = some (.lst xs) := fun b xs e => by
            rw [upd_ne (ne_of e hd1 (by intro z; cases z))]
            exact e
          have hd2 : upd H1 d (.dK (putK kvs (Sum.inl (r : Int)) (.ref l))) d = some (.dK (putK kvs (Sum.inl (r : Int)) (.ref l))) := upd_same
          refine ⟨rfl, fun b o n e => by rw [upd_ne n]; exact s1 _ _ e, ⟨⟨dx, fl, fs, frs, ?_, hmany, hforth, hbeh, kL _ _ (s1 _ _ hfrs), ⟨hfrw.1, fun i q ns h1 h2 => kL _ _ (s1 _ _ (hfrw.2 i q ns h1 h2))⟩, naf, nby, nar⟩, putK kvs (Sum.inl (r : Int)) (.ref l), rs ++ [r], hd2, ?_, ?_, ?_, fun i => ?_⟩, _, l, hd2, ?_, kL _ _ h1⟩
          · rw [upd_ne (ne_of (s1 _ _ hm) hd1 (by intro z; cases z))]
            exact s1 _ _ hm
          · refine List.nodup_append.mpr ⟨hnd, by simp, fun x hx y hy z => ?_⟩
            rw [List.mem_singleton.mp hy] at z
            rw [z] at hx
            exact hnr hx
          · intro x hx
            rcases List.mem_append.mp hx with hx | hx
            · exact hrlt x hx
            · rw [List.mem_singleton.mp hx]
              exact hrl
          · rw [putK_new _ hv, List.length_append, List.length_append, hkl]
            rfl
          · rw [valV_put]
            by_cases e : i = r
            · subst e
              rw [if_pos rfl]
              exact .inr ⟨l, rfl, kL _ _ h1, nal⟩
            · rw [if_neg (fun z => e (by injection z with z; omega))]
              rcases hkv i with ⟨hni, hvi⟩ | ⟨b, hvi, hbi, nbi⟩
              · exact .inl ⟨fun z => by
                  rcases List.mem_append.mp z with z | z
                  · exact hni z
                  · exact e (List.mem_singleton.mp z), hvi⟩
              · exact .inr ⟨b, hvi, kL _ _ (s1 _ _ hbi), nbi⟩
          · rw [valV_put, if_pos rfl]
        · rw [hv]
          exact iteF ⟨rfl, fun _ _ _ e => e, hM, kvs, b, hd, hv, hb⟩
      intro σ' H1 hh_
      refine goal_let ?_
      intro q_
      obtain ⟨rfl, b1, M1, kvs, b, hd, hv, hb⟩ := hh_
      dsimp only [q_]
      clear q_
      obtain ⟨dx, fl, fs, frs, hm, hmany, hforth, hbeh, -⟩ := M1.ins
      have dg : DGet H1 d (.int (r : Int)) (some (.ref b)) := by
        have := DGet.k (k := Sum.inl (r : Int)) hd
        rw [hv] at this
        exact this
      exact ⟨_, rfl, m, A.c_Moves, dx, _, _, rfl, hm, cl_Moves T, T.n_behind, hbeh, _, rfl, d, _, rfl, dg, k b H1 b1 M1 hb⟩
theorem ok_leads_home (T : Txt K mg A) : FnOk P w K mg base (CXw P w) 3 A.f_leads_home A.d_leads_home ["moves", "home", "rule"] (spLeads A.c_Moves) := by
  have G_Moves_by_home : FnOk P w K mg base (CXw P w) 2 A.f_Moves_by_home A.d_Moves_by_home ["self", "home", "step"] (spBy A.c_Moves) := ok_Moves_by_home T
  refine T.leads_home.F.okN sc_leads_home (fun vs H Q E h => ?_) (fun cdv AA outer s H vs Q E hr h => ?_)
  · obtain ⟨av, m, ha, ra, d, TT, L, ws, hs, w0, rfl, _⟩ := h
    rfl
  · obtain ⟨av, m, ha, ra, d, TT, L, ws, hs, w0, rfl, hM, hav, hT, hLW, hha, hra, hst, hwl, hhs, k⟩ := h
    have hu2 := hu_of hr
    refine ⟨_, (pss_cons (ps_set (i := 3) sc_leads_home.nd rfl (Or.inl rfl) pe_dnewK)
      (pss_cons (ps_for PassesOwn.never rfl (pi_tup (pv 2)) (pg_name (i := 4) sc_leads_home.nd rfl (Or.inl rfl))
        (pss_one (ps_cut (ps_if (pt_cmp (pc_dnotin hu2 (pv 4) (pv 3)))
          (pss_one (ps_dput hu2 (pv 3) (pv 4) (pe_meth (pv 0) (cl_Moves T) T.Moves_by_home.m (G_Moves_by_home) (hr.mono (by decide)) T.Moves_by_home.b .nil passF (pa_cons (pv 1) (pa_cons (pv 4) pa_nil))) rfl))
          pss_nil))))
      (pss_cons (ps_set (i := 5) sc_leads_home.nd rfl (Or.inl rfl) pe_int)
      (pss_cons (ps_for PassesOwn.never rfl (pi_tup (pv 2)) (pg_name (i := 4) sc_leads_home.nd rfl (Or.inl rfl))
        (pss_one (ps_set (i := 5) sc_leads_home.nd rfl (Or.inl rfl) (pe_ix ix_list (pe_dget hu2 (pv 3) (pv 4) (fun _ _ => rfl)) (pv 5) (fun _ _ => rfl)))))
      (pss_one (ps_ret (pe_cmpR op_eq (pv 5) pe_int (nomark _)))))))), ?_⟩
    try dsimp only [cx_noxK, cx_K]
    refine seq_let4 ?_
    intro u_4 u_3 u_2 u_1
    have hIm := im_steps hLW hhs
    have hIl : (Im ws hs).length = hs.length := by unfold Im; rw [List.length_map]
    intro t ht
    have st : Same H (upd H t (.dK [])) := Same.upd ht
    have ht1 : upd H t (.dK []) t = some (.dK []) := upd_same
    generalize upd H t (.dK []) = H1 at st ht1 ⊢
    have hM1 := hM.same st
    obtain ⟨kvd, rsd, hdd, -⟩ := id hM.dct
    have ntd : t ≠ d := fun e => by rw [e, hdd] at ht; cases ht
    have nrd : ra ≠ d := ne_of hra hdd (by intro z; cases z)
    have nhd : ha ≠ d := ne_of hha hdd (by intro z; cases z)
    refine ⟨_, rfl, ra, rfl, ⟨_, SqT.of (st _ _ hra)⟩, ?_⟩
    refine for_tup (K := K) (a := ra) (xs := intV w0) (fun i σ H2 => ∃ (kvs : List (Key × V)) (v4 : Option V), σ = [some (.ref m), some (.ref ha), some (.ref ra), some (.ref t), v4, none] ∧ But d H H2 ∧ MvAt A.c_Moves H2 m d TT ws av ∧ H2 t = some (.dK kvs) ∧ kvs.length ≤ i ∧ ∀ s : Int, (s ∉ w0.take i ∧ valV kvs (Sum.inl s) = none) ∨ ∃ b, valV kvs (Sum.inl s) = some (.ref b) ∧ H2 b = some (.lst (intV (turnL TT (M18.im1 (Im ws hs) s)))))
      ⟨[], none, rfl, fun b o _ e => st _ _ e, hM1, ht1, Nat.le_refl _, fun s => .inl ⟨by simp, rfl⟩⟩ (fun i σ H2 _ hh => by obtain ⟨_, _, _, b, _⟩ := hh; exact SqT.of (b _ _ nrd hra)) ?_ ?_
    · intro i y σ H2 hi hh_
      refine goal_let ?_
      intro q_
      obtain ⟨kvs, v4, rfl, b2, M2, ht2, hkl, hkv⟩ := hh_
      dsimp only [q_]
      clear q_
      obtain ⟨s, rfl, hsx⟩ := ints_of_at hi
      have hil : i < w0.length := (List.getElem?_eq_some_iff.mp hsx).1
      have hss := hst s (List.mem_of_getElem? hsx)
      have etk : w0.take (i + 1) = w0.take i ++ [s] := by rw [List.take_succ, hsx]; rfl
      refine ⟨_, ?_, fun _ _ h => h⟩
      refine ⟨_, rfl, _, rfl, t, _, rfl, DGet.k (k := Sum.inl s) ht2, _, rfl, ?_⟩
      rcases hkv s with ⟨hns, hv⟩ | ⟨b, hv, hb⟩
      · rw [hv]
        refine iteT ?_
        obtain ⟨dx, fl, fs, frs, hm, _, _, _, _, _, _, nby, -⟩ := M2.ins
        refine ⟨_, rfl, m, dx, fs, rfl, hm, nby, _, rfl, _, rfl, av, m, ha, d, TT, L, ws, hs, s, rfl, M2, av_but hav b2 M2, hT, hLW, b2 _ _ nhd hha, hss.1, hss.2, hhs, fun l H3 b3 M3 h3 => ?_⟩
        have ht3 := b3 _ _ ntd ht2
        refine ⟨_, rfl, _, rfl, t, _, rfl, DPut.k (k := Sum.inl s) ht3 (Nat.lt_of_le_of_lt (show kvs.length ≤ 1000 by omega) (by decide)), ?_⟩
        have kL : ∀ b xs, H3 b = some (.lst xs) → upd H3 t (.dK (putK kvs (Sum.inl s) (.ref l))) b = some (.lst xs) := fun b xs e => by
          rw [upd_ne (ne_of e ht3 (by intro z; cases z))]
          exact e
        refine ⟨_, _, rfl, fun b o n e => ?_, M3.keep (fun b C dx fs e => ?_) (fun b xs _ e => kL b xs e) (fun kv e => ?_), upd_same, ?_, fun s' => ?_⟩
        · rw [upd_ne (ne_of_none e ht)]
          exact b3 _ _ n (b2 _ _ n e)
        · rw [upd_ne (ne_of e ht3 (by intro z; cases z))]
          exact e
        · rw [upd_ne (Ne.symm ntd)]
          exact e
        · rw [putK_new _ hv, List.length_append]
          simp only [List.length_cons, List.length_nil]
          omega
        · rw [valV_put]
          by_cases e : s' = s
          · subst e
            rw [if_pos rfl]
            exact .inr ⟨l, rfl, kL _ _ h3⟩
          · rw [if_neg (fun z => e (by injection z))]
            rcases hkv s' with ⟨hni, hvi⟩ | ⟨b, hvi, hbi⟩
            · refine .inl ⟨fun z => ?_, hvi⟩
              rw [etk] at z
              rcases List.mem_append.mp z with z | z
              · exact hni z
              · exact e (List.mem_singleton.mp z)
            · obtain ⟨kv3, rs3, hd3, -⟩ := id M2.dct
              exact .inr ⟨b, hvi, kL _ _ (b3 _ _ (ne_of hbi hd3 (by intro z; cases z)) hbi)⟩
      · rw [hv]
        refine iteF ⟨kvs, _, rfl, b2, M2, ht2, by omega, fun s' => ?_⟩
        by_cases e : s' = s
        · subst e
          exact .inr ⟨b, hv, hb⟩
        · rcases hkv s' with ⟨hni, hvi⟩ | h
          · refine .inl ⟨fun z => ?_, hvi⟩
            rw [etk] at z
            rcases List.mem_append.mp z with z | z
            · exact hni z
            · exact e (List.mem_singleton.mp z)
          · exact .inr h
    · intro σ H2 hh_
      refine goal_let ?_
      intro q_
      obtain ⟨kvs, v4, rfl, b2, M2, ht2, hkl, hkv⟩ := hh_
      dsimp only [q_]
      clear q_
      rw [ints_len, List.take_length] at hkv
      refine ⟨_, rfl, ra, rfl, ⟨_, SqT.of (b2 _ _ nrd hra)⟩, ?_⟩
      refine for_tup (K := K) (a := ra) (xs := intV w0) (fun i σ H3 => ∃ (v4 : Option V), σ = [some (.ref m), some (.ref ha), some (.ref ra), some (.ref t), v4, some (.int ((M11.walk TT (M18.fill (Im ws hs) (w0.take i)) 0 : Nat) : Int))] ∧ H3 = H2)
        ⟨_, rfl, rfl⟩ (fun i σ H3 _ hh => by obtain ⟨_, _, e⟩ := hh; exact by rw [e]; exact SqT.of (b2 _ _ nrd hra)) ?_ ?_
      · rintro i y σ H3 hi ⟨v4, rfl, rfl⟩
        obtain ⟨s, rfl, hsx⟩ := ints_of_at hi
        have hlt := M11.walk_lt hT (M18.fill_steps hIm : M11.Steps L (M18.fill (Im ws hs) (w0.take i))) hT.pos
        rcases hkv s with ⟨hns, hv⟩ | ⟨b, hv, hb⟩
        · exact absurd (List.mem_of_getElem? hsx) hns
        have dg : DGet H3 t (.int s) (some (.ref b)) := by
          have := DGet.k (k := Sum.inl s) ht2
          rw [hv] at this
          exact this
        refine ⟨_, rfl, _, rfl, t, _, rfl, dg, _, rfl, b, _, _, _, rfl, rfl, SqL.of hb, atI_nat (ints_at (turnL_at hlt)), ?_⟩
        rw [fill_take hsx, M11.walk_app]
        exact ⟨_, rfl, rfl⟩
      · rintro σ H3 ⟨v4, rfl, rfl⟩
        rw [ints_len, List.take_length]
        refine ⟨_, rfl, rfl, ?_⟩
        have e : decide (V.int ((M11.walk TT (M18.fill (Im ws hs) w0) 0 : Nat) : Int) = V.int 0) = M20.Good TT (wy ws) hs w0 := by
          unfold M20.Good
          rw [decide_eq_decide]
          exact ⟨fun z => by injection z with z; exact Int.natCast_inj.mp z, fun z => by rw [show M11.walk TT (M18.fill (Im ws hs) w0) 0 = 0 from z]; rfl⟩
        rw [e]
        exact k H3 b2 M2
theorem comp_bool {K : PySem.W.Frag} {H : Hp} {a : Addr} {fv : St} {te : TE} {Q : VK} {rs : List Addr} {us : List (List Int)} (I : Hp → Prop) (f : List Int → Bool) (hI : I H) (hrs : ∀ H2, I H2 → H2 a = some (.lst (rs.map V.ref))) (hrw : ∀ H2, I H2 → TupsAt H2 rs us) (hz : us.length ≤ 1000)
    (he : ∀ (H2 : Hp) (r : Addr) (u : List Int) (R : VK), I H2 → u ∈ us → H2 r = some (.tup (intV u)) → (∀ H3, I H3 → R (.bl (f u)) H3) → te (some (.ref r) :: fv) H2 R)
    (hQ : ∀ D H2, I H2 → H2 D = none → Q (.ref D) (upd H2 D (.lst ((us.map f).map V.bl)))) : CompGo te fv Q (Itl K a) H := by
  have hrl := (hrw H hI).1
  refine ⟨fun i m ys H2 => m = rs.length - i ∧ i ≤ rs.length ∧ ys = ((us.take i).map f).map V.bl ∧ I H2, ⟨rs.length, by simp, Nat.zero_le _, rfl, hI⟩, ?_⟩
  rintro i m ys H2 ⟨rfl, hi, rfl, i2⟩
  have hlen : (((us.take i).map f).map V.bl).length = i := by rw [List.length_map, List.length_map, List.length_take]; omega
  by_cases hlt : i < rs.length
  · have g1 : rs[i]? = some rs[i] := List.getElem?_eq_getElem hlt
    have hil : i < us.length := by omega
    have g2 : us[i]? = some us[i] := List.getElem?_eq_getElem hil
    have hr := (hrw H2 i2).2 i _ _ g1 g2
    refine .inr ⟨itl_go (SqL.of (hrs H2 i2)) i (by rw [List.length_map]; exact hlt), by rw [hlen]; exact Nat.lt_of_le_of_lt (show i ≤ 1000 by omega) (by decide), fun x H3 hy => ?_⟩
    obtain ⟨rfl, hx⟩ := itl_yld (SqL.of (hrs H2 i2)) i x H3 (by rw [List.length_map]; exact hlt) hy
    rw [List.getElem?_map, g1] at hx
    have ex : V.ref rs[i] = x := Option.some.inj hx
    subst ex
    refine he H3 _ _ _ i2 (List.mem_of_getElem? g2) hr fun H4 i4 => ⟨rs.length - (i + 1), by omega, rfl, hlt, ?_, i4⟩
    rw [List.take_succ, g2, List.map_append, List.map_append]
    rfl
  · have e : i = rs.length := by omega
    refine .inl ⟨?_, by rw [hlen]; exact Nat.le_trans (show i ≤ 1000 by omega) (by decide), fun D hD => ?_⟩
    · have := itl_stop (K := K) (SqL.of (hrs H2 i2))
      rw [List.length_map, ← e] at this
      exact this
    · rw [List.take_of_length_le (by omega)]
      exact hQ D H2 i2 hD
theorem words_but {H H' : Hp} {a d : Addr} {ws : List (List Int)} {kvs : List (Key × V)} (h : WordsAt H a ws) (b : But d H H') (hd : H d = some (.dK kvs)) : WordsAt H' a ws := by
  obtain ⟨ps, h1, h2⟩ := h
  exact ⟨ps, b _ _ (ne_of h1 hd (by intro z; cases z)) h1, h2.keep fun p xs e => b _ _ (ne_of e hd (by intro z; cases z)) e⟩
theorem all_id (f : List Int → Bool) (us : List (List Int)) : (us.map f).all id = us.all f := by rw [List.all_map]; rfl
theorem lng_step (T : List (List Int)) (wy : Nat → List Int) (N : Nat) {ls : List (List Nat)} (due : List (List Int)) {i : Nat} {h : List Nat} (hi : ls[i]? = some h) : M20.lng T wy N (ls.take (i + 1)) due = M20.lng T wy N (ls.take i) due ++ (M20.ext N h).filter fun h => due.all (M20.Good T wy h) := by
  unfold M20.lng
  rw [List.take_succ, hi, List.flatMap_append]
  simp
theorem lng_len (T : List (List Int)) (wy : Nat → List Int) (N : Nat) (due : List (List Int)) : ∀ ls : List (List Nat), (M20.lng T wy N ls due).length ≤ ls.length * N
  | [] => by simp [M20.lng]
  | h :: ls => by
    have ih := lng_len T wy N due ls
    unfold M20.lng at ih ⊢
    rw [List.flatMap_cons, List.length_append, List.length_cons, Nat.succ_mul]
    have := List.length_filter_le (fun h => due.all (M20.Good T wy h)) (M20.ext N h)
    rw [M20.ext_len] at this
    omega
theorem natI_snoc (h : List Nat) (x : Nat) : intV (natI h) ++ [V.int (x : Int)] = intV (natI (h ++ [x])) := by rw [natI_app, ints_app]; rfl
theorem ok_longer (T : Txt K mg A) : FnOk P w K mg base (CXw P w) 4 A.f_longer A.d_longer ["lists", "due", "moves"] (spLonger A.c_Moves) := by
  have G_leads_home : FnOk P w K mg base (CXw P w) 3 A.f_leads_home A.d_leads_home ["moves", "home", "rule"] (spLeads A.c_Moves) := ok_leads_home T
  refine T.longer.F.okN sc_longer (fun vs H Q E h => ?_) (fun cdv AA outer s H vs Q E hr h => ?_)
  · obtain ⟨la, da, m, d, TT, L, n, ws, ls, due, rfl, _⟩ := h
    rfl
  · obtain ⟨la, da, m, d, TT, L, n, ws, ls, due, rfl, hLa, hDa, hM, hT, hLW, hls, hn, h5, hdl, hdu, k⟩ := h
    refine ⟨_, (pss_cons (ps_set (i := 3) sc_longer.nd rfl (Or.inl rfl) (pe_lst pa_nil))
      (pss_cons (ps_for PassesOwn.never rfl (pi_list (pv 0)) (pg_name (i := 4) sc_longer.nd rfl (Or.inl rfl))
        (pss_one (ps_for PassesOwn.never rfl (pi_range1 rfl T.z_range (pa_cons (pe_fld (pv 2) rfl) pa_nil)) (pg_name (i := 5) sc_longer.nd rfl (Or.inl rfl))
          (pss_cons (ps_set (i := 6) sc_longer.nd rfl (Or.inr rfl) (pe_op op_cat (pv 4) (pe_lst (pa_cons (pv 5) pa_nil))))
          (pss_one (ps_cut (ps_if (pt_val (pe_callB (call_all rfl) rfl T.z_all PyProof.Rows.boot_all (pa_cons (pe_comp (fns := ["moves", "home"]) (ixs := [2, 6]) (cl := _) rfl (pi_list (pv 1)) (compScope2 rfl rfl rfl (by decide +kernel) rfl (by decide +kernel) rfl (by decide +kernel) (by decide +kernel) rfl rfl rfl rfl rfl rfl rfl) (fun C s H ex => (pe_call (G_leads_home) (hr.mono (by decide)) rfl T.leads_home.m T.leads_home.F.kp T.leads_home.b .nil passF (pa_cons (pv 1) (pa_cons (pv 2) (pa_cons (pv 0) pa_nil)))))) pa_nil)))
            (pss_one (ps_expr (pe_bm PySem.F.plainAttrs_list PySem.F.slot_list_append PySem.F.type_list_append mt_append (pv 3) (pa_cons (pv 6) pa_nil))))
            pss_nil)))))))
      (pss_one (ps_ret (pv 3))))), ?_⟩
    try dsimp only [cx_noxK, cx_K]
    refine seq_let2 ?_
    intro u_2 u_1
    have h300 := hT.top
    have hpos := hT.pos
    obtain ⟨kvd, rsd, hdd, -⟩ := id hM.dct
    obtain ⟨lps, hlps, hlpr⟩ := id hLa
    obtain ⟨dps, hdps, hdpt⟩ := id hDa
    have hlpl : lps.length = ls.length := by have := hlpr.1; rw [List.length_map] at this; exact this
    refine ⟨Nat.zero_le _, fun lf hlf => ?_⟩
    have s1 : Same H (upd H lf (.lst [])) := Same.upd hlf
    have h1 : upd H lf (.lst []) lf = some (.lst (([] : List Addr).map V.ref)) := upd_same
    generalize upd H lf (.lst []) = H1 at s1 h1 ⊢
    have nld : la ≠ d := ne_of hlps hdd (by intro z; cases z)
    have ndd : da ≠ d := ne_of hdps hdd (by intro z; cases z)
    have nfd : lf ≠ d := fun e => by rw [e, hdd] at hlf; cases hlf
    have hM1 := (hM.on hlf).same s1
    have hav1 : ∀ q, q = lf → ∃ o, H1 q = some o := fun q e => by rw [show q = lf from e]; exact ⟨_, h1⟩
    refine ⟨_, rfl, la, rfl, ⟨_, SqL.of (s1 _ _ hlps)⟩, ?_⟩
    refine for_list (K := K) (a := la) (xs := lps.map V.ref) (fun i σ H2 => ∃ (fps : List Addr) (v4 v5 v6 : Option V), σ = [some (.ref la), some (.ref da), some (.ref m), some (.ref lf), v4, v5, v6] ∧ But d H H2 ∧ MvAt A.c_Moves H2 m d TT ws (fun b => b = lf) ∧ H2 lf = some (.lst (fps.map V.ref)) ∧ RowsAt H2 fps ((M20.lng TT (wy ws) TT.length (ls.take i) due).map natI) ∧ lf ∉ fps ∧ ∀ p ∈ fps, H p = none)
      ⟨[], none, none, none, rfl, fun b o _ e => s1 _ _ e, hM1, h1, ⟨rfl, fun i r ns g1 => by simp at g1⟩, by simp, fun p hp => by simp at hp⟩ (fun i σ H2 _ hh => by obtain ⟨_, _, _, _, _, b, _⟩ := hh; exact SqL.of (b _ _ nld hlps)) ?_ ?_
    · intro i y σ H2 hi hh_
      refine goal_let ?_
      intro q_
      obtain ⟨fps, v4, v5, v6, rfl, b2, M2, h2, R2, nf2, fr2⟩ := hh_
      dsimp only [q_]
      clear q_
      rw [List.getElem?_map] at hi
      have hil : i < lps.length := by
        cases e : lps[i]? with
        | none => rw [e] at hi; cases hi
        | some r => exact (List.getElem?_eq_some_iff.mp e).1
      obtain ⟨rp, q1⟩ := get_some (xs := lps) (i := i) hil
      rw [q1] at hi
      have ey : V.ref rp = y := Option.some.inj hi
      subst ey
      obtain ⟨h0, q2⟩ := get_some (xs := ls) (i := i) (by omega)
      obtain ⟨hh1, hh2⟩ := hls h0 (List.mem_of_getElem? q2)
      have hrp0 := hlpr.2 i rp (natI h0) q1 (by rw [List.getElem?_map, q2]; rfl)
      have nrd : rp ≠ d := ne_of hrp0 hdd (by intro z; cases z)
      obtain ⟨dx, fl, fs, frs, hm, hmany, -⟩ := M2.ins
      rw [lng_step TT (wy ws) TT.length due q2]
      have hlen2 := lng_len TT (wy ws) TT.length due (ls.take i)
      have hll : (ls.take i).length * TT.length + TT.length ≤ 5000 := by
        rw [List.length_take, Nat.min_eq_left (by omega), ← Nat.succ_mul]
        exact Nat.le_trans (Nat.mul_le_mul_right _ (by omega)) h5
      generalize M20.lng TT (wy ws) TT.length (ls.take i) due = got at R2 hlen2
      refine ⟨_, rfl, m, A.c_Moves, dx, _, _, rfl, hm, cl_Moves T, T.n_many, hmany, (TT.length : Int), rfl, by omega, by omega, ?_⟩
      refine for_range (lo := 0) (n := ((TT.length : Nat) : Int).toNat) (fun j σ H3 => ∃ (fps : List Addr) (v5 v6 : Option V), σ = [some (.ref la), some (.ref da), some (.ref m), some (.ref lf), some (.ref rp), v5, v6] ∧ But d H H3 ∧ MvAt A.c_Moves H3 m d TT ws (fun b => b = lf) ∧ H3 lf = some (.lst (fps.map V.ref)) ∧ RowsAt H3 fps ((got ++ ((List.range j).map fun x => h0 ++ [x]).filter fun h => due.all (M20.Good TT (wy ws) h)).map natI) ∧ lf ∉ fps ∧ ∀ p ∈ fps, H p = none)
        ⟨fps, _, _, rfl, b2, M2, h2, by rw [List.range_zero]; show RowsAt H2 fps ((got ++ []).map natI); rw [List.append_nil]; exact R2, nf2, fr2⟩ ?_ ?_
      · intro j σ H3 hj hh_
        refine goal_let ?_
        intro q_
        obtain ⟨fps, v5, v6, rfl, b3, M3, h3, R3, nf3, fr3⟩ := hh_
        dsimp only [q_]
        clear q_
        dsimp only [gName]
        refine seq_let1 ?_
        intro w_1
        have hjT : j < TT.length := by omega
        rw [Int.zero_add]
        refine ⟨_, rfl, _, rfl, by show 1 ≤ sizeLine; decide, fun q hq => ?_⟩
        have s34 : Same H3 (upd H3 q (.lst [.int (j : Int)])) := Same.upd hq
        have hq4 : upd H3 q (.lst [.int (j : Int)]) q = some (.lst [.int (j : Int)]) := upd_same
        generalize upd H3 q (.lst [.int (j : Int)]) = H4 at s34 hq4 ⊢
        refine ⟨rp, q, _, _, rfl, rfl, s34 _ _ (b3 _ _ nrd hrp0), hq4, ?_, fun hm' hhm => ?_⟩
        · rw [ints_len, natI_len, hh1]
          exact Nat.le_trans (show n + 1 ≤ 2000 by omega) (by decide)
        rw [natI_snoc]
        have s45 : Same H4 (upd H4 hm' (.lst (intV (natI (h0 ++ [j]))))) := Same.upd hhm
        have hh5 : upd H4 hm' (.lst (intV (natI (h0 ++ [j])))) hm' = some (.lst (intV (natI (h0 ++ [j])))) := upd_same
        generalize upd H4 hm' (.lst (intV (natI (h0 ++ [j])))) = H5 at s45 hh5 ⊢
        have s35 := s34.trans s45
        have M5 := M3.same s35
        have b5 : But d H H5 := fun b o n e => s35 _ _ (b3 _ _ n e)
        obtain ⟨kv5, rs5, hd5, -⟩ := id M5.dct
        have hl5 := s35 _ _ h3
        have nhl : hm' ≠ lf := fun e => by rw [e, s34 _ _ h3] at hhm; cases hhm
        have nhd : hm' ≠ d := ne_of hh5 hd5 (by intro z; cases z)
        have frh : H hm' = none := by
          cases qq : H hm' with
          | none => rfl
          | some o => rw [s34 _ _ (b3 _ _ nhd qq)] at hhm; cases hhm
        refine ⟨_, ?_, fun _ _ h => h⟩
        refine ⟨_, rfl, da, rfl, ⟨_, SqL.of (b5 _ _ ndd hdps)⟩, ?_⟩
        refine comp_bool (fun H6 => But d H5 H6 ∧ MvAt A.c_Moves H6 m d TT ws (fun b => b = lf)) (M20.Good TT (wy ws) (h0 ++ [j])) ⟨fun _ _ _ e => e, M5⟩ (fun H6 i6 => i6.1 _ _ ndd (b5 _ _ ndd hdps)) (fun H6 i6 => hdpt.keep fun p xs e => i6.1 _ _ (ne_of e hdd (by intro z; cases z)) (b5 _ _ (ne_of e hdd (by intro z; cases z)) e)) hdl (fun H6 r u R i6 hu hr hR => ?_) (fun D H6 i6 hD => ?_)
        · obtain ⟨b6, M6⟩ := i6
          refine ⟨_, rfl, _, rfl, _, rfl, fun b => b = lf, m, hm', r, d, TT, L, ws, h0 ++ [j], u, rfl, M6, (fun q e => by rw [show q = lf from e]; exact ⟨_, b6 _ _ nfd hl5⟩), hT, hLW, b6 _ _ nhd hh5, hr, ?_, (hdu u hu).2, fun x hx => ?_, fun H7 b7 M7 => hR H7 ⟨b6.trans b7, M7⟩⟩
          · rw [List.length_append, hh1]
            exact (hdu u hu).1
          · rcases List.mem_append.mp hx with hx | hx
            · exact hh2 x hx
            · rw [List.mem_singleton.mp hx]
              exact hjT
        obtain ⟨b6, M6⟩ := i6
        have s67 := Same.upd (o := .lst ((due.map (M20.Good TT (wy ws) (h0 ++ [j]))).map V.bl)) hD
        refine ⟨D, _, rfl, SqL.of upd_same, _, rfl, ?_⟩
        rw [all_id]
        generalize upd H6 D (.lst ((due.map (M20.Good TT (wy ws) (h0 ++ [j]))).map V.bl)) = H7 at s67 ⊢
        have b57 : But d H5 H7 := fun b o n e => s67 _ _ (b6 _ _ n e)
        have b7 : But d H H7 := b5.trans b57
        have M7 := M6.same s67
        have hl7 := b57 _ _ nfd hl5
        have keepL : ∀ p xs, H5 p = some (.lst xs) → H7 p = some (.lst xs) := fun p xs e => b57 _ _ (ne_of e hd5 (by intro z; cases z)) e
        have R7 : RowsAt H7 fps ((got ++ ((List.range j).map fun x => h0 ++ [x]).filter fun h => due.all (M20.Good TT (wy ws) h)).map natI) := ⟨R3.1, fun i r ns g1 g2 => keepL _ _ (s35 _ _ (R3.2 i r ns g1 g2))⟩
        have hh7 := keepL _ _ hh5
        have etk : ((List.range (j + 1)).map fun x => h0 ++ [x]) = ((List.range j).map fun x => h0 ++ [x]) ++ [h0 ++ [j]] := by rw [List.range_succ, List.map_append]; rfl
        have hfl : fps.length ≤ 5000 := by
          have e1 := R3.1
          rw [List.length_map, List.length_append] at e1
          have e2 := List.length_filter_le (fun h => due.all (M20.Good TT (wy ws) h)) ((List.range j).map fun x => h0 ++ [x])
          rw [List.length_map, List.length_range] at e2
          omega
        cases hg : due.all (M20.Good TT (wy ws) (h0 ++ [j])) with
        | true =>
          refine iteT ?_
          refine ⟨_, rfl, .inl ⟨rfl, _, SqL.of hl7⟩, _, rfl, lf, _, _, rfl, rfl, hl7, ?_, ?_⟩
          · rw [List.length_map]
            exact Nat.lt_of_le_of_lt hfl (by decide)
          have kU : ∀ b o, H7 b = some o → b ≠ lf → upd H7 lf (.lst (fps.map V.ref ++ [V.ref hm'])) b = some o := fun b o e n => by rw [upd_ne n]; exact e
          refine ⟨fps ++ [hm'], _, _, rfl, fun b o n e => kU _ _ (b7 _ _ n e) (ne_of_none e hlf), ?_, by rw [upd_same, List.map_append]; rfl, ?_, ?_, ?_⟩
          · exact M7.keep (fun b C dx fs e => kU _ _ e (ne_of e hl7 (by intro z; cases z))) (fun b xs n e => kU _ _ e n) (fun kv e => kU _ _ e (Ne.symm nfd))
          · rw [etk, List.filter_append, ← List.append_assoc, List.map_append]
            have ef : (([h0 ++ [j]].filter fun h => due.all (M20.Good TT (wy ws) h)).map natI) = [natI (h0 ++ [j])] := by rw [List.filter_cons, hg]; rfl
            rw [ef]
            refine RowsAt.but (w := lf) (R7.snoc hh7) But.upd fun z => ?_
            rcases List.mem_append.mp z with z | z
            · exact nf3 z
            · exact nhl (List.mem_singleton.mp z).symm
          · intro z
            rcases List.mem_append.mp z with z | z
            · exact nf3 z
            · exact nhl (List.mem_singleton.mp z).symm
          · intro p hp
            rcases List.mem_append.mp hp with hp | hp
            · exact fr3 p hp
            · rw [List.mem_singleton.mp hp]
              exact frh
        | false =>
          refine iteF ⟨fps, _, _, rfl, b7, M7, hl7, ?_, nf3, fr3⟩
          have ef : ([h0 ++ [j]].filter fun h => due.all (M20.Good TT (wy ws) h)) = [] := by rw [List.filter_cons, hg]; rfl
          rw [etk, List.filter_append, ef, List.append_nil]
          exact R7
      · intro σ H3 hh_
        refine goal_let ?_
        intro q_
        obtain ⟨fps, v5, v6, rfl, b3, M3, h3, R3, nf3, fr3⟩ := hh_
        dsimp only [q_]
        clear q_
        rw [Int.toNat_natCast] at R3
        exact ⟨fps, _, _, _, rfl, b3, M3, h3, R3, nf3, fr3⟩
    · intro σ H2 hh_
      refine goal_let ?_
      intro q_
      obtain ⟨fps, v4, v5, v6, rfl, b2, M2, h2, R2, nf2, fr2⟩ := hh_
      dsimp only [q_]
      clear q_
      rw [List.length_map, List.take_of_length_le (by omega)] at R2
      exact ⟨_, rfl, k lf H2 b2 M2.off ⟨fps, h2, R2, hlf, fr2⟩⟩
theorem comp_keep {K : PySem.W.Frag} {H : Hp} {a : Addr} {fv : St} {tt : TT} {te : TE} {Q : VK} {rs : List Addr} {us : List (List Int)} (p : List Int → Bool) (hrs : H a = some (.lst (rs.map V.ref))) (hrw : TupsAt H rs us) (hz : us.length ≤ 1000)
    (ht : ∀ (H2 : Hp) (r : Addr) (u : List Int) (R : Bool → Hp → Prop), Same H H2 → u ∈ us → H2 r = some (.tup (intV u)) → (∀ H3, Same H2 H3 → R (p u) H3) → tt (some (.ref r) :: fv) H2 R)
    (he : ∀ (H2 : Hp) (r : Addr) (R : VK), R (.ref r) H2 → te (some (.ref r) :: fv) H2 R)
    (hQ : ∀ D H2 qs, Same H H2 → H2 D = none → TupsAt H2 qs (us.filter p) → Q (.ref D) (upd H2 D (.lst (qs.map V.ref)))) : CompGoIf tt te fv Q (Itl K a) H := by
  have hrl := hrw.1
  refine ⟨fun i m ys H2 => m = rs.length - i ∧ i ≤ rs.length ∧ ∃ qs : List Addr, ys = qs.map V.ref ∧ Same H H2 ∧ TupsAt H2 qs ((us.take i).filter p), ⟨rs.length, by simp, Nat.zero_le _, [], rfl, fun _ _ e => e, ⟨by simp, fun i r ns h1 => by simp at h1⟩⟩, ?_⟩
  rintro i m ys H2 ⟨rfl, hi, qs, rfl, s2, hqa⟩
  have hql : qs.length ≤ i := by
    have e1 := hqa.1
    have e2 := List.length_filter_le p (us.take i)
    rw [List.length_take] at e2
    omega
  by_cases hlt : i < rs.length
  · have g1 : rs[i]? = some rs[i] := List.getElem?_eq_getElem hlt
    have hil : i < us.length := by omega
    have g2 : us[i]? = some us[i] := List.getElem?_eq_getElem hil
    have hr := hrw.2 i _ _ g1 g2
    refine .inr ⟨itl_go (SqL.of (s2 _ _ hrs)) i (by rw [List.length_map]; exact hlt), by rw [List.length_map]; exact Nat.lt_of_le_of_lt (show qs.length ≤ 1000 by omega) (by decide), fun x H3 hy => ?_⟩
    obtain ⟨rfl, hx⟩ := itl_yld (SqL.of (s2 _ _ hrs)) i x H3 (by rw [List.length_map]; exact hlt) hy
    rw [List.getElem?_map, g1] at hx
    have ex : V.ref rs[i] = x := Option.some.inj hx
    subst ex
    refine ht H3 _ _ _ s2 (List.mem_of_getElem? g2) (s2 _ _ hr) fun H4 s4 => ?_
    have e : us.take (i + 1) = us.take i ++ [us[i]] := by rw [List.take_succ, g2]; rfl
    cases hp : p us[i] with
    | true =>
      refine he H4 _ _ ⟨rs.length - (i + 1), by omega, rfl, hlt, qs ++ [rs[i]], by rw [List.map_append]; rfl, s2.trans s4, ?_⟩
      have ef : ([us[i]].filter p) = [us[i]] := by rw [List.filter_cons, hp]; rfl
      rw [e, List.filter_append, ef]
      exact (hqa.same s4).snoc (s4 _ _ (s2 _ _ hr))
    | false =>
      refine ⟨rs.length - (i + 1), by omega, rfl, hlt, qs, rfl, s2.trans s4, ?_⟩
      have ef : ([us[i]].filter p) = [] := by rw [List.filter_cons, hp]; rfl
      rw [e, List.filter_append, ef, List.append_nil]
      exact hqa.same s4
  · have e : i = rs.length := by omega
    refine .inl ⟨?_, by rw [List.length_map]; exact Nat.le_trans (show qs.length ≤ 1000 by omega) (by decide), fun D hD => ?_⟩
    · have := itl_stop (K := K) (SqL.of (s2 _ _ hrs))
      rw [List.length_map, ← e] at this
      exact this
    · rw [List.take_of_length_le (by omega)] at hqa
      exact hQ D H2 qs s2 hD hqa
theorem free_but {C : Addr} {H H' : Hp} {m d q : Addr} {T : List (List Int)} {ws : List (List Nat)} {av : Addr → Prop} (b : But d H H') (M : MvAt C H' m d T ws av) (hq : H' q = none) : H q = none := by
  cases e : H q with
  | none => rfl
  | some o =>
    obtain ⟨kvs, rs, hd, -⟩ := M.dct
    have n : q ≠ d := fun z => by rw [z, hd] at hq; cases hq
    rw [b _ _ n e] at hq
    cases hq
theorem ok_homes_by (T : Txt K mg A) : FnOk P w K mg base (CXw P w) 5 A.f_homes_by A.d_homes_by ["moves", "letters", "rules"] (spHomesBy A.c_Moves) := by
  have G_longer : FnOk P w K mg base (CXw P w) 4 A.f_longer A.d_longer ["lists", "due", "moves"] (spLonger A.c_Moves) := ok_longer T
  have G_greatest_letter : FnOk P w K mg base (CXw P w) 1 A.f_greatest_letter A.d_greatest_letter ["rule"] spGl := ok_greatest_letter T
  refine T.homes_by.F.okN sc_homes_by (fun vs H Q E h => ?_) (fun cdv AA outer s H vs Q E hr h => ?_)
  · obtain ⟨m, ra, d, TT, L, n, ws, rules, rfl, _⟩ := h
    rfl
  · obtain ⟨m, ra, d, TT, L, n, ws, rules, rfl, hRa, hM, hT, hLW, hn, hcap, hrl, hru, k⟩ := h
    refine ⟨_, (pss_cons (ps_set (i := 3) sc_homes_by.nd rfl (Or.inl rfl) (pe_lst (pa_cons (pe_lst pa_nil) pa_nil)))
      (pss_cons (ps_for PassesOwn.never rfl (pi_range2 rfl T.z_range (pa_cons pe_int (pa_cons (pe_op op_add (pv 1) pe_int) pa_nil))) (pg_name (i := 4) sc_homes_by.nd rfl (Or.inr rfl))
        (pss_cons (ps_setCompIf (iy := 5) sc_homes_by.nd rfl (Or.inl rfl) (fns := ["letter"]) (ixs := [4]) (cl := _) rfl (pi_list (pv 2)) (compScope1 rfl rfl (by decide +kernel) rfl (by decide +kernel) rfl (by decide +kernel) (by decide +kernel) rfl rfl rfl rfl) (fun C s H ex => (pt_cmpR op_eq (pe_call (G_greatest_letter) (hr.mono (by decide)) rfl T.greatest_letter.m T.greatest_letter.F.kp T.greatest_letter.b .nil passF (pa_cons (pv 0) pa_nil)) (pv 1) (nomark _))) (fun C s H ex => (pv 0)))
        (pss_one (ps_set (i := 3) sc_homes_by.nd rfl (Or.inl rfl) (pe_call (G_longer) (hr.mono (by decide)) rfl T.longer.m T.longer.F.kp T.longer.b .nil passF (pa_cons (pv 3) (pa_cons (pv 5) (pa_cons (pv 0) pa_nil))))))))
      (pss_one (ps_ret (pv 3))))), ?_⟩
    try dsimp only [cx_noxK, cx_K]
    refine seq_let2 ?_
    intro u_2 u_1
    have hpos := hT.pos
    have hr0 : ∀ r ∈ rules, ∀ s ∈ r, s ≠ 0 := fun r hr s hs => ((hru r hr).1 s hs).1
    obtain ⟨kvd, rsd, hdd, -⟩ := id hM.dct
    refine ⟨Nat.zero_le _, fun q0 hq0 => ?_⟩
    have s0 : Same H (upd H q0 (.lst [])) := Same.upd hq0
    have h0 : upd H q0 (.lst []) q0 = some (.lst (intV (natI []))) := upd_same
    generalize upd H q0 (.lst []) = H0 at s0 h0 ⊢
    refine ⟨by show 1 ≤ sizeLine; decide, fun l0 hl0 => ?_⟩
    have s1 : Same H0 (upd H0 l0 (.lst [.ref q0])) := Same.upd hl0
    have h1 : upd H0 l0 (.lst [.ref q0]) l0 = some (.lst ([q0].map V.ref)) := upd_same
    generalize upd H0 l0 (.lst [.ref q0]) = H1 at s1 h1 ⊢
    have s01 := s0.trans s1
    refine ⟨_, rfl, _, _, rfl, rfl, 1, (n : Int) + 1, rfl, ⟨by omega, by omega, by omega, by omega⟩, ?_⟩
    let LI_1 : Nat → St → Hp → Prop := fun i σ H2 => ∃ (lf : Addr) (v4 v5 : Option V), σ = [some (.ref m), some (.int n), some (.ref ra), some (.ref lf), v4, v5] ∧ But d H H2 ∧ MvAt A.c_Moves H2 m d TT ws (fun _ => False) ∧ TabN H H2 lf ((M20.fnd TT (wy ws) TT.length rules i).map natI)
    refine for_range (lo := 1) (n := ((n : Int) + 1 - 1).toNat) LI_1
      ⟨l0, none, none, rfl, fun b o _ e => s01 _ _ e, hM.same s01, [q0], h1, ⟨rfl, fun i r ns g1 g2 => ?_⟩, s0.free hl0, fun r hr => by rw [List.mem_singleton.mp hr]; exact hq0⟩ ?_ ?_
    · have e2 : ns = natI [] := List.mem_singleton.mp (List.mem_of_getElem? g2)
      rw [List.mem_singleton.mp (List.mem_of_getElem? g1), e2]
      exact s1 _ _ h0
    · intro i σ H2 hi hh_
      refine goal_let ?_
      intro q_
      obtain ⟨lf, v4, v5, rfl, b2, M2, fps, h2, R2, nl2, nr2⟩ := hh_
      dsimp only [q_]
      clear q_
      dsimp only [gName]
      refine blk_let1 ?_
      intro D_0 w_1
      have hin : i < n := by omega
      have hRa2 := words_but hRa b2 hdd
      obtain ⟨rps, hrps, hrpt⟩ := id hRa2
      refine ⟨_, rfl, ra, rfl, ⟨_, SqL.of hrps⟩, ?_⟩
      refine comp_keep (fun u => decide (M20.gl u = i + 1)) hrps hrpt hrl (fun H3 r u R s3 hu hr hR => ?_) (fun H3 r R hR => ⟨_, rfl, hR⟩) (fun D H3 dps s3 hD hdt => ?_)
      · refine ⟨_, rfl, r, u, rfl, hr, (hru u hu).2, fun H4 s4 => ⟨_, rfl, rfl, decide (M20.gl u = i + 1), ?_, hR H4 s4⟩⟩
        refine congrArg V.bl ?_
        rw [decide_eq_decide]
        exact ⟨fun z => by injection z with z; omega, fun z => by rw [z]; congr 1; omega⟩
      have s34 : Same H3 (upd H3 D (.lst (dps.map V.ref))) := Same.upd hD
      have hD4 : WordsAt (upd H3 D (.lst (dps.map V.ref))) D (M20.dueAt rules (i + 1)) := ⟨dps, upd_same, hdt.same s34⟩
      generalize upd H3 D (.lst (dps.map V.ref)) = H4 at s34 hD4 ⊢
      have s24 := s3.trans s34
      have M4 := M2.same s24
      have b4 : But d H H4 := fun b o n e => s24 _ _ (b2 _ _ n e)
      have hc1 : M20.cap TT.length (i + 1) ≤ 5000 := by
        by_cases z : M20.cap TT.length (i + 1) ≤ 5000
        · exact z
        · have := M20.cap_up hpos (j := i + 1) (n := n) (by omega) (by omega)
          omega
      have hal := M20.alls_cap hpos hc1
      have hall : (M20.alls TT.length (i + 1)).length = (M20.alls TT.length i).length * TT.length := M20.flat_ext _ _
      have hfe := M20.fnd_eq (T := TT) (wy := wy ws) (N := TT.length) hr0 i
      have hfl : (M20.fnd TT (wy ws) TT.length rules i).length ≤ (M20.alls TT.length i).length := by rw [hfe]; exact List.length_filter_le _ _
      refine ⟨_, rfl, _, rfl, _, rfl, lf, D, m, d, TT, L, i, ws, M20.fnd TT (wy ws) TT.length rules i, M20.dueAt rules (i + 1), rfl, ⟨fps, s24 _ _ h2, R2.same s24⟩, hD4, M4, hT, hLW, fun h hh => ?_, by omega, ?_, Nat.le_trans (List.length_filter_le _ _) hrl, fun r hr => ?_, fun l H5 b5 M5 hN => ?_⟩
      · rw [hfe] at hh
        exact M20.alls_mem (List.mem_filter.mp hh).1
      · exact Nat.le_trans (Nat.mul_le_mul_right _ hfl) (by omega)
      · obtain ⟨hr1, hr2⟩ := List.mem_filter.mp hr
        have e := of_decide_eq_true hr2
        exact ⟨fun s hs => ⟨hr0 r hr1 s hs, (M20.gl_le r (i + 1)).mp (by omega) s hs⟩, (hru r hr1).2⟩
      · obtain ⟨fps', f1, f2, f3, f4⟩ := hN
        exact ⟨l, _, _, rfl, b4.trans b5, M5, fps', f1, f2, free_but b4 M4 f3, fun r hr => free_but b4 M4 (f4 r hr)⟩
    · intro σ H2 hh_
      refine goal_let ?_
      intro q_
      obtain ⟨lf, v4, v5, rfl, b2, M2, hN⟩ := hh_
      dsimp only [q_]
      clear q_
      rw [show ((n : Int) + 1 - 1).toNat = n by omega] at hN
      exact ⟨_, rfl, k lf H2 b2 hN⟩
theorem ok_homes (T : Txt K mg A) : FnOk P w K mg base (CXw P w) 6 A.f_homes A.d_homes ["letters", "rules", "table"] (spHomes A.c_TooGreat) := by
  have G_check_lists : FnOk P w K mg base (CXw P w) 1 A.f_check_lists A.d_check_lists ["rooms", "letters"] (spCheck A.c_TooGreat) := ok_check_lists T
  have G_homes_by : FnOk P w K mg base (CXw P w) 5 A.f_homes_by A.d_homes_by ["moves", "letters", "rules"] (spHomesBy A.c_Moves) := ok_homes_by T
  have G_Moves___init__ : FnOk P w K mg base (CXw P w) 4 A.f_Moves___init__ A.d_Moves___init__ ["self", "table"] (spInit A.c_Moves) := ok_Moves___init__ T
  refine T.homes.F.okX sc_homes (fun vs H Q E h => ?_) (fun cdv AA outer s H vs Q E hr h => ?_)
  · obtain ⟨ra, ta, TT, L, n, rules, rfl, _⟩ := h
    rfl
  · obtain ⟨ra, ta, TT, L, n, rules, rfl, hRa, hTa, hT, hF, hn, hrl, hru, k, kE⟩ := h
    refine ⟨_, (pss_cons (ps_expr (pe_call (G_check_lists) (hr.mono (by decide)) rfl T.check_lists.m T.check_lists.F.kp T.check_lists.b .nil pass1 (pa_cons (pe_callB call_len_seq rfl T.z_len PySem.boot_len (pa_cons (pv 2) pa_nil)) (pa_cons (pv 0) pa_nil))))
      (pss_one (ps_ret (pe_call (G_homes_by) (hr.mono (by decide)) rfl T.homes_by.m T.homes_by.F.kp T.homes_by.b .nil passF (pa_cons (pe_make (mk_Moves T) (G_Moves___init__) (hr.mono (by decide)) rfl T.m_Moves T.Moves___init__.b .nil passF (pa_cons (pv 2) pa_nil)) (pa_cons (pv 0) (pa_cons (pv 1) pa_nil))))))), ?_⟩
    try dsimp only [cx_noxK, cx_K]
    refine seq_let1 ?_
    intro u_1
    have h300 := hT.top
    have hpos := hT.pos
    obtain ⟨rs, hrs, hrw⟩ := id hTa
    have hlen : ((rs.map V.ref).length : Int) = (TT.length : Int) := by rw [List.length_map, hrw.1]
    refine ⟨_, rfl, ta, _, rfl, .inl (SqL.of hrs), _, rfl, TT.length, n, congrArg (fun z => [V.int z, V.int (n : Int)]) hlen, hpos, by omega, by omega, fun hc => ?_, kE⟩
    refine ⟨_, rfl, fun x dx nx ndx nex => ?_⟩
    have s0 : Same H (upd (upd H dx (.own x)) x (.ins A.c_Moves dx [])) := fun b o e => by
      rw [upd_ne (ne_of_none e nx), upd_ne (ne_of_none e ndx)]
      exact e
    refine ⟨x, dx, ta, TT, L, rfl, upd_same, hTa.same s0, hT, hF, fun fs fl d ws H1 kp hx1 hmany hforth hbeh hby hd1 nd hFa hLW => ⟨rfl, ?_⟩⟩
    have s1 : Same H H1 := fun b o e => kp b o (s0 b o e) (ne_of_none e nx)
    have nd0 : H d = none := s0.free nd
    obtain ⟨frs, hfrs, hfrw⟩ := hFa
    have M1 : MvAt A.c_Moves H1 x d TT ws (fun _ => False) := ⟨⟨dx, fl, fs, frs, hx1, hmany, hforth, hbeh, hfrs, hfrw, fun z => z, hby, fun _ _ z => z⟩, [], [], hd1, by simp, fun r hr => by simp at hr, rfl, fun i => .inl ⟨by simp, rfl⟩⟩
    refine ⟨_, rfl, _, rfl, x, ra, d, TT, L, n, ws, rules, rfl, hRa.same s1, M1, hT, hLW, hn, hc, hrl, hru, fun l H2 b2 hN => ?_⟩
    obtain ⟨rs2, f1, f2, f3, f4⟩ := hN
    exact k hc ws l H2 (fun b o e => b2 _ _ (ne_of_none e nd0) (s1 _ _ e)) hLW ⟨rs2, f1, f2, s1.free f3, fun r hr => s1.free (f4 r hr)⟩
theorem ok__law_same (T : Txt K mg A) : FnOk P w K mg base (CXw P w) 1 A.f__law_same A.d__law_same ["_law_found", "_law_due_here"] spSame := by
  refine T._law_same.F.okN sc__law_same (fun vs H Q E h => ?_) (fun cdv AA outer s H vs Q E hr h => ?_)
  · obtain ⟨a, b, X, rfl, _⟩ := h
    rfl
  · obtain ⟨a, b, X, rfl, hA, hB, k⟩ := h
    have hu := Nat.lt_of_succ_lt (hu_of hr)
    refine ⟨_, (pss_cons (ps_cut (ps_if (PW.pt (pw_or (pt_not (pt_val (pe_callB call_isi rfl T.z_isinstance PyProof.Rows.boot_isinstance (pa_cons (pv 0) (pa_cons (pe_bltn (v := .ty "list") rfl T.z_list PyProof.Rows.boot_list rfl) pa_nil))))) (pw_or1 (pt_cmpR op_ne (pe_callB call_len_seq rfl T.z_len PySem.boot_len (pa_cons (pv 0) pa_nil)) (pe_callB call_len_seq rfl T.z_len PySem.boot_len (pa_cons (pv 1) pa_nil)) (nomark _)))))
        (pss_one (ps_ret pe_bl))
        pss_nil))
      (pss_cons (ps_for PassesOwn.never rfl (pi_zip rfl T.z_zip (pa_cons (pv 0) (pa_cons (pv 1) pa_nil))) (pg_tup rfl (pgs_cons (pg_name (i := 2) sc__law_same.nd rfl (Or.inl rfl)) (pgs_cons (pg_name (i := 3) sc__law_same.nd rfl (Or.inl rfl)) pgs_nil)))
        (pss_cons (ps_cut (ps_if (PW.pt (pw_or (pt_not (pt_val (pe_callB call_isi rfl T.z_isinstance PyProof.Rows.boot_isinstance (pa_cons (pv 2) (pa_cons (pe_bltn (v := .ty "list") rfl T.z_list PyProof.Rows.boot_list rfl) pa_nil))))) (pw_or1 (pt_cmpR (op_neLI hu) (pv 2) (pv 3) (nomark _)))))
          (pss_one (ps_ret pe_bl))
          pss_nil))
        (pss_one (ps_for PassesOwn.never rfl (pi_list (pv 2)) (pg_name (i := 4) sc__law_same.nd rfl (Or.inl rfl))
          (pss_one (ps_cut (ps_if (PW.pt (pw_or (pt_not (pt_val (pe_callB call_isi rfl T.z_isinstance PyProof.Rows.boot_isinstance (pa_cons (pv 4) (pa_cons (pe_bltn (v := .ty "int") rfl T.z_int PyProof.Rows.boot_int rfl) pa_nil))))) (pw_or1 (pt_val (pe_callB call_isi rfl T.z_isinstance PyProof.Rows.boot_isinstance (pa_cons (pv 4) (pa_cons (pe_bltn (v := .ty "bool") rfl T.z_bool PyProof.Rows.boot_bool rfl) pa_nil)))))))
            (pss_one (ps_ret pe_bl))
            pss_nil)))))))
      (pss_one (ps_ret pe_bl)))), ?_⟩
    try dsimp only [cx_noxK, cx_K]
    refine seq_let2 ?_
    intro u_2 u_1
    obtain ⟨as, ha, hra⟩ := id hA
    obtain ⟨bs, hb, hrb⟩ := id hB
    have hal : as.length = X.length := hra.1
    have hbl : bs.length = X.length := hrb.1
    let LG_1 : St → Hp → Prop := fun σ' H' => σ' = [some (.ref a), some (.ref b), none, none, none] ∧ H' = H
    refine ⟨LG_1, ?_, ?_⟩
    · refine blk_let0 ?_
      intro D_0
      refine ⟨_, rfl, _, _, _, _, rfl, .lst ha, kit_self _ _, true, rfl, iteF ?_⟩
      refine ⟨_, rfl, a, _, rfl, .inl (SqL.of ha), _, rfl, b, _, rfl, .inl (SqL.of hb), rfl, _, rfl, ?_⟩
      exact iteNS (by rw [List.length_map, List.length_map, hal, hbl]) ⟨rfl, rfl⟩
    rintro σ' H' ⟨rfl, rfl⟩
    refine ⟨_, rfl, _, rfl, a, b, rfl, ⟨_, SqL.of ha⟩, ⟨_, SqL.of hb⟩, ?_⟩
    let LI_2 : Nat → St → Hp → Prop := fun n σ H2 => ∃ (v2 v3 v4 : Option V), σ = [some (.ref a), some (.ref b), v2, v3, v4] ∧ Same H' H2
    refine for_zip (K := K) (a := a) (b := b) (xs := as.map V.ref) (ys := bs.map V.ref) LI_2 (by rw [List.length_map, List.length_map, hal, hbl]) ⟨none, none, none, rfl, fun _ _ e => e⟩ (fun n σ H2 _ hh => by obtain ⟨_, _, _, _, s⟩ := hh; exact ⟨SqL.of (s _ _ ha), SqL.of (s _ _ hb)⟩) ?_ ?_
    · rintro n v u σ H2 q hv hu hq ⟨v2, v3, v4, rfl, s2⟩
      rw [List.getElem?_map] at hv hu
      have hna : n < as.length := by
        cases e : as[n]? with
        | none => rw [e] at hv; cases hv
        | some r => exact (List.getElem?_eq_some_iff.mp e).1
      have g1 : as[n]? = some as[n] := List.getElem?_eq_getElem hna
      have g2 : bs[n]? = some (bs[n]'(by omega)) := List.getElem?_eq_getElem (by omega)
      have g3 : X[n]? = some (X[n]'(by omega)) := List.getElem?_eq_getElem (by omega)
      rw [g1] at hv
      rw [g2] at hu
      have ev : V.ref as[n] = v := Option.some.inj hv
      have eu : V.ref (bs[n]'(by omega)) = u := Option.some.inj hu
      subst ev eu
      generalize as[n] = r1 at g1
      generalize bs[n]'(by omega) = r2 at g2
      generalize X[n]'(by omega) = x at g3
      have h1 := s2 _ _ (hra.2 n _ _ g1 g3)
      have h2 := s2 _ _ (hrb.2 n _ _ g2 g3)
      have s23 := Same.upd (o := .tup [.ref r1, .ref r2]) hq
      refine ⟨q, _, rfl, SqT.of upd_same, rfl, _, _, rfl, _, _, rfl, rfl, ?_⟩
      generalize upd H2 q (.tup [.ref r1, .ref r2]) = H3 at s23 ⊢
      let LG_3 : St → Hp → Prop := fun σ' H' => σ' = [some (.ref a), some (.ref b), some (.ref r1), some (.ref r2), v4] ∧ H' = H3
      refine ⟨LG_3, ?_, ?_⟩
      · refine blk_let0 ?_
        intro D_0
        refine ⟨_, rfl, _, _, _, _, rfl, .lst (s23 _ _ h1), kit_self _ _, true, rfl, iteF ?_⟩
        refine ⟨_, rfl, _, rfl, r1, r2, x, x, rfl, rfl, s23 _ _ h1, s23 _ _ h2, _, rfl, ?_⟩
        exact iteNS rfl ⟨rfl, rfl⟩
      rintro σ' H4 ⟨rfl, rfl⟩
      refine ⟨_, rfl, r1, rfl, ⟨_, SqL.of (s23 _ _ h1)⟩, ?_⟩
      let LI_4 : Nat → St → Hp → Prop := fun i σ H5 => ∃ v4 : Option V, σ = [some (.ref a), some (.ref b), some (.ref r1), some (.ref r2), v4] ∧ H5 = H4
      refine for_list (K := K) (a := r1) (xs := intV x) LI_4 ⟨_, rfl, rfl⟩ (fun i σ H5 _ hh => by obtain ⟨_, _, e⟩ := hh; exact by rw [e]; exact SqL.of (s23 _ _ h1)) ?_ ?_
      · rintro i y σ H5 hi ⟨v, rfl, rfl⟩
        dsimp only [gName]
        refine blk_let0 ?_
        intro D_0 
        obtain ⟨z, rfl, _⟩ := ints_of_at hi
        refine ⟨_, ?_, fun _ _ h => h⟩
        refine ⟨_, rfl, _, _, _, _, rfl, .int z, kit_self _ _, true, rfl, iteF ?_⟩
        refine ⟨_, rfl, _, _, _, _, rfl, .int z, kit_int_bool _, false, rfl, iteF ?_⟩
        exact ⟨_, rfl, rfl⟩
      · rintro σ H5 ⟨v, rfl, rfl⟩
        exact ⟨_, _, _, rfl, s2.trans s23⟩
    · rintro σ H2 ⟨v2, v3, v4, rfl, s2⟩
      exact k H2 s2
theorem ok__law_refused (T : Txt K mg A) : FnOk P w K mg base (CXw P w) 7 A.f__law_refused A.d__law_refused ["_law_letters", "_law_rules_here", "_law_table_here"] spRefused := by
  have G_homes : FnOk P w K mg base (CXw P w) 6 A.f_homes A.d_homes ["letters", "rules", "table"] (spHomes A.c_TooGreat) := ok_homes T
  refine T._law_refused.F.okN sc__law_refused (fun vs H Q E h => ?_) (fun cdv AA outer s H vs Q E hr h => ?_)
  · obtain ⟨ra, ta, TT, L, n, rules, rfl, _⟩ := h
    rfl
  · obtain ⟨ra, ta, TT, L, n, rules, rfl, hRa, hTa, hT, hF, hn, hrl, hru, hcap, k⟩ := h
    refine ⟨_, (pss_cons (ps_set (i := 3) sc__law_refused.nd rfl (Or.inl rfl) pe_non)
      (pss_cons (ps_cut (ps_try rfl rfl (psx_expr (pex_call (G_homes) (hr.mono (by decide)) rfl T.homes.m T.homes.F.kp T.homes.b (pa_cons (pv 0) (pa_cons (pv 1) (pa_cons (pv 2) pa_nil)))))
        (ph_as (i := 4) sc__law_refused.nd rfl rfl rfl T.m_YardError (fun _ => (pss_one (ps_set (i := 3) sc__law_refused.nd rfl (Or.inl rfl) (pv 4))))
        ph_no)))
      (pss_cons (ps_cut (ps_if (PW.pt (pw_or (pt_cmpR op_isN (pv 3) pe_non (nomark _)) (pw_or1 (pt_val (pe_callB call_isiE rfl T.z_isinstance PyProof.Rows.boot_isinstance (pa_cons (pv 3) (pa_cons (pe_tup (pa_cons (pe_glob (v := .ref A.c_NoOrder) rfl T.m_NoOrder rfl) (pa_cons (pe_glob (v := .ref A.c_NoWord) rfl T.m_NoWord rfl) (pa_cons (pe_glob (v := .ref A.c_TooLong) rfl T.m_TooLong rfl) (pa_cons (pe_glob (v := .ref A.c_TooMany) rfl T.m_TooMany rfl) pa_nil))))) pa_nil)))))))
        (pss_one (ps_ret pe_bl))
        pss_nil))
      (pss_one (ps_ret (pe_callB call_isiE rfl T.z_isinstance PyProof.Rows.boot_isinstance (pa_cons (pv 3) (pa_cons (pe_glob (v := .ref A.c_TooGreat) rfl T.m_TooGreat rfl) pa_nil)))))))), ?_⟩
    try dsimp only [cx_noxK, cx_K]
    refine seq_let3 ?_
    intro u_3 u_2 u_1
    let LG_1 : St → Hp → Prop := fun σ' H' => ∃ x : Addr, σ' = [some (.int n), some (.ref ra), some (.ref ta), some (.ref x), none] ∧ H' x = some (ExO x A.c_TooGreat) ∧ Same H H'
    refine ⟨LG_1, ?_, ?_⟩
    · refine blk_let0 ?_
      intro D_0
      refine ⟨_, rfl, _, rfl, _, rfl, ra, ta, TT, L, n, rules, rfl, hRa, hTa, hT, hF, hn, hrl, hru, (fun hc => by omega), fun _ => ⟨_, rfl, ?_⟩⟩
      exact ⟨true, T.e_T, iteT fun x hx => ⟨_, rfl, x, rfl, upd_same, Same.upd hx⟩⟩
    rintro σ' H1 ⟨x, rfl, hx, s1⟩
    refine ⟨_, ?_, fun _ _ h => h⟩
    refine ⟨_, rfl, rfl, _, rfl, ?_⟩
    refine ite2 (fun h => ?_) (fun _ => ?_)
    · have := of_decide_eq_true h
      cases this
    refine ⟨_, rfl, by show 4 ≤ sizeLine; decide, fun tp htp => ?_⟩
    have stp := Same.upd (o := .tup [.ref A.c_NoOrder, .ref A.c_NoWord, .ref A.c_TooLong, .ref A.c_TooMany]) htp
    have hx2 := stp _ _ hx
    refine ⟨x, A.c_TooGreat, _, false, rfl, hx2, ⟨T.i_T1, T.i_T2, T.i_T3, T.i_T4, T.i5, T.i6, T.i_T7, T.i_T8⟩, .inr ⟨tp, _, [.ref A.c_NoOrder, .ref A.c_NoWord, .ref A.c_TooLong, .ref A.c_TooMany], rfl, upd_same, rfl, T.a_T⟩, false, rfl, iteF ?_⟩
    exact ⟨_, rfl, x, A.c_TooGreat, _, true, rfl, hx2, ⟨T.i_T1, T.i_T2, T.i_T3, T.i_T4, T.i5, T.i6, T.i_T7, T.i_T8⟩, .inl ⟨_, rfl, T.k_T, hx2⟩, k _ (s1.trans stp)⟩
theorem comp_rows {H1 : Hp} {fv : St} {te : TE} {Q : VK} {n : Nat} (f : Nat → List Int) (hn : n ≤ 1000) (he : ∀ (i : Nat) (H2 : Hp) (R : VK), i < n → Same H1 H2 → (∀ l H3, Same H2 H3 → H2 l = none → H3 l = some (.lst (intV (f i))) → R (.ref l) H3) → te (some (.int (0 + (i : Int))) :: fv) H2 R)
    (hQ : ∀ D H2 qs, Same H1 H2 → H2 D = none → RowsAt H2 qs ((List.range n).map f) → (∀ q ∈ qs, H1 q = none) → Q (.ref D) (upd H2 D (.lst (qs.map V.ref)))) : CompGo te fv Q (Itr 0 n) H1 := by
  refine ⟨fun i m ys H2 => m = n - i ∧ i ≤ n ∧ ∃ qs : List Addr, ys = qs.map V.ref ∧ Same H1 H2 ∧ RowsAt H2 qs ((List.range i).map f) ∧ ∀ q ∈ qs, H1 q = none, ⟨n, by simp, Nat.zero_le _, [], rfl, fun _ _ e => e, ⟨by simp, fun i r ns h1 => by simp at h1⟩, fun q hq => by simp at hq⟩, ?_⟩
  rintro i m ys H2 ⟨rfl, hi, qs, rfl, s2, hqa, hqn⟩
  have hql : qs.length = i := by have := hqa.1; rw [List.length_map, List.length_range] at this; exact this
  by_cases hlt : i < n
  · refine .inr ⟨hlt, by rw [List.length_map, hql]; exact Nat.lt_of_le_of_lt (show i ≤ 1000 by omega) (by decide), fun x H3 hy => ?_⟩
    obtain ⟨rfl, rfl⟩ := hy
    refine he i _ _ hlt s2 fun l H4 s4 nl h4 => ⟨n - (i + 1), by omega, rfl, hlt, qs ++ [l], by rw [List.map_append]; rfl, s2.trans s4, ?_, fun q hq => ?_⟩
    · rw [List.range_succ, List.map_append]
      exact (hqa.same s4).snoc h4
    · rcases List.mem_append.mp hq with hq | hq
      · exact hqn q hq
      · rw [List.mem_singleton.mp hq]
        exact s2.free nl
  · have e : i = n := by omega
    subst e
    exact .inl ⟨Nat.le_refl _, by rw [List.length_map, hql]; exact Nat.le_trans hn (by decide), fun D hD => hQ D H2 qs s2 hD hqa hqn⟩
theorem rows_app {H : Hp} {rs qs : List Addr} {us vs : List (List Int)} (h : RowsAt H rs us) (h' : RowsAt H qs vs) : RowsAt H (rs ++ qs) (us ++ vs) := by
  refine ⟨by rw [List.length_append, List.length_append, h.1, h'.1], fun i r ns g1 g2 => ?_⟩
  by_cases e : i < rs.length
  · rw [List.getElem?_append_left e] at g1
    rw [List.getElem?_append_left (by rw [← h.1]; exact e)] at g2
    exact h.2 i r ns g1 g2
  · rw [List.getElem?_append_right (by omega)] at g1
    rw [List.getElem?_append_right (by rw [← h.1]; omega), ← h.1] at g2
    exact h'.2 _ r ns g1 g2
theorem ok__law_lists (T : Txt K mg A) : FnOk P w K mg base (CXw P w) 1 A.f__law_lists A.d__law_lists ["_law_letters", "_law_many_here"] spLists := by
  refine T._law_lists.F.okN sc__law_lists (fun vs H Q E h => ?_) (fun cdv AA outer s H vs Q E hr h => ?_)
  · obtain ⟨n, N, rfl, _⟩ := h
    rfl
  · obtain ⟨n, N, rfl, hn, hN1, hN2, hcap, k⟩ := h
    refine ⟨_, (pss_cons (ps_set (i := 2) sc__law_lists.nd rfl (Or.inl rfl) (pe_lst (pa_cons (pe_lst pa_nil) pa_nil)))
      (pss_cons (ps_for PassesOwn.never rfl (pi_range1 rfl T.z_range (pa_cons (pv 0) pa_nil)) (pg_name (i := 3) sc__law_lists.nd rfl (Or.inl rfl))
        (pss_cons (ps_set (i := 4) sc__law_lists.nd rfl (Or.inl rfl) (pe_lst pa_nil))
        (pss_cons (ps_for PassesOwn.never rfl (pi_list (pv 2)) (pg_name (i := 5) sc__law_lists.nd rfl (Or.inr rfl))
          (pss_one (ps_expr (pe_bm PySem.F.plainAttrs_list PySem.F.slot_list_extend PySem.F.type_list_extend mt_extend (pv 4) (pa_cons (pe_comp (fns := ["_law_one"]) (ixs := [5]) (cl := _) rfl (pi_range1 rfl T.z_range (pa_cons (pv 1) pa_nil)) (compScope1 rfl rfl (by decide +kernel) rfl (by decide +kernel) rfl (by decide +kernel) (by decide +kernel) rfl rfl rfl rfl) (fun C s H ex => (pe_op op_cat (pv 1) (pe_lst (pa_cons (pv 0) pa_nil))))) pa_nil)))))
        (pss_one (ps_set (i := 2) sc__law_lists.nd rfl (Or.inl rfl) (pv 4))))))
      (pss_one (ps_ret (pv 2))))), ?_⟩
    try dsimp only [cx_noxK, cx_K]
    refine seq_let2 ?_
    intro u_2 u_1
    refine ⟨Nat.zero_le _, fun q0 hq0 => ?_⟩
    have s0 : Same H (upd H q0 (.lst [])) := Same.upd hq0
    have h0 : upd H q0 (.lst []) q0 = some (.lst (intV (natI []))) := upd_same
    generalize upd H q0 (.lst []) = H0 at s0 h0 ⊢
    refine ⟨by show 1 ≤ sizeLine; decide, fun l0 hl0 => ?_⟩
    have s1 : Same H0 (upd H0 l0 (.lst [.ref q0])) := Same.upd hl0
    have h1 : upd H0 l0 (.lst [.ref q0]) l0 = some (.lst ([q0].map V.ref)) := upd_same
    generalize upd H0 l0 (.lst [.ref q0]) = H1 at s1 h1 ⊢
    refine ⟨_, rfl, (n : Int), rfl, by omega, by omega, ?_⟩
    refine for_range (lo := 0) (n := ((n : Int)).toNat) (fun i σ H2 => ∃ (lf : Addr) (v3 v4 v5 : Option V), σ = [some (.int n), some (.int N), some (.ref lf), v3, v4, v5] ∧ Same H H2 ∧ TabN H H2 lf ((M20.alls N i).map natI))
      ⟨l0, none, none, none, rfl, s0.trans s1, [q0], h1, ⟨rfl, fun i r ns g1 g2 => ?_⟩, s0.free hl0, fun r hr => by rw [List.mem_singleton.mp hr]; exact hq0⟩ ?_ ?_
    · have e2 : ns = natI [] := List.mem_singleton.mp (List.mem_of_getElem? g2)
      rw [List.mem_singleton.mp (List.mem_of_getElem? g1), e2]
      exact s1 _ _ h0
    · intro i σ H2 hi hh_
      refine goal_let ?_
      intro q_
      obtain ⟨lf, v3, v4, v5, rfl, s2, fps, h2, R2, nl2, nr2⟩ := hh_
      dsimp only [q_]
      clear q_
      dsimp only [gName]
      refine seq_let2 ?_
      intro w_2 w_1
      have hin : i < n := by omega
      have hc1 : M20.cap N (i + 1) ≤ 5000 := by
        by_cases z : M20.cap N (i + 1) ≤ 5000
        · exact z
        · have := M20.cap_up hN1 (j := i + 1) (n := n) (by omega) (by omega)
          omega
      have hal := M20.alls_cap hN1 hc1
      have hall : (M20.alls N (i + 1)).length = (M20.alls N i).length * N := M20.flat_ext _ _
      have eS : M20.alls N (i + 1) = (M20.alls N i).flatMap (M20.ext N) := rfl
      have hmem : ∀ h ∈ M20.alls N i, h.length = i := fun h hh => (M20.alls_mem hh).1
      rw [eS]
      generalize M20.alls N i = al at R2 hall hmem
      have hfl : fps.length = al.length := by have := R2.1; rw [List.length_map] at this; exact this
      refine ⟨Nat.zero_le _, fun lw hlw => ?_⟩
      have s3 : Same H2 (upd H2 lw (.lst [])) := Same.upd hlw
      have h3 : upd H2 lw (.lst []) lw = some (.lst (([] : List Addr).map V.ref)) := upd_same
      generalize upd H2 lw (.lst []) = H3 at s3 h3 ⊢
      refine ⟨_, rfl, lf, rfl, ⟨_, SqL.of (s3 _ _ h2)⟩, ?_⟩
      refine for_list (K := K) (a := lf) (xs := fps.map V.ref) (fun j σ H4 => ∃ (wps : List Addr) (v5 : Option V), σ = [some (.int n), some (.int N), some (.ref lf), some (.int (0 + (i : Int))), some (.ref lw), v5] ∧ Same H2 H4 ∧ H4 lw = some (.lst (wps.map V.ref)) ∧ lw ∉ wps ∧ (∀ q ∈ wps, H q = none) ∧ RowsAt H4 wps (((al.take j).flatMap (M20.ext N)).map natI))
        ⟨[], _, rfl, s3, h3, by simp, fun q hq => by simp at hq, ⟨by simp, fun i r ns g1 => by simp at g1⟩⟩ (fun j σ H4 _ hh => by obtain ⟨_, _, _, s, _⟩ := hh; exact SqL.of (s _ _ h2)) ?_ ?_
      · intro j y σ H4 hj hh_
        refine goal_let ?_
        intro q_
        obtain ⟨wps, v5, rfl, s4, h4, nw4, nq4, R4⟩ := hh_
        dsimp only [q_]
        clear q_
        rw [List.getElem?_map] at hj
        have hjl : j < fps.length := by
          cases e : fps[j]? with
          | none => rw [e] at hj; cases hj
          | some r => exact (List.getElem?_eq_some_iff.mp e).1
        obtain ⟨rp, q1⟩ := get_some (xs := fps) (i := j) hjl
        rw [q1] at hj
        have ey : V.ref rp = y := Option.some.inj hj
        subst ey
        obtain ⟨hd, q2⟩ := get_some (xs := al) (i := j) (by omega)
        have hhl := hmem hd (List.mem_of_getElem? q2)
        have hrp := s4 _ _ (R2.2 j rp (natI hd) q1 (by rw [List.getElem?_map, q2]; rfl))
        have hwl : wps.length + N ≤ 5000 := by
          have e1 := R4.1
          rw [List.length_map, M20.flat_ext, List.length_take, Nat.min_eq_left (by omega)] at e1
          have : (j + 1) * N ≤ al.length * N := Nat.mul_le_mul_right _ (by omega)
          rw [Nat.succ_mul] at this
          omega
        refine ⟨_, rfl, .inl ⟨rfl, _, SqL.of h4⟩, _, rfl, (N : Int), rfl, by omega, by omega, ?_⟩
        refine comp_rows (n := ((N : Int)).toNat) (fun x => natI (hd ++ [x])) (by omega) (fun x H5 R hx s5 hR => ?_) (fun D H5 qs s5 hD hqa hqn => ?_)
        · rw [Int.zero_add]
          refine ⟨_, rfl, _, rfl, by show 1 ≤ sizeLine; decide, fun q hq => ?_⟩
          have s56 : Same H5 (upd H5 q (.lst [.int (x : Int)])) := Same.upd hq
          have hq6 : upd H5 q (.lst [.int (x : Int)]) q = some (.lst [.int (x : Int)]) := upd_same
          generalize upd H5 q (.lst [.int (x : Int)]) = H6 at s56 hq6 ⊢
          refine ⟨rp, q, _, _, rfl, rfl, s56 _ _ (s5 _ _ hrp), hq6, ?_, fun l hl => ?_⟩
          · rw [ints_len, natI_len, hhl]
            exact Nat.le_trans (show i + 1 ≤ 2000 by omega) (by decide)
          rw [natI_snoc]
          exact hR l _ (s56.trans (Same.upd hl)) (s56.free hl) upd_same
        have s56 : Same H5 (upd H5 D (.lst (qs.map V.ref))) := Same.upd hD
        have hD6 : upd H5 D (.lst (qs.map V.ref)) D = some (.lst (qs.map V.ref)) := upd_same
        generalize upd H5 D (.lst (qs.map V.ref)) = H6 at s56 hD6 ⊢
        rw [Int.toNat_natCast] at hqa
        have hql : qs.length = N := by have := hqa.1; rw [List.length_map, List.length_range] at this; exact this
        have s46 := s5.trans s56
        refine ⟨lw, D, _, _, rfl, rfl, s46 _ _ h4, hD6, ?_, ?_⟩
        · rw [List.length_map, List.length_map, hql]
          exact Nat.le_trans hwl (by decide)
        have nq : lw ∉ qs := fun z => by
          have := hqn lw z
          rw [h4] at this
          cases this
        refine ⟨wps ++ qs, _, rfl, fun b o e => by rw [upd_ne (ne_of_none e hlw)]; exact s46 _ _ (s4 _ _ e), by rw [upd_same, List.map_append], fun z => ?_, fun q hq => ?_, ?_⟩
        · rcases List.mem_append.mp z with z | z
          · exact nw4 z
          · exact nq z
        · rcases List.mem_append.mp hq with hq | hq
          · exact nq4 q hq
          · exact (s2.trans s4).free (hqn q hq)
        · have e : ((al.take (j + 1)).flatMap (M20.ext N)).map natI = ((al.take j).flatMap (M20.ext N)).map natI ++ (List.range N).map fun x => natI (hd ++ [x]) := by
            rw [List.take_succ, q2, List.flatMap_append, List.map_append]
            congr 1
            show ((M20.ext N hd) ++ []).map natI = _
            rw [List.append_nil]
            unfold M20.ext
            rw [List.map_map]
            rfl
          rw [e]
          refine RowsAt.but (w := lw) (rows_app (R4.same s46) (hqa.same s56)) But.upd fun z => ?_
          rcases List.mem_append.mp z with z | z
          · exact nw4 z
          · exact nq z
      · intro σ H4 hh_
        refine goal_let ?_
        intro q_
        obtain ⟨wps, v5, rfl, s4, h4, nw4, nq4, R4⟩ := hh_
        dsimp only [q_]
        clear q_
        rw [List.length_map, List.take_of_length_le (by omega)] at R4
        exact ⟨_, rfl, lw, _, _, _, rfl, s2.trans s4, wps, h4, R4, s2.free hlw, nq4⟩
    · intro σ H2 hh_
      refine goal_let ?_
      intro q_
      obtain ⟨lf, v3, v4, v5, rfl, s2, hTb⟩ := hh_
      dsimp only [q_]
      clear q_
      rw [Int.toNat_natCast] at hTb
      exact ⟨_, rfl, k lf H2 s2 hTb⟩
def RuOk (n : Nat) (Ws : List (List Int)) : Prop := ∀ u ∈ Ws, M11.Steps n u ∧ u.length ≤ 1000
theorem RuOk.snoc {n : Nat} {Ws : List (List Int)} {u : List Int} (h : RuOk n Ws) (h1 : M11.Steps n u) (h2 : u.length ≤ 1000) : RuOk n (Ws ++ [u]) := fun v hv => by
  rcases List.mem_append.mp hv with hv | hv
  · exact h v hv
  · rw [List.mem_singleton.mp hv]
    exact ⟨h1, h2⟩
theorem ok__law_rules (T : Txt K mg A) : FnOk P w K mg base (CXw P w) 3 A.f__law_rules A.d__law_rules ["_law_script", "_law_letters", "_law_number"] (spRules K) := by
  have G__law_mix : FnOk P w K mg base (CXw P w) 1 A.f__law_mix A.d__law_mix ["_law_number", "_law_place"] spMix := ok__law_mix T
  have G__law_word : FnOk P w K mg base (CXw P w) 2 A.f__law_word A.d__law_word ["_law_cells", "_law_letters"] spWord := ok__law_word T
  refine T._law_rules.F.okN sc__law_rules (fun vs H Q E h => ?_) (fun cdv AA outer s H vs Q E hr h => ?_)
  · obtain ⟨a, ns, n, z, rfl, _⟩ := h
    rfl
  · obtain ⟨a, ns, n, z, rfl, hS, hlen, hn1, hn2, hz, k⟩ := h
    refine ⟨_, (pss_cons (ps_set (i := 3) sc__law_rules.nd rfl (Or.inl rfl) (pe_lst pa_nil))
      (pss_cons (ps_for PassesOwn.never rfl (pi_range1 rfl T.z_range (pa_cons (pv 1) pa_nil)) (pg_name (i := 4) sc__law_rules.nd rfl (Or.inl rfl))
        (pss_cons (ps_set (i := 5) sc__law_rules.nd rfl (Or.inl rfl) (pe_call (G__law_mix) (hr.mono (by decide)) rfl T._law_mix.m T._law_mix.F.kp T._law_mix.b .nil passF (pa_cons (pv 2) (pa_cons (pv 4) pa_nil))))
        (pss_one (ps_cut (ps_if (pt_cmpR op_eq (pe_op op_mod (pv 5) pe_int) pe_int (nomark _))
          (pss_one (ps_expr (pe_bm PySem.F.plainAttrs_list PySem.F.slot_list_append PySem.F.type_list_append mt_append (pv 3) (pa_cons (pe_op op_repT (pe_tup (pa_cons (pe_op op_add (pv 4) pe_int) pa_nil)) (pe_op op_add pe_int (pe_op op_mod (pe_op op_fdiv (pv 5) pe_int) pe_int))) pa_nil))))
          pss_nil)))))
      (pss_cons (ps_set (i := 6) sc__law_rules.nd rfl (Or.inl rfl) (pe_lst pa_nil))
      (pss_cons (ps_for PassesOwn.never rfl (pi_list (pe_slice sl_list (pv 0) (po_some pe_int) (po_some pe_int))) (pg_name (i := 7) sc__law_rules.nd rfl (Or.inl rfl))
        (pss_cons (ps_expr (pe_bm PySem.F.plainAttrs_list PySem.F.slot_list_append PySem.F.type_list_append mt_append (pv 6) (pa_cons (pv 7) pa_nil)))
        (pss_one (ps_cut (ps_if (pt_cmpR op_eq (pe_op op_mod (pe_call (G__law_mix) (hr.mono (by decide)) rfl T._law_mix.m T._law_mix.F.kp T._law_mix.b .nil passF (pa_cons (pv 7) (pa_cons pe_int pa_nil))) pe_int) pe_int (nomark _))
          (pss_cons (ps_expr (pe_bm PySem.F.plainAttrs_list PySem.F.slot_list_append PySem.F.type_list_append mt_append (pv 3) (pa_cons (pe_op op_repT (pe_call (G__law_word) (hr.mono (by decide)) rfl T._law_word.m T._law_word.F.kp T._law_word.b .nil passF (pa_cons (pv 6) (pa_cons (pv 1) pa_nil))) (pe_op op_add pe_int (pe_op op_mod (pv 2) pe_int))) pa_nil)))
          (pss_one (ps_set (i := 6) sc__law_rules.nd rfl (Or.inl rfl) (pe_lst pa_nil))))
          pss_nil)))))
      (pss_cons (ps_cut (ps_if (pt_cmpR op_gt (pe_callB call_len_seq rfl T.z_len PySem.boot_len (pa_cons (pv 0) pa_nil)) pe_int (nomark _))
        (pss_one (ps_expr (pe_bm PySem.F.plainAttrs_list PySem.F.slot_list_append PySem.F.type_list_append mt_append (pv 3) (pa_cons (pe_call (G__law_word) (hr.mono (by decide)) rfl T._law_word.m T._law_word.F.kp T._law_word.b .nil passF (pa_cons (pe_slice sl_list (pv 0) (po_some pe_int) (po_some pe_int)) (pa_cons (pv 1) pa_nil))) pa_nil))))
        pss_nil))
      (pss_one (ps_ret (pv 3)))))))), ?_⟩
    try dsimp only [cx_noxK, cx_K]
    refine seq_let5 ?_
    intro u_5 u_4 u_3 u_2 u_1
    refine ⟨Nat.zero_le _, fun lr hlr => ?_⟩
    have s0 : Same H (upd H lr (.lst [])) := Same.upd hlr
    have h0 : upd H lr (.lst []) lr = some (.lst (([] : List Addr).map V.ref)) := upd_same
    generalize upd H lr (.lst []) = H0 at s0 h0 ⊢
    refine ⟨_, rfl, (n : Int), rfl, by omega, by omega, ?_⟩
    let LI_1 : Nat → St → Hp → Prop := fun i σ H2 => ∃ (ps : List Addr) (Ws : List (List Int)) (v4 v5 : Option V), σ = [some (.ref a), some (.int n), some (.int z), some (.ref lr), v4, v5, none, none] ∧ Same H H2 ∧ H2 lr = some (.lst (ps.map V.ref)) ∧ TupsAt H2 ps Ws ∧ RuOk n Ws ∧ Ws.length ≤ i
    refine for_range (lo := 0) (n := ((n : Int)).toNat) LI_1
      ⟨[], [], none, none, rfl, s0, h0, ⟨rfl, fun i r ns h1 => by simp at h1⟩, fun u hu => by simp at hu, Nat.le_refl _⟩ ?_ ?_
    · intro i σ H2 hi hh_
      refine goal_let ?_
      intro q_
      obtain ⟨ps, Ws, v4, v5, rfl, s2, h2, t2, hW, hWl⟩ := hh_
      dsimp only [q_]
      clear q_
      dsimp only [gName]
      refine blk_let1 ?_
      intro D_0 w_1
      have hin : i < n := by omega
      have hpl : ps.length = Ws.length := t2.1
      refine ⟨_, rfl, _, rfl, z, _, rfl, by omega, by omega, fun sm hsm => ?_⟩
      refine ⟨_, ?_, fun _ _ h => h⟩
      refine ⟨_, rfl, _, _, rfl, rfl, (by show (0 : Int) < 2; decide), rfl, _, rfl, ite2 (fun _ => ?_) (fun _ => ⟨ps, Ws, _, _, rfl, s2, h2, t2, hW, by omega⟩)⟩
      refine ⟨_, rfl, .inl ⟨rfl, _, SqL.of h2⟩, _, rfl, _, _, rfl, rfl, by show 1 ≤ sizeLine; decide, fun q hq => ?_⟩
      have s23 : Same H2 (upd H2 q (.tup [.int (0 + (i : Int) + 1)])) := Same.upd hq
      have h3 : upd H2 q (.tup [.int (0 + (i : Int) + 1)]) q = some (.tup (intV [0 + (i : Int) + 1])) := upd_same
      generalize upd H2 q (.tup [.int (0 + (i : Int) + 1)]) = H3 at s23 h3 ⊢
      obtain ⟨m, hm, hm6⟩ : ∃ m : Nat, 1 + sm / 2 % 6 = (m : Int) ∧ m ≤ 6 := by
        have e1 := Int.emod_nonneg (sm / 2) (show (6 : Int) ≠ 0 by decide)
        have e2 := Int.emod_lt_of_pos (sm / 2) (show (0 : Int) < 6 by decide)
        exact ⟨(1 + sm / 2 % 6).toNat, by omega, by omega⟩
      refine ⟨_, rfl, _, _, rfl, rfl, ⟨by decide, by decide⟩, _, _, rfl, rfl, (by show (0 : Int) < 6; decide), _, _, rfl, rfl, ?_⟩
      simp only [hm]
      refine ⟨q, _, _, rfl, rfl, h3, by omega, by omega, ?_, fun q4 H4 s34 h4 => ?_⟩
      · rw [ints_len, Int.toNat_natCast]
        exact Nat.le_trans (show 1 * m ≤ 6 by omega) (by decide)
      rw [Int.toNat_natCast, rep_flat] at h4
      have s24 := s23.trans s34
      refine ⟨lr, _, _, rfl, rfl, s24 _ _ h2, ?_, ?_⟩
      · rw [List.length_map]
        exact Nat.lt_of_le_of_lt (show ps.length ≤ 100 by omega) (by decide)
      refine ⟨ps ++ [q4], Ws ++ [(List.replicate m [0 + (i : Int) + 1]).flatten], _, _, rfl, fun b o e => by rw [upd_ne (ne_of_none e hlr)]; exact s24 _ _ (s2 _ _ e), by rw [upd_same, List.map_append]; rfl, tups_upd ((t2.same s24).snoc h4) (s24 _ _ h2), hW.snoc (fun s hs => ?_) (by rw [flat_lenR]; show 1 * m ≤ 1000; omega), by rw [List.length_append]; simp only [List.length_cons, List.length_nil]; omega⟩
      have e := List.mem_singleton.mp (flat_mem hs)
      rw [e]
      exact ⟨by omega, by omega⟩
    intro σ H2 hh_
    refine goal_let ?_
    intro q_
    obtain ⟨ps, Ws, v4, v5, rfl, s2, h2, t2, hW, hWl⟩ := hh_
    dsimp only [q_]
    clear q_
    refine ⟨Nat.zero_le _, fun lk hlk => ?_⟩
    have s23 : Same H2 (upd H2 lk (.lst [])) := Same.upd hlk
    have h3 : upd H2 lk (.lst []) lk = some (.lst (intV [])) := upd_same
    have hne0 : lr ≠ lk := fun e => by rw [← e, h2] at hlk; cases hlk
    have nlk : H lk = none := s2.free hlk
    generalize upd H2 lk (.lst []) = H3 at s23 h3 ⊢
    have s3 := s2.trans s23
    refine ⟨_, rfl, 2, rfl, 14, rfl, a, intV ns, rfl, s3.seq hS, fun lp hlp => ?_⟩
    rw [cut_ints]
    generalize hcs : (ns.drop (HT.sIx ns.length 0 (some 2))).take (HT.sIx ns.length ns.length (some 14) - HT.sIx ns.length 0 (some 2)) = cs
    have hcl : cs.length ≤ 63 := by
      rw [← hcs, List.length_take, List.length_drop]
      omega
    have s34 : Same H3 (upd H3 lp (.lst (intV cs))) := Same.upd hlp
    have hp4 : upd H3 lp (.lst (intV cs)) lp = some (.lst (intV cs)) := upd_same
    have npr : lp ≠ lr := fun e => by rw [e, s23 _ _ h2] at hlp; cases hlp
    have npk : lp ≠ lk := fun e => by rw [e, h3] at hlp; cases hlp
    generalize upd H3 lp (.lst (intV cs)) = H4 at s34 hp4 ⊢
    refine ⟨lp, rfl, ⟨_, SqL.of hp4⟩, ?_⟩
    let LI_2 : Nat → St → Hp → Prop := fun i σ H5 => ∃ (ps : List Addr) (Ws : List (List Int)) (lk : Addr) (kv : List Int) (v7 : Option V), σ = [some (.ref a), some (.int n), some (.int z), some (.ref lr), v4, v5, some (.ref lk), v7] ∧ Same H H5 ∧ H lk = none ∧ lr ≠ lk ∧ lp ≠ lk ∧ H5 lp = some (.lst (intV cs)) ∧ H5 lr = some (.lst (ps.map V.ref)) ∧ TupsAt H5 ps Ws ∧ RuOk n Ws ∧ Ws.length ≤ 3 + i ∧ H5 lk = some (.lst (intV kv)) ∧ kv.length ≤ i
    refine for_list (K := K) (a := lp) (xs := intV cs) LI_2
      ⟨ps, Ws, lk, [], none, rfl, s3.trans s34, nlk, hne0, npk, hp4, s34 _ _ (s23 _ _ h2), (t2.same s23).same s34, hW, by omega, s34 _ _ h3, Nat.zero_le _⟩ (fun i σ H5 _ hh => by obtain ⟨_, _, _, _, _, _, _, _, _, _, e, _⟩ := hh; exact SqL.of e) ?_ ?_
    · intro i y σ H5 hi hh_
      refine goal_let ?_
      intro q_
      obtain ⟨ps, Ws, lk, kv, v7, rfl, s5, nlk, hne, npk, hp5, h5, t5, hW, hWl, hk5, hkl⟩ := hh_
      dsimp only [q_]
      clear q_
      dsimp only [gName]
      refine blk_let1 ?_
      intro D_0 w_1
      obtain ⟨c, rfl, hc⟩ := ints_of_at hi
      have hil : i < cs.length := (List.getElem?_eq_some_iff.mp hc).1
      have hpl : ps.length = Ws.length := t5.1
      refine ⟨_, rfl, .inl ⟨rfl, _, SqL.of hk5⟩, _, rfl, lk, _, _, rfl, rfl, hk5, ?_, ?_⟩
      · rw [ints_len]
        exact Nat.lt_of_le_of_lt (show kv.length ≤ 63 by omega) (by decide)
      have ek : upd H5 lk (.lst (intV kv ++ [.int c])) lk = some (.lst (intV (kv ++ [c]))) := by rw [upd_same, ints_app]; rfl
      have s6 : Same H (upd H5 lk (.lst (intV kv ++ [.int c]))) := fun b o e => by rw [upd_ne (ne_of_none e nlk)]; exact s5 _ _ e
      have h6 : upd H5 lk (.lst (intV kv ++ [.int c])) lr = some (.lst (ps.map V.ref)) := by rw [upd_ne hne]; exact h5
      have hp6 : upd H5 lk (.lst (intV kv ++ [.int c])) lp = some (.lst (intV cs)) := by rw [upd_ne npk]; exact hp5
      have t6 := tups_upd (o := .lst (intV kv ++ [.int c])) t5 hk5
      generalize upd H5 lk (.lst (intV kv ++ [.int c])) = H6 at ek s6 h6 hp6 t6 ⊢
      have hkl6 : (kv ++ [c]).length = kv.length + 1 := by rw [List.length_append]; rfl
      generalize kv ++ [c] = kw at ek hkl6
      refine ⟨_, ?_, fun _ _ h => h⟩
      refine ⟨_, rfl, c, 3, rfl, by decide, by decide, fun r hr => ?_⟩
      refine ⟨_, _, rfl, rfl, (by show (0 : Int) < 4; decide), rfl, _, rfl, ite2 (fun _ => ?_) (fun _ => ⟨ps, Ws, lk, kw, _, rfl, s6, nlk, hne, npk, hp6, h6, t6, hW, by omega, ek, by omega⟩)⟩
      refine ⟨_, rfl, .inl ⟨rfl, _, SqL.of h6⟩, _, rfl, _, rfl, lk, kw, n, rfl, ek, by omega, hn1, by omega, fun qw u H7 s67 h7 hst hul => ?_⟩
      obtain ⟨m, hm, hm2⟩ : ∃ m : Nat, 1 + z % 2 = (m : Int) ∧ m ≤ 2 := by
        have e1 := Int.emod_nonneg z (show (2 : Int) ≠ 0 by decide)
        have e2 := Int.emod_lt_of_pos z (show (0 : Int) < 2 by decide)
        exact ⟨(1 + z % 2).toNat, by omega, by omega⟩
      refine ⟨_, rfl, _, _, rfl, rfl, (by show (0 : Int) < 2; decide), _, _, rfl, rfl, ?_⟩
      simp only [hm]
      refine ⟨qw, _, _, rfl, rfl, h7, by omega, by omega, ?_, fun q8 H8 s78 h8 => ?_⟩
      · rw [ints_len, Int.toNat_natCast]
        exact Nat.le_trans (Nat.mul_le_mul (show u.length ≤ 64 by omega) hm2) (by decide)
      rw [Int.toNat_natCast, rep_flat] at h8
      have s68 := s67.trans s78
      have h8r := s68 _ _ h6
      refine ⟨lr, _, _, rfl, rfl, h8r, ?_, Nat.zero_le _, fun lk2 hlk2 => ?_⟩
      · rw [List.length_map]
        exact Nat.lt_of_le_of_lt (show ps.length ≤ 100 by omega) (by decide)
      have e9 : upd H8 lr (.lst (ps.map V.ref ++ [V.ref q8])) lr = some (.lst ((ps ++ [q8]).map V.ref)) := by rw [upd_same, List.map_append]; rfl
      have s9 : Same H (upd H8 lr (.lst (ps.map V.ref ++ [V.ref q8]))) := fun b o e => by rw [upd_ne (ne_of_none e hlr)]; exact s68 _ _ (s6 _ _ e)
      have hp9 : upd H8 lr (.lst (ps.map V.ref ++ [V.ref q8])) lp = some (.lst (intV cs)) := by rw [upd_ne npr]; exact s68 _ _ hp6
      have t9 := tups_upd (o := .lst (ps.map V.ref ++ [V.ref q8])) ((t6.same s68).snoc h8) h8r
      generalize upd H8 lr (.lst (ps.map V.ref ++ [V.ref q8])) = H9 at hlk2 e9 s9 hp9 t9 ⊢
      have s9a : Same H9 (upd H9 lk2 (.lst [])) := Same.upd hlk2
      refine ⟨ps ++ [q8], Ws ++ [(List.replicate m u).flatten], lk2, [], _, rfl, s9.trans s9a, s9.free hlk2, (fun e => by rw [← e, e9] at hlk2; cases hlk2), (fun e => by rw [← e, hp9] at hlk2; cases hlk2), s9a _ _ hp9, s9a _ _ e9, t9.same s9a, hW.snoc (fun s hs => hst s (flat_mem hs)) ?_, ?_, upd_same, Nat.zero_le _⟩
      · rw [flat_lenR]
        exact Nat.le_trans (Nat.mul_le_mul (show u.length ≤ 64 by omega) hm2) (by decide)
      · rw [List.length_append]
        simp only [List.length_cons, List.length_nil]
        omega
    intro σ H5 hh_
    refine goal_let ?_
    intro q_
    obtain ⟨ps, Ws, lk, kv, v7, rfl, s5, nlk, hne, npk, hp5, h5, t5, hW, hWl, hk5, hkl⟩ := hh_
    dsimp only [q_]
    clear q_
    rw [ints_len] at hWl
    have hpl : ps.length = Ws.length := t5.1
    let LG_3 : St → Hp → Prop := fun σ' H' => ∃ (Ws : List (List Int)), σ' = [some (.ref a), some (.int n), some (.int z), some (.ref lr), v4, v5, some (.ref lk), v7] ∧ Same H H' ∧ WordsAt H' lr Ws ∧ RuOk n Ws ∧ Ws.length ≤ 200
    refine ⟨LG_3, ?_, ?_⟩
    · refine blk_let0 ?_
      intro D_0
      refine ⟨_, rfl, a, _, rfl, .inl (s5.seq hS), _, _, rfl, rfl, _, rfl, ite2 (fun _ => ?_) (fun _ => ⟨Ws, rfl, s5, ⟨ps, h5, t5⟩, hW, by omega⟩)⟩
      refine ⟨_, rfl, .inl ⟨rfl, _, SqL.of h5⟩, _, rfl, 2, rfl, 62, rfl, a, intV ns, rfl, s5.seq hS, fun lq hlq => ?_⟩
      rw [cut_ints]
      generalize hcs2 : (ns.drop (HT.sIx ns.length 0 (some 2))).take (HT.sIx ns.length ns.length (some 62) - HT.sIx ns.length 0 (some 2)) = cs2
      have hcl2 : cs2.length ≤ 63 := by
        rw [← hcs2, List.length_take, List.length_drop]
        omega
      have s56 : Same H5 (upd H5 lq (.lst (intV cs2))) := Same.upd hlq
      have hq6 : upd H5 lq (.lst (intV cs2)) lq = some (.lst (intV cs2)) := upd_same
      generalize upd H5 lq (.lst (intV cs2)) = H6 at s56 hq6 ⊢
      refine ⟨_, rfl, lq, cs2, n, rfl, hq6, hcl2, hn1, by omega, fun qw u H7 s67 h7 hst hul => ?_⟩
      have s57 := s56.trans s67
      have h7r := s57 _ _ h5
      refine ⟨lr, _, _, rfl, rfl, h7r, ?_, ?_⟩
      · rw [List.length_map]
        exact Nat.lt_of_le_of_lt (show ps.length ≤ 100 by omega) (by decide)
      exact ⟨Ws ++ [u], rfl, fun b o e => by rw [upd_ne (ne_of_none e hlr)]; exact s57 _ _ (s5 _ _ e), ⟨ps ++ [qw], by rw [upd_same, List.map_append]; rfl, tups_upd ((t5.same s57).snoc h7) h7r⟩, hW.snoc hst (by omega), by rw [List.length_append]; simp only [List.length_cons, List.length_nil]; omega⟩
    intro σ' H6 hh_
    refine goal_let ?_
    intro q_
    obtain ⟨Ws, rfl, s6, hWs, hW, hWl⟩ := hh_
    dsimp only [q_]
    clear q_
    exact ⟨_, rfl, k lr Ws H6 s6 hWs hWl hW⟩
theorem ok__law_due (T : Txt K mg A) : FnOk P w K mg base (CXw P w) 3 A.f__law_due A.d__law_due ["_law_letters", "_law_rules_here", "_law_come"] spDue := by
  have G__law_lists : FnOk P w K mg base (CXw P w) 1 A.f__law_lists A.d__law_lists ["_law_letters", "_law_many_here"] spLists := ok__law_lists T
  have G__law_through : FnOk P w K mg base (CXw P w) 2 A.f__law_through A.d__law_through ["_law_turns_here", "_law_word_here", "_law_points"] spThr := ok__law_through T
  refine T._law_due.F.okN sc__law_due (fun vs H Q E h => ?_) (fun cdv AA outer s H vs Q E hr h => ?_)
  · obtain ⟨ra, ca, come, p, n, u0, rules, rfl, _⟩ := h
    rfl
  · obtain ⟨ra, ca, come, p, n, u0, rules, rfl, hRa, hCa, h0, hpm, hp, hcl, hn, hcap, hrl, hru, k⟩ := h
    have hu := Nat.lt_of_succ_lt (hu_of hr)
    refine ⟨_, (pss_cons (ps_set (i := 3) sc__law_due.nd rfl (Or.inl rfl) (pe_lst pa_nil))
      (pss_cons (ps_set (i := 4) sc__law_due.nd rfl (Or.inl rfl) (pe_callB call_len_seq rfl T.z_len PySem.boot_len (pa_cons (pe_ix ix_list (pv 2) pe_int (fun _ _ => rfl)) pa_nil)))
      (pss_cons (ps_for PassesOwn.never rfl (pi_list (pe_call (G__law_lists) (hr.mono (by decide)) rfl T._law_lists.m T._law_lists.F.kp T._law_lists.b .nil passF (pa_cons (pv 0) (pa_cons (pe_callB call_len_seq rfl T.z_len PySem.boot_len (pa_cons (pv 2) pa_nil)) pa_nil)))) (pg_name (i := 5) sc__law_due.nd rfl (Or.inl rfl))
        (pss_cons (ps_setComp (iy := 6) sc__law_due.nd rfl (Or.inl rfl) (fns := ["_law_come"]) (ixs := [2]) (cl := _) rfl (pi_list (pv 5)) (compScope1 rfl rfl (by decide +kernel) rfl (by decide +kernel) rfl (by decide +kernel) (by decide +kernel) rfl rfl rfl rfl) (fun C s H ex => (pe_ix (ix_listK (K := K) rfl) (pv 1) (pv 0) (fun _ _ => rfl))))
        (pss_cons (ps_set (i := 7) sc__law_due.nd rfl (Or.inl rfl) pe_bl)
        (pss_cons (ps_for PassesOwn.never rfl (pi_list (pv 1)) (pg_name (i := 8) sc__law_due.nd rfl (Or.inl rfl))
          (pss_one (ps_set (i := 7) sc__law_due.nd rfl (Or.inl rfl) (pe_and (pv 7) (pe_one (pe_cmpR (op_eqTI hu) (pe_call (G__law_through) (hr.mono (by decide)) rfl T._law_through.m T._law_through.F.kp T._law_through.b .nil passF (pa_cons (pv 6) (pa_cons (pv 8) (pa_cons (pv 4) pa_nil)))) (pe_ix ix_list (pv 2) pe_int (fun _ _ => rfl)) (nomark _)))))))
        (pss_one (ps_cut (ps_if (pt_val (pv 7))
          (pss_one (ps_expr (pe_bm PySem.F.plainAttrs_list PySem.F.slot_list_append PySem.F.type_list_append mt_append (pv 3) (pa_cons (pv 5) pa_nil))))
          pss_nil)))))))
      (pss_one (ps_ret (pv 3)))))), ?_⟩
    try dsimp only [cx_noxK, cx_K]
    refine seq_let3 ?_
    intro u_3 u_2 u_1
    have hc1 : 1 ≤ come.length := by have := (List.getElem?_eq_some_iff.mp h0).1; omega
    have hPu := hpm u0 (List.mem_of_getElem? h0)
    refine ⟨Nat.zero_le _, fun lf hlf => ?_⟩
    have s1 : Same H (upd H lf (.lst [])) := Same.upd hlf
    have h1 : upd H lf (.lst []) lf = some (.lst (([] : List Addr).map V.ref)) := upd_same
    generalize upd H lf (.lst []) = H1 at s1 h1 ⊢
    obtain ⟨cps, hcps, hct⟩ := hCa.same s1
    have hcpl : cps.length = come.length := hct.1
    obtain ⟨ua, q3⟩ := get_some (xs := cps) (i := 0) (by omega)
    have hua := hct.2 0 ua _ q3 h0
    have hlenp : ((intV u0).length : Int) = (p : Int) := by rw [ints_len, hPu.len]
    refine ⟨_, rfl, ca, _, _, .ref ua, rfl, rfl, SqL.of hcps, ref_at (i := 0) q3, ua, _, rfl, .inr (SqT.of hua), ?_⟩
    rw [hlenp]
    have hlenc : ((cps.map V.ref).length : Int) = (come.length : Int) := by rw [List.length_map, hcpl]
    refine ⟨_, rfl, _, rfl, ca, _, rfl, .inl (SqL.of hcps), n, come.length, congrArg (fun z => [V.int (n : Int), V.int z]) hlenc, hn, hc1, hcl, hcap, fun ll H2 s2 hN => ?_⟩
    obtain ⟨lps, hll, hlr, nll, nlr⟩ := hN
    have hal := M20.alls_cap hc1 hcap
    have hmem : ∀ h ∈ M20.alls come.length n, h.length = n ∧ ∀ x ∈ h, x < come.length := fun h hh => M20.alls_mem hh
    unfold dueL at k
    generalize M20.alls come.length n = al at hlr hal hmem k
    have hlpl : lps.length = al.length := by have := hlr.1; rw [List.length_map] at this; exact this
    have hl2 := s2 _ _ h1
    have nfl : lf ∉ lps := fun z => by
      have := nlr lf z
      rw [h1] at this
      cases this
    have nf : lf ≠ ll := fun e => by rw [← e, h1] at nll; cases nll
    obtain ⟨gd, hgd⟩ : ∃ gd : List Nat → List Int → Bool, gd = fun h r => decide (M18.thr (h.map fun r => come.getD r []) p r = u0) := ⟨_, rfl⟩
    have hgd2 : (fun h : List Nat => rules.all fun r => decide (M18.thr (h.map fun r => come.getD r []) p r = u0)) = fun h => rules.all (gd h) := by rw [hgd]
    rw [hgd2] at k
    refine ⟨ll, rfl, ⟨_, SqL.of hll⟩, ?_⟩
    refine for_list (K := K) (a := ll) (xs := lps.map V.ref) (fun i σ H3 => ∃ (fps : List Addr) (v5 v6 v7 v8 : Option V), σ = [some (.int n), some (.ref ra), some (.ref ca), some (.ref lf), some (.int p), v5, v6, v7, v8] ∧ But lf H2 H3 ∧ H3 lf = some (.lst (fps.map V.ref)) ∧ (∀ q ∈ fps, q ∈ lps) ∧ RowsAt H3 fps (((al.take i).filter fun h => rules.all (gd h)).map natI))
      ⟨[], none, none, none, none, rfl, fun _ _ _ e => e, hl2, fun q hq => by simp at hq, ⟨by simp, fun i r ns g1 => by simp at g1⟩⟩ (fun i σ H3 _ hh => by obtain ⟨_, _, _, _, _, _, b, _⟩ := hh; exact SqL.of (b _ _ (Ne.symm nf) hll)) ?_ ?_
    · intro i y σ H3 hi hh_
      refine goal_let ?_
      intro q_
      obtain ⟨fps, v5, v6, v7, v8, rfl, b3, h3, hq3, R3⟩ := hh_
      dsimp only [q_]
      clear q_
      dsimp only [gName]
      refine seq_let3 ?_
      intro w_3 w_2 w_1
      rw [List.getElem?_map] at hi
      have hil : i < lps.length := by
        cases e : lps[i]? with
        | none => rw [e] at hi; cases hi
        | some r => exact (List.getElem?_eq_some_iff.mp e).1
      obtain ⟨rp, q1⟩ := get_some (xs := lps) (i := i) hil
      rw [q1] at hi
      have ey : V.ref rp = y := Option.some.inj hi
      subst ey
      obtain ⟨hd, q2⟩ := get_some (xs := al) (i := i) (by omega)
      obtain ⟨hh1, hh2⟩ := hmem hd (List.mem_of_getElem? q2)
      have nrp : rp ≠ lf := fun e => nfl (by rw [← e]; exact List.mem_of_getElem? q1)
      have hrp := b3 _ _ nrp (hlr.2 i rp (natI hd) q1 (by rw [List.getElem?_map, q2]; rfl))
      have ncl : ca ≠ lf := fun e => by rw [e, h1] at hcps; injection hcps with hcps; injection hcps with hcps; have := congrArg List.length hcps; simp only [List.length_map, List.length_nil] at this; omega
      have hcps3 := b3 _ _ ncl (s2 _ _ hcps)
      have hct3 : TupsAt H3 cps come := hct.keep fun q xs e => b3 _ _ (ne_of e h1 (by intro z; cases z)) (s2 _ _ e)
      have hRa3 : WordsAt H3 ra rules := by
        obtain ⟨rps, e1, e2⟩ := hRa
        have nr : ra ≠ lf := ne_of_none e1 hlf
        exact ⟨rps, b3 _ _ nr (s2 _ _ (s1 _ _ e1)), e2.keep fun q xs e => b3 _ _ (ne_of_none e hlf) (s2 _ _ (s1 _ _ e))⟩
      have hua3 := hct3.2 0 ua _ q3 h0
      refine ⟨_, rfl, rp, rfl, ⟨_, SqL.of hrp⟩, ?_⟩
      refine comp_pure (intV (natI hd)) (fun v => match v with | .int z => .ref (cps.getD z.toNat 0) | v => v) (itl_go (SqL.of hrp)) (itl_yld (SqL.of hrp)) (itl_stop (SqL.of hrp)) (by rw [ints_len, natI_len, hh1]; exact Nat.le_trans hn (by decide)) (fun j x hx R hR => ?_) (fun lm hlm => ?_)
      · obtain ⟨y, rfl, hy⟩ := ints_of_at hx
        obtain ⟨r, hr, rfl⟩ := natI_at hy
        have hrl := hh2 r (List.mem_of_getElem? hr)
        have g1 : cps[r]? = some (cps[r]'(by omega)) := List.getElem?_eq_getElem (by omega)
        have hR' : R (.ref (cps[r]'(by omega))) H3 := by
          have h1 : R (V.ref (cps.getD ((r : Int)).toNat 0)) H3 := hR
          rw [Int.toNat_natCast, List.getD_eq_getElem?_getD, g1] at h1
          exact h1
        exact ⟨_, rfl, _, rfl, ca, _, _, _, rfl, rfl, SqL.of hcps3, ref_at g1, hR'⟩
      rw [refs_of]
      obtain ⟨mps, hmpsE⟩ : ∃ mps, mps = hd.map fun r => cps.getD r 0 := ⟨_, rfl⟩
      obtain ⟨ms, hmsE⟩ : ∃ ms, ms = hd.map fun r => come.getD r [] := ⟨_, rfl⟩
      have hat : ∀ r, r < come.length → cps[r]? = some (cps.getD r 0) ∧ come[r]? = some (come.getD r []) := fun r hr => by
        have g1 : cps[r]? = some (cps[r]'(by omega)) := List.getElem?_eq_getElem (by omega)
        have g2 : come[r]? = some come[r] := List.getElem?_eq_getElem hr
        refine ⟨?_, ?_⟩
        · rw [List.getD_eq_getElem?_getD, g1]; rfl
        · rw [List.getD_eq_getElem?_getD, g2]; rfl
      have hmt : TupsAt H3 mps ms := by
        rw [hmpsE, hmsE]
        refine ⟨by rw [List.length_map, List.length_map], fun j q w g1 g2 => ?_⟩
        rw [List.getElem?_map] at g1 g2
        cases e : hd[j]? with
        | none => rw [e] at g1; cases g1
        | some r =>
          rw [e] at g1 g2
          obtain ⟨e1, e2⟩ := hat r (hh2 r (List.mem_of_getElem? e))
          have g1' : cps.getD r 0 = q := Option.some.inj g1
          have g2' : come.getD r [] = w := Option.some.inj g2
          rw [← g1', ← g2']
          exact hct3.2 r _ _ e1 e2
      have hmsp : ∀ m ∈ ms, M11.Pm p m := fun m hm => by
        rw [hmsE] at hm
        obtain ⟨r, hr, rfl⟩ := List.mem_map.mp hm
        exact hpm _ (List.mem_of_getElem? (hat r (hh2 r hr)).2)
      have hmsl : ms.length = n := by rw [hmsE, List.length_map, hh1]
      rw [← hmpsE]
      have s34 : Same H3 (upd H3 lm (.lst (mps.map V.ref))) := Same.upd hlm
      have h4 : WordsAt (upd H3 lm (.lst (mps.map V.ref))) lm ms := ⟨mps, upd_same, hmt.same s34⟩
      generalize upd H3 lm (.lst (mps.map V.ref)) = H4 at s34 h4 ⊢
      obtain ⟨rps, hrps, hrpt⟩ := hRa3.same s34
      have hrpl : rps.length = rules.length := hrpt.1
      refine ⟨_, rfl, ra, rfl, ⟨_, SqL.of hrps⟩, ?_⟩
      refine for_list (K := K) (a := ra) (xs := rps.map V.ref) (fun j σ H5 => ∃ (v8 : Option V), σ = [some (.int n), some (.ref ra), some (.ref ca), some (.ref lf), some (.int p), some (.ref rp), some (.ref lm), some (.bl ((rules.take j).all (gd hd))), v8] ∧ Same H4 H5) ⟨v8, rfl, fun _ _ e => e⟩ (fun j σ H5 _ hh => by obtain ⟨_, _, s⟩ := hh; exact SqL.of (s _ _ hrps)) ?_ ?_
      · rintro j y σ H5 hj ⟨v8, rfl, s5⟩
        rw [List.getElem?_map] at hj
        have hjl : j < rps.length := by
          cases e : rps[j]? with
          | none => rw [e] at hj; cases hj
          | some r => exact (List.getElem?_eq_some_iff.mp e).1
        obtain ⟨wq, g1⟩ := get_some (xs := rps) (i := j) hjl
        rw [g1] at hj
        have ey : V.ref wq = y := Option.some.inj hj
        subst ey
        obtain ⟨u, g2⟩ := get_some (xs := rules) (i := j) (by omega)
        have hwq := s5 _ _ (hrpt.2 j wq u g1 g2)
        have hus := hru u (List.mem_of_getElem? g2)
        have eT : (rules.take (j + 1)).all (gd hd) = ((rules.take j).all (gd hd) && gd hd u) := by
          rw [List.take_succ, g2, List.all_append]
          simp
        rw [eT]
        cases hb : (rules.take j).all (gd hd) with
        | false => exact ⟨_, rfl, false, rfl, iteF ⟨_, rfl, s5⟩⟩
        | true =>
          refine ⟨_, rfl, true, rfl, iteT ?_⟩
          refine ⟨_, rfl, _, rfl, _, rfl, lm, wq, ms, p, u, rfl, h4.same s5, hmsp, hp, hwq, (by rw [hmsl]; exact hus), by omega, fun lq H6 s6 hq6 => ?_⟩
          have s36 := (s34.trans s5).trans s6
          refine ⟨_, rfl, ca, _, _, .ref ua, rfl, rfl, SqL.of (s36 _ _ hcps3), ref_at (i := 0) q3, lq, ua, _, _, rfl, rfl, SqT.of hq6, SqT.of (s36 _ _ hua3), ?_⟩
          have eg : (true && gd hd u) = decide (M18.thr ms p u = u0) := by rw [hgd, hmsE, Bool.true_and]
          rw [eg]
          exact ⟨some (.ref wq), rfl, s5.trans s6⟩
      · rintro σ H5 ⟨v8, rfl, s5⟩
        have eR : rules.take (rps.map V.ref).length = rules := List.take_of_length_le (by rw [List.length_map]; omega)
        rw [eR]
        have s35 := s34.trans s5
        have b5 : But lf H2 H5 := fun b o n e => s35 _ _ (b3 _ _ n e)
        have hl5 := s35 _ _ h3
        have R5 := R3.same s35
        have eT : (al.take (i + 1)).filter (fun h => rules.all (gd h)) = (al.take i).filter (fun h => rules.all (gd h)) ++ [hd].filter fun h => rules.all (gd h) := by
          rw [List.take_succ, q2, List.filter_append]
          rfl
        have hfl : fps.length ≤ 5000 := by
          have e1 := R3.1
          have e2 := List.length_filter_le (fun h => rules.all (gd h)) (al.take i)
          rw [List.length_map] at e1
          rw [List.length_take] at e2
          omega
        refine ⟨_, ?_, fun _ _ h => h⟩
        refine ⟨_, rfl, _, rfl, ?_⟩
        rw [eT, List.map_append]
        cases hb : rules.all (gd hd) with
        | true =>
          refine iteT ?_
          refine ⟨_, rfl, .inl ⟨rfl, _, SqL.of hl5⟩, _, rfl, lf, _, _, rfl, rfl, hl5, ?_, ?_⟩
          · rw [List.length_map]
            exact Nat.lt_of_le_of_lt hfl (by decide)
          have ef : (([hd].filter fun h => rules.all (gd h)).map natI) = [natI hd] := by rw [List.filter_cons, hb]; rfl
          rw [ef]
          refine ⟨fps ++ [rp], _, _, _, _, rfl, b5.trans But.upd, by rw [upd_same, List.map_append]; rfl, fun q hq => ?_, ?_⟩
          · rcases List.mem_append.mp hq with hq | hq
            · exact hq3 q hq
            · rw [List.mem_singleton.mp hq]
              exact List.mem_of_getElem? q1
          · refine RowsAt.but (w := lf) (R5.snoc (s35 _ _ hrp)) But.upd fun z => ?_
            rcases List.mem_append.mp z with z | z
            · exact nfl (hq3 _ z)
            · exact nrp (List.mem_singleton.mp z).symm
        | false =>
          have ef : (([hd].filter fun h => rules.all (gd h)).map natI) = [] := by rw [List.filter_cons, hb]; rfl
          rw [ef, List.append_nil]
          exact iteF ⟨fps, _, _, _, _, rfl, b5, hl5, hq3, R5⟩
    · intro σ H3 hh_
      refine goal_let ?_
      intro q_
      obtain ⟨fps, v5, v6, v7, v8, rfl, b3, h3, hq3, R3⟩ := hh_
      dsimp only [q_]
      clear q_
      rw [List.length_map, List.take_of_length_le (by omega)] at R3
      exact ⟨_, rfl, k lf H3 (fun b o e => b3 _ _ (ne_of_none e hlf) (s2 _ _ (s1 _ _ e))) ⟨fps, h3, R3⟩⟩
theorem star_t {xs : List PySem.Expr} {j : Nat} {p : PySem.Pos} {es : List PySem.Expr} {env : PySem.Env} : PySem.starEach (.Tuple xs j p :: es) env = (false, PySem.eval (.Tuple xs j p) env) :: PySem.starEach es env := rfl
def edgesN : List (Nat × Nat) := [(70, 2), (71, 2), (17, 3), (18, 3), (8, 4), (9, 4), (5, 5), (6, 5), (2, 12), (2, 13), (1, 200)]
def edges : List (List Int) := [[70, 2], [71, 2], [17, 3], [18, 3], [8, 4], [9, 4], [5, 5], [6, 5], [2, 12], [2, 13], [1, 200]]
theorem edges_eq : edges = edgesN.map fun q => [(q.1 : Int), (q.2 : Int)] := rfl
theorem edges_at {j : Nat} (h : j < 11) : ∃ x y : Nat, edges[j]? = some [(x : Int), (y : Int)] ∧ 1 ≤ x ∧ x ≤ 71 ∧ 1 ≤ y ∧ y ≤ 200 := by
  have hj : j < edgesN.length := h
  have ok : ∀ q ∈ edgesN, 1 ≤ q.1 ∧ q.1 ≤ 71 ∧ 1 ≤ q.2 ∧ q.2 ≤ 200 := by decide
  have g : edgesN[j]? = some edgesN[j] := List.getElem?_eq_getElem hj
  obtain ⟨a1, a2, a3, a4⟩ := ok _ (List.mem_of_getElem? g)
  refine ⟨_, _, ?_, a1, a2, a3, a4⟩
  rw [edges_eq, List.getElem?_map, g]
  rfl
theorem tups_zero (H : Hp) : TupsAt H [] [] := ⟨rfl, fun i r ns h1 => by simp at h1⟩
seal L2.PE L2.PS L2.PSs L2.PA L2.PT
def tPr : List (Int × Int) → TA
  | [] => tNil
  | p :: r => tCons (tTup (tCons (tC (.int p.1)) (tCons (tC (.int p.2)) tNil))) (tPr r)
theorem tups_cons {H : Hp} {q : Addr} {u : List Int} {qs : List Addr} {ws : List (List Int)} (hq : H q = some (.tup (intV u))) (h : TupsAt H qs ws) : TupsAt H (q :: qs) (u :: ws) := by
  refine ⟨by rw [List.length_cons, List.length_cons, h.1], fun i p w e1 e2 => ?_⟩
  cases i with
  | zero =>
    obtain rfl : q = p := by simpa using e1
    obtain rfl : u = w := by simpa using e2
    exact hq
  | succ i => exact h.2 i p w (by simpa using e1) (by simpa using e2)
theorem tPr_go : ∀ (ps : List (Int × Int)) {σ : St} {H : Hp} {Q : List V → Hp → Prop}, (∀ qs H', Same H H' → TupsAt H' qs (ps.map fun p => [p.1, p.2]) → Q (qs.map V.ref) H') → tPr ps σ H Q
  | [], σ, H, Q, h => h [] H (fun _ _ e => e) (tups_zero H)
  | p :: r, σ, H, Q, h => by
    refine ⟨by show 2 ≤ sizeLine; decide, fun q hq => ?_⟩
    refine tPr_go r fun qs H' s' t' => ?_
    exact h (q :: qs) H' ((Same.upd hq).trans s') (tups_cons (s' _ _ upd_same) t')
theorem ok_law (T : Txt K mg A) : FnOk P w K mg base (CXw P w) 9 A.f_law A.d_law ["_law_script"] (spLaw K) := by
  have G__law_mix : FnOk P w K mg base (CXw P w) 1 A.f__law_mix A.d__law_mix ["_law_number", "_law_place"] spMix := ok__law_mix T
  have G__law_turns : FnOk P w K mg base (CXw P w) 2 A.f__law_turns A.d__law_turns ["_law_number", "_law_letters", "_law_points"] spTurns := ok__law_turns T
  have G__law_table : FnOk P w K mg base (CXw P w) 2 A.f__law_table A.d__law_table ["_law_turns_here", "_law_points"] spTable := ok__law_table T
  have G__law_due : FnOk P w K mg base (CXw P w) 3 A.f__law_due A.d__law_due ["_law_letters", "_law_rules_here", "_law_come"] spDue := ok__law_due T
  have G_homes : FnOk P w K mg base (CXw P w) 6 A.f_homes A.d_homes ["letters", "rules", "table"] (spHomes A.c_TooGreat) := ok_homes T
  have G__law_at : FnOk P w K mg base (CXw P w) 1 A.f__law_at A.d__law_at ["_law_script", "_law_k"] (spAt K) := ok__law_at T
  have G__law_rules : FnOk P w K mg base (CXw P w) 3 A.f__law_rules A.d__law_rules ["_law_script", "_law_letters", "_law_number"] (spRules K) := ok__law_rules T
  have G__law_many : FnOk P w K mg base (CXw P w) 1 A.f__law_many A.d__law_many ["_law_letters", "_law_rooms"] spMany := ok__law_many T
  have G__law_same : FnOk P w K mg base (CXw P w) 1 A.f__law_same A.d__law_same ["_law_found", "_law_due_here"] spSame := ok__law_same T
  have G__law_refused : FnOk P w K mg base (CXw P w) 7 A.f__law_refused A.d__law_refused ["_law_letters", "_law_rules_here", "_law_table_here"] spRefused := ok__law_refused T
  refine T.law.F.okN sc_law (fun vs H Q E h => ?_) (fun cdv AA outer s H vs Q E hr h => ?_)
  · obtain ⟨a, ns, rfl, _⟩ := h
    rfl
  · obtain ⟨a, ns, rfl, hS, hlen, k⟩ := h
    have hu3 := Nat.lt_of_le_of_lt (Nat.add_le_add_left (by decide : 2 ≤ 64) _) hr.units
    refine ⟨_, (pss_cons (ps_set (i := 1) sc_law.nd rfl (Or.inl rfl) (pe_call (G__law_mix) (hr.mono (by decide)) rfl T._law_mix.m T._law_mix.F.kp T._law_mix.b .nil passF (pa_cons (pe_call (G__law_at) (hr.mono (by decide)) rfl T._law_at.m T._law_at.F.kp T._law_at.b .nil passF (pa_cons (pv 0) (pa_cons pe_int pa_nil))) (pa_cons pe_int pa_nil))))
      (pss_cons (ps_set (i := 2) sc_law.nd rfl (Or.inl rfl) (pe_op op_add pe_int (pe_op op_mod (pe_op op_fdiv (pv 1) pe_int) pe_int)))
      (pss_cons (ps_set (i := 3) sc_law.nd rfl (Or.inl rfl) (pe_call (G__law_turns) (hr.mono (by decide)) rfl T._law_turns.m T._law_turns.F.kp T._law_turns.b .nil passF (pa_cons (pe_call (G__law_mix) (hr.mono (by decide)) rfl T._law_mix.m T._law_mix.F.kp T._law_mix.b .nil passF (pa_cons (pe_call (G__law_at) (hr.mono (by decide)) rfl T._law_at.m T._law_at.F.kp T._law_at.b .nil passF (pa_cons (pv 0) (pa_cons pe_int pa_nil))) (pa_cons pe_int pa_nil))) (pa_cons (pe_op op_add pe_int (pe_op op_mod (pe_op op_fdiv (pv 1) pe_int) pe_int)) (pa_cons (pv 2) pa_nil)))))
      (pss_cons (ps_set (i := 4) sc_law.nd rfl (Or.inl rfl) (pe_op op_add pe_int (pe_op op_mod (pe_op op_fdiv (pv 1) pe_int) pe_int)))
      (pss_cons (ps_set (i := 5) sc_law.nd rfl (Or.inl rfl) (pe_cmpR op_eq (pe_op op_mod (pe_op op_fdiv (pv 1) pe_int) pe_int) pe_int (nomark _)))
      (pss_cons (ps_cut (ps_if (pt_val (pv 5))
        (pss_cons (ps_set (i := 6) sc_law.nd rfl (Or.inl rfl) (show PE _ _ (tLst (tPr [(70, 2), (71, 2), (17, 3), (18, 3), (8, 4), (9, 4), (5, 5), (6, 5), (2, 12), (2, 13), (1, 200)])) from (pe_lst (pa_cons (pe_tup (pa_cons pe_int (pa_cons pe_int pa_nil))) (pa_cons (pe_tup (pa_cons pe_int (pa_cons pe_int pa_nil))) (pa_cons (pe_tup (pa_cons pe_int (pa_cons pe_int pa_nil))) (pa_cons (pe_tup (pa_cons pe_int (pa_cons pe_int pa_nil))) (pa_cons (pe_tup (pa_cons pe_int (pa_cons pe_int pa_nil))) (pa_cons (pe_tup (pa_cons pe_int (pa_cons pe_int pa_nil))) (pa_cons (pe_tup (pa_cons pe_int (pa_cons pe_int pa_nil))) (pa_cons (pe_tup (pa_cons pe_int (pa_cons pe_int pa_nil))) (pa_cons (pe_tup (pa_cons pe_int (pa_cons pe_int pa_nil))) (pa_cons (pe_tup (pa_cons pe_int (pa_cons pe_int pa_nil))) (pa_cons (pe_tup (pa_cons pe_int (pa_cons pe_int pa_nil))) pa_nil star_t) star_t) star_t) star_t) star_t) star_t) star_t) star_t) star_t) star_t) star_t))))
        (pss_cons (ps_asg (pe_ix ix_list (pv 6) (pe_op op_mod (pe_op op_fdiv (pv 1) pe_int) pe_int) (fun _ _ => rfl)) (pg_tup rfl (pgs_cons (pg_name (i := 2) sc_law.nd rfl (Or.inl rfl)) (pgs_cons (pg_name (i := 4) sc_law.nd rfl (Or.inl rfl)) pgs_nil))))
        (pss_one (ps_set (i := 3) sc_law.nd rfl (Or.inl rfl) (pe_lst (pa_cons (pe_callTy call_tuple_of rfl T.z_tuple PyProof.Rows.boot_tuple (pa_cons (pe_op op_cat (pe_listRange2 rfl rfl T.z_list rfl T.z_range (pa_cons pe_int (pa_cons (pv 2) pa_nil))) (pe_lst (pa_cons pe_int pa_nil))) pa_nil)) pa_nil))))))
        pss_nil))
      (pss_cons (ps_asg (pe_call (G__law_table) (hr.mono (by decide)) rfl T._law_table.m T._law_table.F.kp T._law_table.b .nil passF (pa_cons (pv 3) (pa_cons (pv 2) pa_nil))) (pg_tup rfl (pgs_cons (pg_name (i := 7) sc_law.nd rfl (Or.inl rfl)) (pgs_cons (pg_name (i := 8) sc_law.nd rfl (Or.inl rfl)) pgs_nil))))
      (pss_cons (ps_cut (ps_if (PW.pt (pw_and (pt_not (pt_val (pv 5))) (pw_and1 (pt_cmpR op_gt (pe_call (G__law_many) (hr.mono (by decide)) rfl T._law_many.m T._law_many.F.kp T._law_many.b .nil passF (pa_cons (pv 4) (pa_cons (pe_callB call_len_seq rfl T.z_len PySem.boot_len (pa_cons (pv 8) pa_nil)) pa_nil))) pe_int (nomark _)))))
        (pss_one (ps_set (i := 4) sc_law.nd rfl (Or.inl rfl) pe_int))
        pss_nil))
      (pss_cons (ps_set (i := 9) sc_law.nd rfl (Or.inl rfl) (pe_lst pa_nil))
      (pss_cons (ps_cut (ps_if (pt_not (pt_val (pv 5)))
        (pss_one (ps_set (i := 9) sc_law.nd rfl (Or.inl rfl) (pe_call (G__law_rules) (hr.mono (by decide)) rfl T._law_rules.m T._law_rules.F.kp T._law_rules.b .nil passF (pa_cons (pv 0) (pa_cons (pv 4) (pa_cons (pe_call (G__law_mix) (hr.mono (by decide)) rfl T._law_mix.m T._law_mix.F.kp T._law_mix.b .nil passF (pa_cons (pe_call (G__law_at) (hr.mono (by decide)) rfl T._law_at.m T._law_at.F.kp T._law_at.b .nil passF (pa_cons (pv 0) (pa_cons pe_int pa_nil))) (pa_cons pe_int pa_nil))) pa_nil))))))
        pss_nil))
      (pss_cons (ps_set (i := 10) sc_law.nd rfl (Or.inl rfl) (pe_lst (pa_cons (pe_callTy call_list_of rfl T.z_list PyProof.Rows.boot_list (pa_cons (pv 9) pa_nil)) (pa_cons (pe_comp (fns := []) (ixs := []) (cl := []) rfl (pi_list (pv 7)) (compScope0 (by decide +kernel) (by decide +kernel) rfl (by decide +kernel) rfl) (fun C s H ex => (pe_callTy (call_list_ofK (K := K) rfl) rfl T.z_list PyProof.Rows.boot_list (pa_cons (pv 0) pa_nil)))) pa_nil))))
      (pss_cons (ps_if (pt_cmpR op_gt (pe_call (G__law_many) (hr.mono (by decide)) rfl T._law_many.m T._law_many.F.kp T._law_many.b .nil passF (pa_cons (pv 4) (pa_cons (pe_callB call_len_seq rfl T.z_len PySem.boot_len (pa_cons (pv 8) pa_nil)) pa_nil))) pe_int (nomark _))
        (pss_one (ps_ret (pe_and (pe_call (G__law_refused) (hr.mono (by decide)) rfl T._law_refused.m T._law_refused.F.kp T._law_refused.b .nil passF (pa_cons (pv 4) (pa_cons (pe_ix ix_list (pv 10) pe_int (fun _ _ => rfl)) (pa_cons (pe_ix ix_list (pv 10) pe_int (fun _ _ => rfl)) pa_nil)))) (pe_one (pe_cmpR (op_eqWT hu3) (pv 10) (pe_lst (pa_cons (pv 9) (pa_cons (pv 7) pa_nil))) (nomark _))))))
        pss_nil)
      (pss_cons (ps_set (i := 11) sc_law.nd rfl (Or.inl rfl) (pe_call (G__law_due) (hr.mono (by decide)) rfl T._law_due.m T._law_due.F.kp T._law_due.b .nil passF (pa_cons (pv 4) (pa_cons (pv 9) (pa_cons (pv 8) pa_nil)))))
      (pss_cons (ps_set (i := 12) sc_law.nd rfl (Or.inl rfl) (pe_call (G_homes) (hr.mono (by decide)) rfl T.homes.m T.homes.F.kp T.homes.b .nil passF (pa_cons (pv 4) (pa_cons (pe_ix ix_list (pv 10) pe_int (fun _ _ => rfl)) (pa_cons (pe_ix ix_list (pv 10) pe_int (fun _ _ => rfl)) pa_nil)))))
      (pss_cons (ps_cut (ps_if (PW.pt (pw_or (pt_not (pt_val (pe_call (G__law_same) (hr.mono (by decide)) rfl T._law_same.m T._law_same.F.kp T._law_same.b .nil passF (pa_cons (pv 12) (pa_cons (pv 11) pa_nil))))) (pw_or1 (pt_val (pv 5)))))
        (pss_one (ps_ret (pe_call (G__law_same) (hr.mono (by decide)) rfl T._law_same.m T._law_same.F.kp T._law_same.b .nil passF (pa_cons (pv 12) (pa_cons (pv 11) pa_nil)))))
        pss_nil))
      (pss_cons (ps_expr (pe_bm PySem.F.plainAttrs_list PySem.F.slot_list_append PySem.F.type_list_append mt_append (pv 12) (pa_cons (pe_lst (pa_cons pe_int pa_nil)) pa_nil)))
      (pss_cons (ps_expr (pe_bm PySem.F.plainAttrs_list PySem.F.slot_list_append PySem.F.type_list_append mt_append (pe_ix ix_list (pv 12) pe_int (fun _ _ => rfl)) (pa_cons pe_int pa_nil)))
      (pss_one (ps_ret (pe_and (pe_call (G__law_same) (hr.mono (by decide)) rfl T._law_same.m T._law_same.F.kp T._law_same.b .nil passF (pa_cons (pe_call (G_homes) (hr.mono (by decide)) rfl T.homes.m T.homes.F.kp T.homes.b .nil passF (pa_cons (pv 4) (pa_cons (pe_ix ix_list (pv 10) pe_int (fun _ _ => rfl)) (pa_cons (pe_ix ix_list (pv 10) pe_int (fun _ _ => rfl)) pa_nil)))) (pa_cons (pv 11) pa_nil))) (pe_one (pe_cmpR (op_eqWT hu3) (pv 10) (pe_lst (pa_cons (pv 9) (pa_cons (pv 7) pa_nil))) (nomark _))))))))))))))))))))))), ?_⟩
    try dsimp only [cx_noxK, cx_K]
    refine seq_let17 ?_
    intro u_17 u_16 u_15 u_14 u_13 u_12 u_11 u_10 u_9 u_8 u_7 u_6 u_5 u_4 u_3 u_2 u_1
    refine ⟨_, rfl, a, ns, 0, rfl, hS, by omega, fun z0 => ⟨z0, 0, rfl, by decide, by decide, fun num hnum => ?_⟩⟩
    obtain ⟨p, hpp, hp4⟩ : ∃ p : Nat, 1 + num / 4 % 4 = (p : Int) ∧ 1 ≤ p ∧ p ≤ 4 := by
      have h1 := Int.emod_nonneg (num / 4) (show (4 : Int) ≠ 0 by decide)
      have h2 := Int.emod_lt_of_pos (num / 4) (show (0 : Int) < 4 by decide)
      exact ⟨(1 + num / 4 % 4).toNat, by omega, by omega, by omega⟩
    obtain ⟨L, hLL, hL3⟩ : ∃ L : Nat, 1 + num / 2 % 2 = (L : Int) ∧ 1 ≤ L ∧ L ≤ 2 := by
      have h1 := Int.emod_nonneg (num / 2) (show (2 : Int) ≠ 0 by decide)
      have h2 := Int.emod_lt_of_pos (num / 2) (show (0 : Int) < 2 by decide)
      exact ⟨(1 + num / 2 % 2).toNat, by omega, by omega, by omega⟩
    obtain ⟨n0, hnn, hn3⟩ : ∃ n : Nat, 1 + num / 16 % 3 = (n : Int) ∧ 1 ≤ n ∧ n ≤ 3 := by
      have h1 := Int.emod_nonneg (num / 16) (show (3 : Int) ≠ 0 by decide)
      have h2 := Int.emod_lt_of_pos (num / 16) (show (0 : Int) < 3 by decide)
      exact ⟨(1 + num / 16 % 3).toNat, by omega, by omega, by omega⟩
    refine ⟨_, rfl, _, _, rfl, rfl, ⟨by decide, by decide⟩, _, _, rfl, rfl, (by show (0 : Int) < 4; decide), _, _, rfl, rfl, ?_⟩
    simp only [hpp]
    refine ⟨_, rfl, a, ns, 0, rfl, hS, by omega, fun z1 => ⟨z1, 1, rfl, by decide, by decide, fun m1 hm1 => ?_⟩⟩
    refine ⟨_, rfl, _, _, rfl, rfl, ⟨by decide, by decide⟩, _, _, rfl, rfl, (by show (0 : Int) < 2; decide), _, _, rfl, rfl, ?_⟩
    simp only [hLL]
    refine ⟨_, rfl, m1, L, p, rfl, by omega, by omega, by omega, by omega, fun lt0 rows0 H1 s1 hTr0 hrl0 hpm0 => ?_⟩
    refine ⟨_, rfl, _, _, rfl, rfl, ⟨by decide, by decide⟩, _, _, rfl, rfl, (by show (0 : Int) < 3; decide), _, _, rfl, rfl, ?_⟩
    simp only [hnn]
    refine ⟨_, rfl, _, _, rfl, rfl, ⟨by decide, by decide⟩, _, _, rfl, rfl, (by show (0 : Int) < 8; decide), rfl, ?_⟩
    generalize decide (V.int (num / 48 % 8) = V.int 0) = edge
    let LG_1 : St → Hp → Prop := fun σ' H' => ∃ (lt : Addr) (rows : List (List Int)) (p n : Nat) (G : List Int → Prop) (v6 : Option V), σ' = [some (.ref a), some (.int num), some (.int p), some (.ref lt), some (.int n), some (.bl edge), v6, none, none, none, none, none, none] ∧ Same H H' ∧ WordsAt H' lt rows ∧ (∀ r ∈ rows, M11.Pm p r) ∧ p ≤ 100 ∧ 1 ≤ rows.length ∧ rows.length ≤ 40 ∧ G (M18.thr rows p []) ∧ (∀ u, G u → M11.Pm p u) ∧ (∀ (k : Nat) (u : List Int), k < 2 * rows.length → G u → G (M18.mvs rows (M12.st k) u)) ∧ (∀ c : List (List Int), c.Nodup → (∀ u ∈ c, G u) → c.length ≤ 300) ∧ 1 ≤ n ∧ n ≤ 200 ∧ (edge = false → n ≤ 3)
    refine ⟨LG_1, ?_, ?_⟩
    · refine blk_let0 ?_
      intro D_0
      refine ⟨_, rfl, _, rfl, ?_⟩
      cases edge with
      | false => exact iteF ⟨lt0, rows0, p, n0, M11.Pm p, none, rfl, s1, hTr0, hpm0, by omega, by omega, by omega, M18.thr_pm hpm0 (fun s hs => by cases hs), fun u h => h, fun k u hk hu => M18.mvs_pm hpm0 (M12.st_ok hk) hu, fun c h1 h2 => Nat.le_trans (M18.four hp4.2 h1 h2) (by decide), by omega, by omega, fun _ => hn3.2⟩
      | true =>
        refine iteT ?_
        dsimp only [tSeq, tAsg, tLst]
        refine tPr_go _ fun qs E11 s1e t11 => ?_
        have t11 : TupsAt E11 qs edges := t11
        refine ⟨by rw [List.length_map, t11.1]; decide, fun ls hls => ?_⟩
        have s12 : Same E11 (upd E11 ls (.lst (qs.map V.ref))) := Same.upd hls
        have h12 : upd E11 ls (.lst (qs.map V.ref)) ls = some (.lst (qs.map V.ref)) := upd_same
        generalize upd E11 ls (.lst (qs.map V.ref)) = E12 at s12 h12 ⊢
        have t12 : TupsAt E12 qs edges := t11.same s12
        obtain ⟨j, hj, hj11⟩ : ∃ j : Nat, num / 384 % 11 = (j : Int) ∧ j < 11 := by
          have h1 := Int.emod_nonneg (num / 384) (show (11 : Int) ≠ 0 by decide)
          have h2 := Int.emod_lt_of_pos (num / 384) (show (0 : Int) < 11 by decide)
          exact ⟨(num / 384 % 11).toNat, by omega, by omega⟩
        obtain ⟨x, y, hxy, hx1, hx2, hy1, hy2⟩ := edges_at hj11
        obtain ⟨qj, gq⟩ := get_some (xs := qs) (i := j) (by rw [t12.1]; exact hj11)
        have hqj := t12.2 j qj _ gq hxy
        refine ⟨_, rfl, _, rfl, _, _, rfl, rfl, ⟨by decide, by decide⟩, _, _, rfl, rfl, (by show (0 : Int) < 11; decide), ls, _, _, .ref qj, rfl, rfl, SqL.of h12, (by rw [hj]; exact ref_at gq), ?_⟩
        refine ⟨qj, _, rfl, SqT.of hqj, rfl, _, _, rfl, _, _, rfl, rfl, ?_⟩
        refine ⟨_, rfl, 1, x, rfl, by omega, by omega, fun r1 hr1 => ?_⟩
        have v2 : Same E12 (upd E12 r1 (.lst (intV (rng 1 (x - 1))))) := Same.upd hr1
        have g1 : upd E12 r1 (.lst (intV (rng 1 (x - 1)))) r1 = some (.lst (intV (rng 1 (x - 1)))) := upd_same
        generalize upd E12 r1 (.lst (intV (rng 1 (x - 1)))) = F2 at v2 g1 ⊢
        refine ⟨by show 1 ≤ sizeLine; decide, fun r2 hr2 => ?_⟩
        have v3 : Same F2 (upd F2 r2 (.lst [.int 0])) := Same.upd hr2
        have g2 : upd F2 r2 (.lst [.int 0]) r2 = some (.lst (intV [0])) := upd_same
        generalize upd F2 r2 (.lst [.int 0]) = F3 at v3 g2 ⊢
        refine ⟨r1, r2, _, _, rfl, rfl, v3 _ _ g1, g2, ?_, fun r3 hr3 => ?_⟩
        · rw [ints_len, ints_len, rng_len]
          exact Nat.le_trans (show x - 1 + 1 ≤ 1000 by omega) (by decide)
        rw [← ints_app]
        have v4 : Same F3 (upd F3 r3 (.lst (intV (rng 1 (x - 1) ++ [0])))) := Same.upd hr3
        have g3 : upd F3 r3 (.lst (intV (rng 1 (x - 1) ++ [0]))) r3 = some (.lst (intV (rng 1 (x - 1) ++ [0]))) := upd_same
        generalize upd F3 r3 (.lst (intV (rng 1 (x - 1) ++ [0]))) = F4 at v4 g3 ⊢
        refine ⟨r3, _, rfl, .inl ⟨SqL.of g3, fun r4 hr4 => ?_⟩⟩
        have v5 : Same F4 (upd F4 r4 (.tup (intV (rng 1 (x - 1) ++ [0])))) := Same.upd hr4
        have g4 : upd F4 r4 (.tup (intV (rng 1 (x - 1) ++ [0]))) r4 = some (.tup (intV (rng 1 (x - 1) ++ [0]))) := upd_same
        generalize upd F4 r4 (.tup (intV (rng 1 (x - 1) ++ [0]))) = F5 at v5 g4 ⊢
        refine ⟨by show 1 ≤ sizeLine; decide, fun r5 hr5 => ?_⟩
        have v6 := Same.upd (o := .lst [.ref r4]) hr5
        refine ⟨r5, [rng 1 (x - 1) ++ [0]], x, y, Rg x, some (.ref ls), rfl, (((((((s1.trans s1e).trans s12).trans v2).trans v3).trans v4).trans v5).trans v6), ⟨[r4], upd_same, rfl, fun i r ns g1 g2 => ?_⟩, fun r hr => by rw [List.mem_singleton.mp hr]; exact pm_ring (by omega), by omega, Nat.le_refl _, by show 1 ≤ 40; decide, rg_zero _ (by omega), fun u h => rg_pm h, fun k u hk h => rg_mv (by omega) hk h, fun c h1 h2 => rg_few (by omega) h1 h2, hy1, hy2, fun z => by cases z⟩
        rw [List.mem_singleton.mp (List.mem_of_getElem? g1), List.mem_singleton.mp (List.mem_of_getElem? g2)]
        exact v6 _ _ g4
    clear hpp hp4 hTr0 hpm0 hrl0 s1 hnn hn3 hLL hL3
    intro σ' H1 hh_
    refine goal_let ?_
    intro q_
    obtain ⟨lt, rows, p, n1, G, v6, rfl, s1, hTr, hpm, hp, hL1, hL2, hG0, hGp, hGs, hGb, hn1, hn2, hne⟩ := hh_
    dsimp only [q_]
    clear q_
    refine ⟨_, rfl, _, rfl, lt, rows, p, G, rfl, hTr, hpm, hp, hL1, hL2, hG0, hGp, hGs, hGb, fun l2 la lc TT come H2 s2 hl2 hTa hCo hCm h00 hGc hFc => ?_⟩
    refine ⟨l2, _, rfl, SqT.of hl2, rfl, _, _, rfl, _, _, rfl, rfl, ?_⟩
    clear hl2 hGc
    have hT := hCm.tab
    have h300 := hT.top
    have hpos := hT.pos
    have hcl : come.length = TT.length := hCm.len
    have gp : M19.Gp rows p TT come := ⟨hpm, hCm, h00, hFc⟩
    have s02 := s1.trans s2
    obtain ⟨cps, hcps, hct⟩ := id hCo
    have hlenc : ((cps.map V.ref).length : Int) = (TT.length : Int) := by rw [List.length_map, hct.1, hcl]
    let LG_2 : St → Hp → Prop := fun σ' H' => ∃ n : Nat, σ' = [some (.ref a), some (.int num), some (.int p), some (.ref lt), some (.int n), some (.bl edge), v6, some (.ref la), some (.ref lc), none, none, none, none] ∧ H' = H2 ∧ 1 ≤ n ∧ n ≤ 200 ∧ (edge = false → n ≤ 3)
    refine ⟨LG_2, ?_, ?_⟩
    · refine blk_let0 ?_
      intro D_0
      refine ⟨_, rfl, _, rfl, ?_⟩
      cases edge with
      | true => exact iteF (iteF ⟨n1, rfl, rfl, hn1, hn2, hne⟩)
      | false =>
        refine iteT ?_
        exact ⟨_, rfl, _, rfl, lc, _, rfl, .inl (SqL.of hcps), n1, TT.length, congrArg (fun z => [V.int (n1 : Int), V.int z]) hlenc, by omega, _, _, rfl, rfl, _, rfl, ite2 (fun _ => ⟨1, rfl, rfl, by omega, by omega, fun _ => by omega⟩) (fun _ => ⟨n1, rfl, rfl, hn1, hn2, hne⟩)⟩
    clear hn1 hn2 hne
    intro σ' H' hh_
    refine goal_let ?_
    intro q_
    obtain ⟨n, rfl, rfl, hn1, hn2, hne⟩ := hh_
    dsimp only [q_]
    clear q_
    refine ⟨Nat.zero_le _, fun lr0 hlr0 => ?_⟩
    have s23 : Same H' (upd H' lr0 (.lst [])) := Same.upd hlr0
    have h3 : upd H' lr0 (.lst []) lr0 = some (.lst (([] : List Addr).map V.ref)) := upd_same
    generalize upd H' lr0 (.lst []) = H3 at s23 h3 ⊢
    let LG_3 : St → Hp → Prop := fun σ' H4 => ∃ (lr : Addr) (rules : List (List Int)), σ' = [some (.ref a), some (.int num), some (.int p), some (.ref lt), some (.int n), some (.bl edge), v6, some (.ref la), some (.ref lc), some (.ref lr), none, none, none] ∧ Same H' H4 ∧ WordsAt H4 lr rules ∧ rules.length ≤ 200 ∧ ∀ r ∈ rules, M11.Steps n r ∧ r.length ≤ 1000
    refine ⟨LG_3, ?_, ?_⟩
    · refine blk_let0 ?_
      intro D_0
      refine ⟨_, rfl, _, rfl, ?_⟩
      cases edge with
      | true => exact iteF ⟨lr0, [], rfl, s23, ⟨[], h3, tups_zero _⟩, by simp, fun r hr => by simp at hr⟩
      | false =>
        refine iteT ?_
        refine ⟨_, rfl, _, rfl, _, rfl, a, ns, 1, rfl, (s02.trans s23).seq hS, by omega, fun z2 => ⟨z2, 0, rfl, by decide, by decide, fun m2 hm2 => ?_⟩⟩
        exact ⟨a, ns, n, m2, rfl, (s02.trans s23).seq hS, hlen, hn1, hne rfl, hm2, fun l rules H5 s5 hW hl hr => ⟨l, rules, rfl, s23.trans s5, hW, hl, hr⟩⟩
    intro σ' H4 hh_
    refine goal_let ?_
    intro q_
    obtain ⟨lr, rules, rfl, s24, hRw, hRl, hRs⟩ := hh_
    dsimp only [q_]
    clear q_
    obtain ⟨rps, hrps, hrpt⟩ := id hRw
    obtain ⟨rs, hrs, hrw⟩ := hTa.same s24
    refine ⟨_, rfl, lr, _, rfl, .inl (SqL.of hrps), fun c1 hc1 => ?_⟩
    have s45 : Same H4 (upd H4 c1 (.lst (rps.map V.ref))) := Same.upd hc1
    have hB : WordsAt (upd H4 c1 (.lst (rps.map V.ref))) c1 rules := ⟨rps, upd_same, hrpt.same s45⟩
    generalize upd H4 c1 (.lst (rps.map V.ref)) = H5 at s45 hB ⊢
    refine ⟨_, rfl, la, rfl, ⟨_, SqL.of (s45 _ _ hrs)⟩, ?_⟩
    refine comp_copy (s45 _ _ hrs) (hrw.same s45) (by omega) (fun H9 r ms R9 h9 hR9 => ⟨_, rfl, r, _, rfl, .inl (SqL.of h9), hR9⟩) (fun c2 H6 qs2 s56 hc2 hqs2 => ?_)
    have s67 : Same H6 (upd H6 c2 (.lst (qs2.map V.ref))) := Same.upd hc2
    have hD2 : TabAt (upd H6 c2 (.lst (qs2.map V.ref))) c2 TT := ⟨qs2, upd_same, hqs2.same s67⟩
    generalize upd H6 c2 (.lst (qs2.map V.ref)) = H7 at s67 hD2 ⊢
    refine ⟨by show 2 ≤ sizeLine; decide, fun hh hhh => ?_⟩
    have s78 : Same H7 (upd H7 hh (.lst [.ref c1, .ref c2])) := Same.upd hhh
    have hF0 : upd H7 hh (.lst [.ref c1, .ref c2]) hh = some (.lst [.ref c1, .ref c2]) := upd_same
    generalize upd H7 hh (.lst [.ref c1, .ref c2]) = H8 at s78 hF0 ⊢
    have s58 := (s56.trans s67).trans s78
    have hF1 : WordsAt H8 c1 rules := hB.same s58
    have hF2 : TabAt H8 c2 TT := hD2.same s78
    have s48 := s45.trans s58
    have s28 := s24.trans s48
    have hRw8 := hRw.same s48
    have hTa8 := hTa.same s28
    have hCo8 := hCo.same s28
    have eqk : ∀ (HX : Hp), Same H8 HX → ∀ (R : VK), (∀ HY, R (.bl true) HY) → ∀ q, HX q = none → rEqWT (.ref hh) (.ref q) (upd HX q (.lst [.ref lr, .ref la])) R := fun HX sX R hR q hq => by
      have sq := Same.upd (o := .lst [.ref lr, .ref la]) hq
      have s8q := sX.trans sq
      exact ⟨hh, q, c1, c2, lr, la, rules, TT, rfl, rfl, s8q _ _ hF0, upd_same, hF1.same s8q, hRw8.same s8q, hF2.same s8q, hTa8.same s8q, hR _⟩
    refine ⟨_, rfl, _, rfl, lc, _, rfl, .inl (SqL.of (s28 _ _ hcps)), n, TT.length, congrArg (fun z => [V.int (n : Int), V.int z]) hlenc, by omega, _, _, rfl, rfl, _, rfl, ite2 (fun h => ?_) (fun h => ?_)⟩
    · have hc : 5000 < M20.cap TT.length n := by
        have h' : (5000 : Int) < ((M20.cap TT.length n : Nat) : Int) := of_decide_eq_true h
        omega
      refine ⟨_, rfl, _, rfl, hh, _, _, _, rfl, rfl, SqL.of hF0, atI_nat (j := 0) rfl, _, rfl, hh, _, _, _, rfl, rfl, SqL.of hF0, atI_nat (j := 1) rfl, c1, c2, TT, rows.length, n, rules, rfl, hF1, hF2, hT, hFc, by omega, by omega, hRs, hc, fun H9 s89 => ⟨true, rfl, iteT ?_⟩⟩
      exact ⟨_, rfl, _, rfl, _, rfl, by show 2 ≤ sizeLine; decide, fun q hq => eqk H9 s89 _ (fun _ => k _) q hq⟩
    · have hc : M20.cap TT.length n ≤ 5000 := by
        have h' : ¬ (5000 : Int) < ((M20.cap TT.length n : Nat) : Int) := fun z => h (decide_eq_true z)
        omega
      refine ⟨_, rfl, _, rfl, _, rfl, lr, lc, come, p, n, M18.thr rows p [], rules, rfl, hRw8, hCo8, h00, fun u hu => gp.pms hu, hp, by omega, by omega, by rw [hcl]; exact hc, by omega, fun r hr => (hRs r hr).1, fun ld H9 s89 hdT => ?_⟩
      have hFd : ∀ ws, LW rows.length TT ws → M20.fnd TT (wy ws) TT.length rules n = dueL come p n (M18.thr rows p []) rules := fun ws hLW => by
        unfold dueL
        rw [hcl]
        exact M20.told_due gp (fun r hr => ⟨(wy_ok hLW hr).1, (wy_ok hLW hr).2.1⟩) rfl (fun r hr => (hRs r hr).1)
      have hdl : ∀ h ∈ dueL come p n (M18.thr rows p []) rules, h.length = n := fun h hh => by
        unfold dueL at hh
        exact (M20.alls_mem (List.mem_filter.mp hh).1).1
      have hdn : (dueL come p n (M18.thr rows p []) rules).length ≤ 5000 := by
        have e1 := M20.alls_cap hpos hc
        unfold dueL
        rw [hcl]
        exact Nat.le_trans (List.length_filter_le _ _) (by omega)
      generalize dueL come p n (M18.thr rows p []) rules = due at hdT hFd hdl hdn
      have hF09 := s89 _ _ hF0
      refine ⟨_, rfl, _, rfl, hh, _, _, _, rfl, rfl, SqL.of hF09, atI_nat (j := 0) rfl, _, rfl, hh, _, _, _, rfl, rfl, SqL.of hF09, atI_nat (j := 1) rfl, c1, c2, TT, rows.length, n, rules, rfl, hF1.same s89, hF2.same s89, hT, hFc, by omega, by omega, hRs, (fun _ ws lo HA s9A hLW hN => ?_), (fun z => by omega)⟩
      rw [hFd ws hLW] at hN
      obtain ⟨tps, f1, f2, f3, f4⟩ := hN
      have htl : tps.length = due.length := by have := f2.1; rw [List.length_map] at this; exact this
      let LG_4 : St → Hp → Prop := fun σ' H' => σ' = [some (.ref a), some (.int num), some (.int p), some (.ref lt), some (.int n), some (.bl edge), v6, some (.ref la), some (.ref lc), some (.ref lr), some (.ref hh), some (.ref ld), some (.ref lo)] ∧ Same HA H'
      refine ⟨LG_4, ?_, ?_⟩
      · refine blk_let0 ?_
        intro D_0
        refine ⟨_, rfl, _, rfl, lo, ld, due.map natI, rfl, ⟨tps, f1, f2⟩, hdT.same s9A, fun HB sAB => ⟨true, rfl, iteF ?_⟩⟩
        refine ⟨_, rfl, _, rfl, ?_⟩
        cases edge with
        | true =>
          refine iteT ?_
          exact ⟨_, rfl, _, rfl, lo, ld, due.map natI, rfl, TabAt.same ⟨tps, f1, f2⟩ sAB, (hdT.same s9A).same sAB, fun HC _ => k _⟩
        | false => exact iteF ⟨rfl, sAB⟩
      rintro σ' HB ⟨rfl, sAB⟩
      have f1B := sAB _ _ f1
      have f2B := f2.same sAB
      have s9B := s9A.trans sAB
      refine ⟨_, rfl, .inl ⟨rfl, _, SqL.of f1B⟩, by show 1 ≤ sizeLine; decide, fun z1 hz1 => ?_⟩
      have sBC : Same HB (upd HB z1 (.lst [.int 0])) := Same.upd hz1
      have hz : upd HB z1 (.lst [.int 0]) z1 = some (.lst (intV [0])) := upd_same
      have nz9 : H9 z1 = none := s9B.free hz1
      have nzl : z1 ≠ lo := fun e => by rw [e, f1B] at hz1; cases hz1
      generalize upd HB z1 (.lst [.int 0]) = HC at sBC hz ⊢
      have f1C := sBC _ _ f1B
      refine ⟨lo, _, _, rfl, rfl, f1C, ?_, ?_⟩
      · rw [List.length_map]
        exact Nat.lt_of_le_of_lt (show tps.length ≤ 5000 by omega) (by decide)
      have kD : ∀ b o, HC b = some o → b ≠ lo → upd HC lo (.lst (tps.map V.ref ++ [V.ref z1])) b = some o := fun b o e nb => by rw [upd_ne nb]; exact e
      have hloD : upd HC lo (.lst (tps.map V.ref ++ [V.ref z1])) lo = some (.lst ((tps ++ [z1]).map V.ref)) := by rw [upd_same, List.map_append]; rfl
      generalize upd HC lo (.lst (tps.map V.ref ++ [V.ref z1])) = HD at kD hloD ⊢
      have s9D : Same H9 HD := fun b o e => kD _ _ (sBC _ _ (s9B _ _ e)) (ne_of_none e f3)
      obtain ⟨t0, ys, g0, ht0, nt0, hyl⟩ : ∃ (t0 : Addr) (ys : List Int), (tps ++ [z1])[0]? = some t0 ∧ HD t0 = some (.lst (intV ys)) ∧ H9 t0 = none ∧ ys.length ≤ 1000 := by
        cases hq : tps with
        | nil => exact ⟨z1, [0], rfl, kD _ _ hz nzl, nz9, by show 1 ≤ 1000; decide⟩
        | cons t0 rest =>
          have g1 : tps[0]? = some t0 := by rw [hq]; rfl
          have hdl0 : 0 < due.length := by rw [← htl, hq]; simp
          have g2 : due[0]? = some due[0] := List.getElem?_eq_getElem hdl0
          have e1 := f2B.2 0 t0 (natI due[0]) g1 (by rw [List.getElem?_map, g2]; rfl)
          have n9 := f4 t0 (by rw [hq]; exact List.mem_cons_self ..)
          have ntl : t0 ≠ lo := fun e => by
            have w1 : HA lo = some (.lst (intV (natI due[0]))) := by rw [← e]; exact f2.2 0 t0 (natI due[0]) g1 (by rw [List.getElem?_map, g2]; rfl)
            rw [f1] at w1
            injection w1 with w1
            injection w1 with w1
            rw [hq] at w1
            cases hv : intV (natI due[0]) with
            | nil => rw [hv] at w1; cases w1
            | cons y0 r0 =>
              rw [hv] at w1
              injection w1 with w1
              have : (intV (natI due[0]))[0]? = some y0 := by rw [hv]; rfl
              obtain ⟨zz, rfl, _⟩ := ints_of_at this
              cases w1
          exact ⟨t0, natI due[0], rfl, kD _ _ (sBC _ _ e1) ntl, n9, by rw [natI_len, hdl _ (List.mem_of_getElem? g2)]; omega⟩
      refine ⟨_, rfl, lo, _, _, .ref t0, rfl, rfl, SqL.of hloD, ref_at (i := 0) g0, .inl ⟨rfl, _, SqL.of ht0⟩, t0, _, _, rfl, rfl, ht0, ?_, ?_⟩
      · rw [ints_len]
        exact Nat.lt_of_le_of_lt hyl (by decide)
      have s9E : Same H9 (upd HD t0 (.lst (intV ys ++ [V.int 0]))) := fun b o e => by rw [upd_ne (ne_of_none e nt0)]; exact s9D _ _ e
      generalize upd HD t0 (.lst (intV ys ++ [V.int 0])) = HE at s9E ⊢
      have hF0E := s9E _ _ hF09
      refine ⟨_, rfl, _, rfl, hh, _, _, _, rfl, rfl, SqL.of hF0E, atI_nat (j := 0) rfl, _, rfl, hh, _, _, _, rfl, rfl, SqL.of hF0E, atI_nat (j := 1) rfl, c1, c2, TT, rows.length, n, rules, rfl, (hF1.same s89).same s9E, (hF2.same s89).same s9E, hT, hFc, by omega, by omega, hRs, (fun _ ws2 lo2 HF sEF hLW2 hN2 => ?_), (fun z => by omega)⟩
      rw [hFd ws2 hLW2] at hN2
      obtain ⟨tps2, e1, e2, -, -⟩ := hN2
      refine ⟨_, rfl, lo2, ld, due.map natI, rfl, ⟨tps2, e1, e2⟩, hdT.same (s9E.trans sEF), fun HG sFG => ⟨true, rfl, iteT ?_⟩⟩
      exact ⟨_, rfl, _, rfl, _, rfl, by show 2 ≤ sizeLine; decide, fun q hq => eqk HG (((s89.trans s9E).trans sEF).trans sFG) _ (fun _ => k _) q hq⟩
unseal L2.PE L2.PS L2.PSs L2.PA L2.PT
end
theorem all_mk {l : PySem.W.OpenLaw} {w : World} {K : PySem.W.Frag} {h : Heap} {mg : Str → Option Value} {fa : Addr} (X : K.In h) (G : h.Ns mainGlobals mg) (hfa : mg "law" = some (.ref fa))
    {C_Moves : Addr} {C_TooGreat : Addr} {C_TooMany : Addr} {C_NoOrder : Addr} {C_TooLong : Addr} {C_NoWord : Addr} {C_YardError : Addr} {f1 : Addr} {od1 an1 : Option Addr} {sl1 : Array (Option Value)} {oc1 kV1 dc1 pm1 cd1 ct1 : Value} {f2 : Addr} {od2 an2 : Option Addr} {sl2 : Array (Option Value)} {oc2 kV2 dc2 pm2 cd2 ct2 : Value} {f3 : Addr} {od3 an3 : Option Addr} {sl3 : Array (Option Value)} {oc3 kV3 dc3 pm3 cd3 ct3 : Value} {f4 : Addr} {od4 an4 : Option Addr} {sl4 : Array (Option Value)} {oc4 kV4 dc4 pm4 cd4 ct4 : Value} {f5 : Addr} {od5 an5 : Option Addr} {sl5 : Array (Option Value)} {oc5 kV5 dc5 pm5 cd5 ct5 : Value} {f6 : Addr} {od6 an6 : Option Addr} {sl6 : Array (Option Value)} {oc6 kV6 dc6 pm6 cd6 ct6 : Value} {f7 : Addr} {od7 an7 : Option Addr} {sl7 : Array (Option Value)} {oc7 kV7 dc7 pm7 cd7 ct7 : Value} {f8 : Addr} {od8 an8 : Option Addr} {sl8 : Array (Option Value)} {oc8 kV8 dc8 pm8 cd8 ct8 : Value} {f9 : Addr} {od9 an9 : Option Addr} {sl9 : Array (Option Value)} {oc9 kV9 dc9 pm9 cd9 ct9 : Value} {f10 : Addr} {od10 an10 : Option Addr} {sl10 : Array (Option Value)} {oc10 kV10 dc10 pm10 cd10 ct10 : Value} {f11 : Addr} {od11 an11 : Option Addr} {sl11 : Array (Option Value)} {oc11 kV11 dc11 pm11 cd11 ct11 : Value} {f12 : Addr} {od12 an12 : Option Addr} {sl12 : Array (Option Value)} {oc12 kV12 dc12 pm12 cd12 ct12 : Value} {f13 : Addr} {od13 an13 : Option Addr} {sl13 : Array (Option Value)} {oc13 kV13 dc13 pm13 cd13 ct13 : Value} {f14 : Addr} {od14 an14 : Option Addr} {sl14 : Array (Option Value)} {oc14 kV14 dc14 pm14 cd14 ct14 : Value} {f15 : Addr} {od15 an15 : Option Addr} {sl15 : Array (Option Value)} {oc15 kV15 dc15 pm15 cd15 ct15 : Value} {f16 : Addr} {od16 an16 : Option Addr} {sl16 : Array (Option Value)} {oc16 kV16 dc16 pm16 cd16 ct16 : Value} {f17 : Addr} {od17 an17 : Option Addr} {sl17 : Array (Option Value)} {oc17 kV17 dc17 pm17 cd17 ct17 : Value} {f18 : Addr} {od18 an18 : Option Addr} {sl18 : Array (Option Value)} {oc18 kV18 dc18 pm18 cd18 ct18 : Value} {f19 : Addr} {od19 an19 : Option Addr} {sl19 : Array (Option Value)} {oc19 kV19 dc19 pm19 cd19 ct19 : Value} {f20 : Addr} {od20 an20 : Option Addr} {sl20 : Array (Option Value)} {oc20 kV20 dc20 pm20 cd20 ct20 : Value} {f21 : Addr} {od21 an21 : Option Addr} {sl21 : Array (Option Value)} {oc21 kV21 dc21 pm21 cd21 ct21 : Value} {f22 : Addr} {od22 an22 : Option Addr} {sl22 : Array (Option Value)} {oc22 kV22 dc22 pm22 cd22 ct22 : Value} {f23 : Addr} {od23 an23 : Option Addr} {sl23 : Array (Option Value)} {oc23 kV23 dc23 pm23 cd23 ct23 : Value} {f24 : Addr} {od24 an24 : Option Addr} {sl24 : Array (Option Value)} {oc24 kV24 dc24 pm24 cd24 ct24 : Value} {f25 : Addr} {od25 an25 : Option Addr} {sl25 : Array (Option Value)} {oc25 kV25 dc25 pm25 cd25 ct25 : Value} {f26 : Addr} {od26 an26 : Option Addr} {sl26 : Array (Option Value)} {oc26 kV26 dc26 pm26 cd26 ct26 : Value} {f27 : Addr} {od27 an27 : Option Addr} {sl27 : Array (Option Value)} {oc27 kV27 dc27 pm27 cd27 ct27 : Value} {f28 : Addr} {od28 an28 : Option Addr} {sl28 : Array (Option Value)} {oc28 kV28 dc28 pm28 cd28 ct28 : Value} {tk1 : Tok}
    (y_Moves : PySem.W.nsIn K mainGlobals "Moves" = some (some (.ref C_Moves)))
    (y_TooGreat : PySem.W.nsIn K mainGlobals "TooGreat" = some (some (.ref C_TooGreat)))
    (y_TooMany : PySem.W.nsIn K mainGlobals "TooMany" = some (some (.ref C_TooMany)))
    (y_NoOrder : PySem.W.nsIn K mainGlobals "NoOrder" = some (some (.ref C_NoOrder)))
    (y_TooLong : PySem.W.nsIn K mainGlobals "TooLong" = some (some (.ref C_TooLong)))
    (y_NoWord : PySem.W.nsIn K mainGlobals "NoWord" = some (some (.ref C_NoWord)))
    (y_YardError : PySem.W.nsIn K mainGlobals "YardError" = some (some (.ref C_YardError)))
    (a1 : PySem.W.nsIn K mainGlobals "steps_of" = some (some (.ref f1))) (l1 : K.lookup f1 = some ⟨oc1, od1, .func (PySem.W.fnOf "steps_of" "steps_of" (defArgs s_steps_of) (defBody s_steps_of) (defScope s_steps_of) .none kV1 dc1 pm1 an1 cd1 ct1), sl1⟩) (c1 : PySem.W.codeIn K cd1 "steps_of" = true) (k1 : PySem.W.keepIn K (.ref f1) = true)
    (a2 : PySem.W.nsIn K mainGlobals "place_of" = some (some (.ref f2))) (l2 : K.lookup f2 = some ⟨oc2, od2, .func (PySem.W.fnOf "place_of" "place_of" (defArgs s_place_of) (defBody s_place_of) (defScope s_place_of) .none kV2 dc2 pm2 an2 cd2 ct2), sl2⟩) (c2 : PySem.W.codeIn K cd2 "place_of" = true) (k2 : PySem.W.keepIn K (.ref f2) = true)
    (a3 : PySem.W.nsIn K mainGlobals "turning" = some (some (.ref f3))) (l3 : K.lookup f3 = some ⟨oc3, od3, .func (PySem.W.fnOf "turning" "turning" (defArgs s_turning) (defBody s_turning) (defScope s_turning) .none kV3 dc3 pm3 an3 cd3 ct3), sl3⟩) (c3 : PySem.W.codeIn K cd3 "turning" = true) (k3 : PySem.W.keepIn K (.ref f3) = true)
    (a4 : PySem.W.nsIn K mainGlobals "least_ways" = some (some (.ref f4))) (l4 : K.lookup f4 = some ⟨oc4, od4, .func (PySem.W.fnOf "least_ways" "least_ways" (defArgs s_least_ways) (defBody s_least_ways) (defScope s_least_ways) .none kV4 dc4 pm4 an4 cd4 ct4), sl4⟩) (c4 : PySem.W.codeIn K cd4 "least_ways" = true) (k4 : PySem.W.keepIn K (.ref f4) = true)
    (a5 : PySem.W.nsIn K mainGlobals "homes" = some (some (.ref f5))) (l5 : K.lookup f5 = some ⟨oc5, od5, .func (PySem.W.fnOf "homes" "homes" (defArgs s_homes) (defBody s_homes) (defScope s_homes) .none kV5 dc5 pm5 an5 cd5 ct5), sl5⟩) (c5 : PySem.W.codeIn K cd5 "homes" = true) (k5 : PySem.W.keepIn K (.ref f5) = true)
    (a6 : PySem.W.nsIn K mainGlobals "check_lists" = some (some (.ref f6))) (l6 : K.lookup f6 = some ⟨oc6, od6, .func (PySem.W.fnOf "check_lists" "check_lists" (defArgs s_check_lists) (defBody s_check_lists) (defScope s_check_lists) .none kV6 dc6 pm6 an6 cd6 ct6), sl6⟩) (c6 : PySem.W.codeIn K cd6 "check_lists" = true) (k6 : PySem.W.keepIn K (.ref f6) = true)
    (a7 : PySem.W.nsIn K mainGlobals "turned_by_least_ways" = some (some (.ref f7))) (l7 : K.lookup f7 = some ⟨oc7, od7, .func (PySem.W.fnOf "turned_by_least_ways" "turned_by_least_ways" (defArgs s_turned_by_least_ways) (defBody s_turned_by_least_ways) (defScope s_turned_by_least_ways) .none kV7 dc7 pm7 an7 cd7 ct7), sl7⟩) (c7 : PySem.W.codeIn K cd7 "turned_by_least_ways" = true) (k7 : PySem.W.keepIn K (.ref f7) = true)
    (a8 : PySem.W.nsIn K mainGlobals "turned_back" = some (some (.ref f8))) (l8 : K.lookup f8 = some ⟨oc8, od8, .func (PySem.W.fnOf "turned_back" "turned_back" (defArgs s_turned_back) (defBody s_turned_back) (defScope s_turned_back) .none kV8 dc8 pm8 an8 cd8 ct8), sl8⟩) (c8 : PySem.W.codeIn K cd8 "turned_back" = true) (k8 : PySem.W.keepIn K (.ref f8) = true)
    (a9 : PySem.W.nsIn K mainGlobals "homes_by" = some (some (.ref f9))) (l9 : K.lookup f9 = some ⟨oc9, od9, .func (PySem.W.fnOf "homes_by" "homes_by" (defArgs s_homes_by) (defBody s_homes_by) (defScope s_homes_by) .none kV9 dc9 pm9 an9 cd9 ct9), sl9⟩) (c9 : PySem.W.codeIn K cd9 "homes_by" = true) (k9 : PySem.W.keepIn K (.ref f9) = true)
    (a10 : PySem.W.nsIn K mainGlobals "greatest_letter" = some (some (.ref f10))) (l10 : K.lookup f10 = some ⟨oc10, od10, .func (PySem.W.fnOf "greatest_letter" "greatest_letter" (defArgs s_greatest_letter) (defBody s_greatest_letter) (defScope s_greatest_letter) .none kV10 dc10 pm10 an10 cd10 ct10), sl10⟩) (c10 : PySem.W.codeIn K cd10 "greatest_letter" = true) (k10 : PySem.W.keepIn K (.ref f10) = true)
    (a11 : PySem.W.nsIn K mainGlobals "longer" = some (some (.ref f11))) (l11 : K.lookup f11 = some ⟨oc11, od11, .func (PySem.W.fnOf "longer" "longer" (defArgs s_longer) (defBody s_longer) (defScope s_longer) .none kV11 dc11 pm11 an11 cd11 ct11), sl11⟩) (c11 : PySem.W.codeIn K cd11 "longer" = true) (k11 : PySem.W.keepIn K (.ref f11) = true)
    (a12 : PySem.W.nsIn K mainGlobals "leads_home" = some (some (.ref f12))) (l12 : K.lookup f12 = some ⟨oc12, od12, .func (PySem.W.fnOf "leads_home" "leads_home" (defArgs s_leads_home) (defBody s_leads_home) (defScope s_leads_home) .none kV12 dc12 pm12 an12 cd12 ct12), sl12⟩) (c12 : PySem.W.codeIn K cd12 "leads_home" = true) (k12 : PySem.W.keepIn K (.ref f12) = true)
    (a13 : PySem.W.nsIn K mainGlobals "_law_at" = some (some (.ref f13))) (l13 : K.lookup f13 = some ⟨oc13, od13, .func (PySem.W.fnOf "_law_at" "_law_at" (defArgs s__law_at) (defBody s__law_at) (defScope s__law_at) .none kV13 dc13 pm13 an13 cd13 ct13), sl13⟩) (c13 : PySem.W.codeIn K cd13 "_law_at" = true) (k13 : PySem.W.keepIn K (.ref f13) = true)
    (a14 : PySem.W.nsIn K mainGlobals "_law_mix" = some (some (.ref f14))) (l14 : K.lookup f14 = some ⟨oc14, od14, .func (PySem.W.fnOf "_law_mix" "_law_mix" (defArgs s__law_mix) (defBody s__law_mix) (defScope s__law_mix) .none kV14 dc14 pm14 an14 cd14 ct14), sl14⟩) (c14 : PySem.W.codeIn K cd14 "_law_mix" = true) (k14 : PySem.W.keepIn K (.ref f14) = true)
    (a15 : PySem.W.nsIn K mainGlobals "_law_turns" = some (some (.ref f15))) (l15 : K.lookup f15 = some ⟨oc15, od15, .func (PySem.W.fnOf "_law_turns" "_law_turns" (defArgs s__law_turns) (defBody s__law_turns) (defScope s__law_turns) .none kV15 dc15 pm15 an15 cd15 ct15), sl15⟩) (c15 : PySem.W.codeIn K cd15 "_law_turns" = true) (k15 : PySem.W.keepIn K (.ref f15) = true)
    (a16 : PySem.W.nsIn K mainGlobals "_law_back" = some (some (.ref f16))) (l16 : K.lookup f16 = some ⟨oc16, od16, .func (PySem.W.fnOf "_law_back" "_law_back" (defArgs s__law_back) (defBody s__law_back) (defScope s__law_back) .none kV16 dc16 pm16 an16 cd16 ct16), sl16⟩) (c16 : PySem.W.codeIn K cd16 "_law_back" = true) (k16 : PySem.W.keepIn K (.ref f16) = true)
    (a17 : PySem.W.nsIn K mainGlobals "_law_through" = some (some (.ref f17))) (l17 : K.lookup f17 = some ⟨oc17, od17, .func (PySem.W.fnOf "_law_through" "_law_through" (defArgs s__law_through) (defBody s__law_through) (defScope s__law_through) .none kV17 dc17 pm17 an17 cd17 ct17), sl17⟩) (c17 : PySem.W.codeIn K cd17 "_law_through" = true) (k17 : PySem.W.keepIn K (.ref f17) = true)
    (a18 : PySem.W.nsIn K mainGlobals "_law_table" = some (some (.ref f18))) (l18 : K.lookup f18 = some ⟨oc18, od18, .func (PySem.W.fnOf "_law_table" "_law_table" (defArgs s__law_table) (defBody s__law_table) (defScope s__law_table) .none kV18 dc18 pm18 an18 cd18 ct18), sl18⟩) (c18 : PySem.W.codeIn K cd18 "_law_table" = true) (k18 : PySem.W.keepIn K (.ref f18) = true)
    (a19 : PySem.W.nsIn K mainGlobals "_law_word" = some (some (.ref f19))) (l19 : K.lookup f19 = some ⟨oc19, od19, .func (PySem.W.fnOf "_law_word" "_law_word" (defArgs s__law_word) (defBody s__law_word) (defScope s__law_word) .none kV19 dc19 pm19 an19 cd19 ct19), sl19⟩) (c19 : PySem.W.codeIn K cd19 "_law_word" = true) (k19 : PySem.W.keepIn K (.ref f19) = true)
    (a20 : PySem.W.nsIn K mainGlobals "_law_rules" = some (some (.ref f20))) (l20 : K.lookup f20 = some ⟨oc20, od20, .func (PySem.W.fnOf "_law_rules" "_law_rules" (defArgs s__law_rules) (defBody s__law_rules) (defScope s__law_rules) .none kV20 dc20 pm20 an20 cd20 ct20), sl20⟩) (c20 : PySem.W.codeIn K cd20 "_law_rules" = true) (k20 : PySem.W.keepIn K (.ref f20) = true)
    (a21 : PySem.W.nsIn K mainGlobals "_law_lists" = some (some (.ref f21))) (l21 : K.lookup f21 = some ⟨oc21, od21, .func (PySem.W.fnOf "_law_lists" "_law_lists" (defArgs s__law_lists) (defBody s__law_lists) (defScope s__law_lists) .none kV21 dc21 pm21 an21 cd21 ct21), sl21⟩) (c21 : PySem.W.codeIn K cd21 "_law_lists" = true) (k21 : PySem.W.keepIn K (.ref f21) = true)
    (a22 : PySem.W.nsIn K mainGlobals "_law_due" = some (some (.ref f22))) (l22 : K.lookup f22 = some ⟨oc22, od22, .func (PySem.W.fnOf "_law_due" "_law_due" (defArgs s__law_due) (defBody s__law_due) (defScope s__law_due) .none kV22 dc22 pm22 an22 cd22 ct22), sl22⟩) (c22 : PySem.W.codeIn K cd22 "_law_due" = true) (k22 : PySem.W.keepIn K (.ref f22) = true)
    (a23 : PySem.W.nsIn K mainGlobals "_law_same" = some (some (.ref f23))) (l23 : K.lookup f23 = some ⟨oc23, od23, .func (PySem.W.fnOf "_law_same" "_law_same" (defArgs s__law_same) (defBody s__law_same) (defScope s__law_same) .none kV23 dc23 pm23 an23 cd23 ct23), sl23⟩) (c23 : PySem.W.codeIn K cd23 "_law_same" = true) (k23 : PySem.W.keepIn K (.ref f23) = true)
    (a24 : PySem.W.nsIn K mainGlobals "_law_refused" = some (some (.ref f24))) (l24 : K.lookup f24 = some ⟨oc24, od24, .func (PySem.W.fnOf "_law_refused" "_law_refused" (defArgs s__law_refused) (defBody s__law_refused) (defScope s__law_refused) .none kV24 dc24 pm24 an24 cd24 ct24), sl24⟩) (c24 : PySem.W.codeIn K cd24 "_law_refused" = true) (k24 : PySem.W.keepIn K (.ref f24) = true)
    (a25 : PySem.W.nsIn K mainGlobals "_law_many" = some (some (.ref f25))) (l25 : K.lookup f25 = some ⟨oc25, od25, .func (PySem.W.fnOf "_law_many" "_law_many" (defArgs s__law_many) (defBody s__law_many) (defScope s__law_many) .none kV25 dc25 pm25 an25 cd25 ct25), sl25⟩) (c25 : PySem.W.codeIn K cd25 "_law_many" = true) (k25 : PySem.W.keepIn K (.ref f25) = true)
    (a26 : PySem.W.nsIn K mainGlobals "law" = some (some (.ref f26))) (l26 : K.lookup f26 = some ⟨oc26, od26, .func (PySem.W.fnOf "law" "law" (defArgs s_law) (defBody s_law) (defScope s_law) .none kV26 dc26 pm26 an26 cd26 ct26), sl26⟩) (c26 : PySem.W.codeIn K cd26 "law" = true) (k26 : PySem.W.keepIn K (.ref f26) = true)
    (a27 : PySem.W.findIn K (.ref C_Moves) "__init__" = some (some (.ref f27))) (i27 : PySem.W.isFn K (.ref f27) = true) (l27 : K.lookup f27 = some ⟨oc27, od27, .func (PySem.W.fnOf "__init__" "Moves.__init__" (defArgs s_Moves___init__) (defBody s_Moves___init__) (defScope s_Moves___init__) .none kV27 dc27 pm27 an27 cd27 ct27), sl27⟩) (c27 : PySem.W.codeIn K cd27 "Moves.__init__" = true) (k27 : PySem.W.keepIn K (.ref f27) = true)
    (a28 : PySem.W.findIn K (.ref C_Moves) "by_home" = some (some (.ref f28))) (i28 : PySem.W.isFn K (.ref f28) = true) (l28 : K.lookup f28 = some ⟨oc28, od28, .func (PySem.W.fnOf "by_home" "Moves.by_home" (defArgs s_Moves_by_home) (defBody s_Moves_by_home) (defScope s_Moves_by_home) .none kV28 dc28 pm28 an28 cd28 ct28), sl28⟩) (c28 : PySem.W.codeIn K cd28 "Moves.by_home" = true) (k28 : PySem.W.keepIn K (.ref f28) = true)
    (g1 : PySem.W.nsIn K mainGlobals "MOST_LISTS" = some (some (.int 5000 tk1)))
    (w_pg_Moves : PySem.W.plainGet K C_Moves Str.empty = true)
    (w_hd_Moves : PySem.W.hasDictIn K C_Moves = true)
    (w_po_Moves : PySem.W.plainOver K C_Moves = true)
    (w_sa_Moves : PySem.W.findIn K (.ref C_Moves) "__setattr__" = some (some (.builtin "object.__setattr__")))
    (w_mk_Moves : PySem.W.makesIn K C_Moves = true)
    (w_kc_Moves : PySem.W.keepIn K (.ref C_Moves) = true)
    (w_n_many : PySem.W.findIn K (.ref C_Moves) "many" = some none)
    (w_n_forth : PySem.W.findIn K (.ref C_Moves) "forth" = some none)
    (w_n_behind : PySem.W.findIn K (.ref C_Moves) "behind" = some none)
    (w_x_TooGreat : PySem.W.excIn K C_TooGreat mroV "ValueError.__new__" = true)
    (w_e_T : PySem.W.exmOne K (.ref C_TooGreat) (.ref C_YardError) = some true)
    (w_i_T1 : PySem.W.findIn K (.ref C_TooGreat) "__getattribute__" = some (some (.builtin "BaseException.__getattribute__")))
    (w_i_T2 : PySem.W.findIn K (.ref C_TooGreat) "__getattr__" = some none)
    (w_i_T3 : PySem.W.isClsIn K C_TooGreat = true)
    (w_i_T4 : PySem.W.findIn K (.ref C_TooGreat) "__class__" = some (some (.builtin "object.__class__")))
    (w_i5 : PySem.W.specialIn K (.builtin "object.__class__") "__get__" = some (some (.builtin "getset_descriptor.__get__")))
    (w_i6 : PySem.W.takesIn K (.builtin "object.__class__") = some true)
    (w_i_T7 : PySem.W.mroIn K C_TooGreat (.type "object") = some true)
    (w_i_T8 : PySem.W.subIn K (.ref C_TooGreat) (.type "BaseException") = some true)
    (w_k_T : PySem.W.kitOne K (.ref C_TooGreat) (.ref C_TooGreat) = some true)
    (w_a_T : PySem.W.kitAny K (.ref C_TooGreat) [.ref C_NoOrder, .ref C_NoWord, .ref C_TooLong, .ref C_TooMany] = some false)
    (z1 : PySem.W.nsIn K mainGlobals "zip" = some none)
    (z2 : PySem.W.nsIn K mainGlobals "range" = some none)
    (z3 : PySem.W.nsIn K mainGlobals "len" = some none)
    (z4 : PySem.W.nsIn K mainGlobals "tuple" = some none)
    (z5 : PySem.W.nsIn K mainGlobals "list" = some none)
    (z6 : PySem.W.nsIn K mainGlobals "isinstance" = some none)
    (z7 : PySem.W.nsIn K mainGlobals "bool" = some none)
    (z8 : PySem.W.nsIn K mainGlobals "enumerate" = some none)
    (z9 : PySem.W.nsIn K mainGlobals "abs" = some none)
    (z10 : PySem.W.nsIn K mainGlobals "all" = some none)
    (z11 : PySem.W.nsIn K mainGlobals "min" = some none)
    (z12 : PySem.W.nsIn K mainGlobals "max" = some none)
    (z13 : PySem.W.nsIn K mainGlobals "int" = some none)
    : ∃ fd : FuncData, (∀ (s : Shared) (v : Value), BindsTo s fd ⟨[v], []⟩ [("_law_script", v)]) ∧ ∀ base : Heap, K.In base → base.Ns mainGlobals mg → FnOk l.prog w K mg base (CXw l.prog w) 9 fa fd ["_law_script"] (spLaw K) := by
  have e := hfa.symm.trans (PySem.W.mg_of X G a26)
  cases e
  have F1 := fun_mk (st := s_steps_of) l1 c1 k1
  have D1 : Def K mg "steps_of" s_steps_of ["letters"] _ _ := ⟨F1, PySem.W.mg_of X G a1, F1.binds (ps := ["letters"]) fun _ _ _ _ _ _ us hl => by obtain ⟨_, rfl⟩ := args_is1 hl; rfl⟩
  have F2 := fun_mk (st := s_place_of) l2 c2 k2
  have D2 : Def K mg "place_of" s_place_of ["step"] _ _ := ⟨F2, PySem.W.mg_of X G a2, F2.binds (ps := ["step"]) fun _ _ _ _ _ _ us hl => by obtain ⟨_, rfl⟩ := args_is1 hl; rfl⟩
  have F3 := fun_mk (st := s_turning) l3 c3 k3
  have D3 : Def K mg "turning" s_turning ["table", "word"] _ _ := ⟨F3, PySem.W.mg_of X G a3, F3.binds (ps := ["table", "word"]) fun _ _ _ _ _ _ us hl => by obtain ⟨_, _, rfl⟩ := args_is2 hl; rfl⟩
  have F4 := fun_mk (st := s_least_ways) l4 c4 k4
  have D4 : Def K mg "least_ways" s_least_ways ["table"] _ _ := ⟨F4, PySem.W.mg_of X G a4, F4.binds (ps := ["table"]) fun _ _ _ _ _ _ us hl => by obtain ⟨_, rfl⟩ := args_is1 hl; rfl⟩
  have F5 := fun_mk (st := s_homes) l5 c5 k5
  have D5 : Def K mg "homes" s_homes ["letters", "rules", "table"] _ _ := ⟨F5, PySem.W.mg_of X G a5, F5.binds (ps := ["letters", "rules", "table"]) fun _ _ _ _ _ _ us hl => by obtain ⟨_, _, _, rfl⟩ := args_is3 hl; rfl⟩
  have F6 := fun_mk (st := s_check_lists) l6 c6 k6
  have D6 : Def K mg "check_lists" s_check_lists ["rooms", "letters"] _ _ := ⟨F6, PySem.W.mg_of X G a6, F6.binds (ps := ["rooms", "letters"]) fun _ _ _ _ _ _ us hl => by obtain ⟨_, _, rfl⟩ := args_is2 hl; rfl⟩
  have F7 := fun_mk (st := s_turned_by_least_ways) l7 c7 k7
  have D7 : Def K mg "turned_by_least_ways" s_turned_by_least_ways ["table"] _ _ := ⟨F7, PySem.W.mg_of X G a7, F7.binds (ps := ["table"]) fun _ _ _ _ _ _ us hl => by obtain ⟨_, rfl⟩ := args_is1 hl; rfl⟩
  have F8 := fun_mk (st := s_turned_back) l8 c8 k8
  have D8 : Def K mg "turned_back" s_turned_back ["turned"] _ _ := ⟨F8, PySem.W.mg_of X G a8, F8.binds (ps := ["turned"]) fun _ _ _ _ _ _ us hl => by obtain ⟨_, rfl⟩ := args_is1 hl; rfl⟩
  have F9 := fun_mk (st := s_homes_by) l9 c9 k9
  have D9 : Def K mg "homes_by" s_homes_by ["moves", "letters", "rules"] _ _ := ⟨F9, PySem.W.mg_of X G a9, F9.binds (ps := ["moves", "letters", "rules"]) fun _ _ _ _ _ _ us hl => by obtain ⟨_, _, _, rfl⟩ := args_is3 hl; rfl⟩
  have F10 := fun_mk (st := s_greatest_letter) l10 c10 k10
  have D10 : Def K mg "greatest_letter" s_greatest_letter ["rule"] _ _ := ⟨F10, PySem.W.mg_of X G a10, F10.binds (ps := ["rule"]) fun _ _ _ _ _ _ us hl => by obtain ⟨_, rfl⟩ := args_is1 hl; rfl⟩
  have F11 := fun_mk (st := s_longer) l11 c11 k11
  have D11 : Def K mg "longer" s_longer ["lists", "due", "moves"] _ _ := ⟨F11, PySem.W.mg_of X G a11, F11.binds (ps := ["lists", "due", "moves"]) fun _ _ _ _ _ _ us hl => by obtain ⟨_, _, _, rfl⟩ := args_is3 hl; rfl⟩
  have F12 := fun_mk (st := s_leads_home) l12 c12 k12
  have D12 : Def K mg "leads_home" s_leads_home ["moves", "home", "rule"] _ _ := ⟨F12, PySem.W.mg_of X G a12, F12.binds (ps := ["moves", "home", "rule"]) fun _ _ _ _ _ _ us hl => by obtain ⟨_, _, _, rfl⟩ := args_is3 hl; rfl⟩
  have F13 := fun_mk (st := s__law_at) l13 c13 k13
  have D13 : Def K mg "_law_at" s__law_at ["_law_script", "_law_k"] _ _ := ⟨F13, PySem.W.mg_of X G a13, F13.binds (ps := ["_law_script", "_law_k"]) fun _ _ _ _ _ _ us hl => by obtain ⟨_, _, rfl⟩ := args_is2 hl; rfl⟩
  have F14 := fun_mk (st := s__law_mix) l14 c14 k14
  have D14 : Def K mg "_law_mix" s__law_mix ["_law_number", "_law_place"] _ _ := ⟨F14, PySem.W.mg_of X G a14, F14.binds (ps := ["_law_number", "_law_place"]) fun _ _ _ _ _ _ us hl => by obtain ⟨_, _, rfl⟩ := args_is2 hl; rfl⟩
  have F15 := fun_mk (st := s__law_turns) l15 c15 k15
  have D15 : Def K mg "_law_turns" s__law_turns ["_law_number", "_law_letters", "_law_points"] _ _ := ⟨F15, PySem.W.mg_of X G a15, F15.binds (ps := ["_law_number", "_law_letters", "_law_points"]) fun _ _ _ _ _ _ us hl => by obtain ⟨_, _, _, rfl⟩ := args_is3 hl; rfl⟩
  have F16 := fun_mk (st := s__law_back) l16 c16 k16
  have D16 : Def K mg "_law_back" s__law_back ["_law_turned"] _ _ := ⟨F16, PySem.W.mg_of X G a16, F16.binds (ps := ["_law_turned"]) fun _ _ _ _ _ _ us hl => by obtain ⟨_, rfl⟩ := args_is1 hl; rfl⟩
  have F17 := fun_mk (st := s__law_through) l17 c17 k17
  have D17 : Def K mg "_law_through" s__law_through ["_law_turns_here", "_law_word_here", "_law_points"] _ _ := ⟨F17, PySem.W.mg_of X G a17, F17.binds (ps := ["_law_turns_here", "_law_word_here", "_law_points"]) fun _ _ _ _ _ _ us hl => by obtain ⟨_, _, _, rfl⟩ := args_is3 hl; rfl⟩
  have F18 := fun_mk (st := s__law_table) l18 c18 k18
  have D18 : Def K mg "_law_table" s__law_table ["_law_turns_here", "_law_points"] _ _ := ⟨F18, PySem.W.mg_of X G a18, F18.binds (ps := ["_law_turns_here", "_law_points"]) fun _ _ _ _ _ _ us hl => by obtain ⟨_, _, rfl⟩ := args_is2 hl; rfl⟩
  have F19 := fun_mk (st := s__law_word) l19 c19 k19
  have D19 : Def K mg "_law_word" s__law_word ["_law_cells", "_law_letters"] _ _ := ⟨F19, PySem.W.mg_of X G a19, F19.binds (ps := ["_law_cells", "_law_letters"]) fun _ _ _ _ _ _ us hl => by obtain ⟨_, _, rfl⟩ := args_is2 hl; rfl⟩
  have F20 := fun_mk (st := s__law_rules) l20 c20 k20
  have D20 : Def K mg "_law_rules" s__law_rules ["_law_script", "_law_letters", "_law_number"] _ _ := ⟨F20, PySem.W.mg_of X G a20, F20.binds (ps := ["_law_script", "_law_letters", "_law_number"]) fun _ _ _ _ _ _ us hl => by obtain ⟨_, _, _, rfl⟩ := args_is3 hl; rfl⟩
  have F21 := fun_mk (st := s__law_lists) l21 c21 k21
  have D21 : Def K mg "_law_lists" s__law_lists ["_law_letters", "_law_many_here"] _ _ := ⟨F21, PySem.W.mg_of X G a21, F21.binds (ps := ["_law_letters", "_law_many_here"]) fun _ _ _ _ _ _ us hl => by obtain ⟨_, _, rfl⟩ := args_is2 hl; rfl⟩
  have F22 := fun_mk (st := s__law_due) l22 c22 k22
  have D22 : Def K mg "_law_due" s__law_due ["_law_letters", "_law_rules_here", "_law_come"] _ _ := ⟨F22, PySem.W.mg_of X G a22, F22.binds (ps := ["_law_letters", "_law_rules_here", "_law_come"]) fun _ _ _ _ _ _ us hl => by obtain ⟨_, _, _, rfl⟩ := args_is3 hl; rfl⟩
  have F23 := fun_mk (st := s__law_same) l23 c23 k23
  have D23 : Def K mg "_law_same" s__law_same ["_law_found", "_law_due_here"] _ _ := ⟨F23, PySem.W.mg_of X G a23, F23.binds (ps := ["_law_found", "_law_due_here"]) fun _ _ _ _ _ _ us hl => by obtain ⟨_, _, rfl⟩ := args_is2 hl; rfl⟩
  have F24 := fun_mk (st := s__law_refused) l24 c24 k24
  have D24 : Def K mg "_law_refused" s__law_refused ["_law_letters", "_law_rules_here", "_law_table_here"] _ _ := ⟨F24, PySem.W.mg_of X G a24, F24.binds (ps := ["_law_letters", "_law_rules_here", "_law_table_here"]) fun _ _ _ _ _ _ us hl => by obtain ⟨_, _, _, rfl⟩ := args_is3 hl; rfl⟩
  have F25 := fun_mk (st := s__law_many) l25 c25 k25
  have D25 : Def K mg "_law_many" s__law_many ["_law_letters", "_law_rooms"] _ _ := ⟨F25, PySem.W.mg_of X G a25, F25.binds (ps := ["_law_letters", "_law_rooms"]) fun _ _ _ _ _ _ us hl => by obtain ⟨_, _, rfl⟩ := args_is2 hl; rfl⟩
  have F26 := fun_mk (st := s_law) l26 c26 k26
  have D26 : Def K mg "law" s_law ["_law_script"] _ _ := ⟨F26, PySem.W.mg_of X G a26, F26.binds (ps := ["_law_script"]) fun _ _ _ _ _ _ us hl => by obtain ⟨_, rfl⟩ := args_is1 hl; rfl⟩
  have F27 := fun_mk (st := s_Moves___init__) l27 c27 k27
  have D27 : MDef K C_Moves "__init__" "Moves.__init__" s_Moves___init__ ["self", "table"] _ _ := ⟨F27, ⟨a27, i27, k27⟩, F27.binds (ps := ["self", "table"]) fun _ _ _ _ _ _ us hl => by obtain ⟨_, _, rfl⟩ := args_is2 hl; rfl⟩
  have F28 := fun_mk (st := s_Moves_by_home) l28 c28 k28
  have D28 : MDef K C_Moves "by_home" "Moves.by_home" s_Moves_by_home ["self", "home", "step"] _ _ := ⟨F28, ⟨a28, i28, k28⟩, F28.binds (ps := ["self", "home", "step"]) fun _ _ _ _ _ _ us hl => by obtain ⟨_, _, _, rfl⟩ := args_is3 hl; rfl⟩
  have T : Txt K mg ⟨f1, PySem.W.fnOf "steps_of" "steps_of" (defArgs s_steps_of) (defBody s_steps_of) (defScope s_steps_of) .none kV1 dc1 pm1 an1 cd1 ct1, f2, PySem.W.fnOf "place_of" "place_of" (defArgs s_place_of) (defBody s_place_of) (defScope s_place_of) .none kV2 dc2 pm2 an2 cd2 ct2, f3, PySem.W.fnOf "turning" "turning" (defArgs s_turning) (defBody s_turning) (defScope s_turning) .none kV3 dc3 pm3 an3 cd3 ct3, f4, PySem.W.fnOf "least_ways" "least_ways" (defArgs s_least_ways) (defBody s_least_ways) (defScope s_least_ways) .none kV4 dc4 pm4 an4 cd4 ct4, f5, PySem.W.fnOf "homes" "homes" (defArgs s_homes) (defBody s_homes) (defScope s_homes) .none kV5 dc5 pm5 an5 cd5 ct5, f6, PySem.W.fnOf "check_lists" "check_lists" (defArgs s_check_lists) (defBody s_check_lists) (defScope s_check_lists) .none kV6 dc6 pm6 an6 cd6 ct6, f7, PySem.W.fnOf "turned_by_least_ways" "turned_by_least_ways" (defArgs s_turned_by_least_ways) (defBody s_turned_by_least_ways) (defScope s_turned_by_least_ways) .none kV7 dc7 pm7 an7 cd7 ct7, f8, PySem.W.fnOf "turned_back" "turned_back" (defArgs s_turned_back) (defBody s_turned_back) (defScope s_turned_back) .none kV8 dc8 pm8 an8 cd8 ct8, f9, PySem.W.fnOf "homes_by" "homes_by" (defArgs s_homes_by) (defBody s_homes_by) (defScope s_homes_by) .none kV9 dc9 pm9 an9 cd9 ct9, f10, PySem.W.fnOf "greatest_letter" "greatest_letter" (defArgs s_greatest_letter) (defBody s_greatest_letter) (defScope s_greatest_letter) .none kV10 dc10 pm10 an10 cd10 ct10, f11, PySem.W.fnOf "longer" "longer" (defArgs s_longer) (defBody s_longer) (defScope s_longer) .none kV11 dc11 pm11 an11 cd11 ct11, f12, PySem.W.fnOf "leads_home" "leads_home" (defArgs s_leads_home) (defBody s_leads_home) (defScope s_leads_home) .none kV12 dc12 pm12 an12 cd12 ct12, f13, PySem.W.fnOf "_law_at" "_law_at" (defArgs s__law_at) (defBody s__law_at) (defScope s__law_at) .none kV13 dc13 pm13 an13 cd13 ct13, f14, PySem.W.fnOf "_law_mix" "_law_mix" (defArgs s__law_mix) (defBody s__law_mix) (defScope s__law_mix) .none kV14 dc14 pm14 an14 cd14 ct14, f15, PySem.W.fnOf "_law_turns" "_law_turns" (defArgs s__law_turns) (defBody s__law_turns) (defScope s__law_turns) .none kV15 dc15 pm15 an15 cd15 ct15, f16, PySem.W.fnOf "_law_back" "_law_back" (defArgs s__law_back) (defBody s__law_back) (defScope s__law_back) .none kV16 dc16 pm16 an16 cd16 ct16, f17, PySem.W.fnOf "_law_through" "_law_through" (defArgs s__law_through) (defBody s__law_through) (defScope s__law_through) .none kV17 dc17 pm17 an17 cd17 ct17, f18, PySem.W.fnOf "_law_table" "_law_table" (defArgs s__law_table) (defBody s__law_table) (defScope s__law_table) .none kV18 dc18 pm18 an18 cd18 ct18, f19, PySem.W.fnOf "_law_word" "_law_word" (defArgs s__law_word) (defBody s__law_word) (defScope s__law_word) .none kV19 dc19 pm19 an19 cd19 ct19, f20, PySem.W.fnOf "_law_rules" "_law_rules" (defArgs s__law_rules) (defBody s__law_rules) (defScope s__law_rules) .none kV20 dc20 pm20 an20 cd20 ct20, f21, PySem.W.fnOf "_law_lists" "_law_lists" (defArgs s__law_lists) (defBody s__law_lists) (defScope s__law_lists) .none kV21 dc21 pm21 an21 cd21 ct21, f22, PySem.W.fnOf "_law_due" "_law_due" (defArgs s__law_due) (defBody s__law_due) (defScope s__law_due) .none kV22 dc22 pm22 an22 cd22 ct22, f23, PySem.W.fnOf "_law_same" "_law_same" (defArgs s__law_same) (defBody s__law_same) (defScope s__law_same) .none kV23 dc23 pm23 an23 cd23 ct23, f24, PySem.W.fnOf "_law_refused" "_law_refused" (defArgs s__law_refused) (defBody s__law_refused) (defScope s__law_refused) .none kV24 dc24 pm24 an24 cd24 ct24, f25, PySem.W.fnOf "_law_many" "_law_many" (defArgs s__law_many) (defBody s__law_many) (defScope s__law_many) .none kV25 dc25 pm25 an25 cd25 ct25, fa, PySem.W.fnOf "law" "law" (defArgs s_law) (defBody s_law) (defScope s_law) .none kV26 dc26 pm26 an26 cd26 ct26, f27, PySem.W.fnOf "__init__" "Moves.__init__" (defArgs s_Moves___init__) (defBody s_Moves___init__) (defScope s_Moves___init__) .none kV27 dc27 pm27 an27 cd27 ct27, f28, PySem.W.fnOf "by_home" "Moves.by_home" (defArgs s_Moves_by_home) (defBody s_Moves_by_home) (defScope s_Moves_by_home) .none kV28 dc28 pm28 an28 cd28 ct28, tk1, C_YardError, C_NoWord, C_TooLong, C_NoOrder, C_TooMany, C_TooGreat, C_Moves⟩ := ⟨D1, D2, D3, D4, D5, D6, D7, D8, D9, D10, D11, D12, D13, D14, D15, D16, D17, D18, D19, D20, D21, D22, D23, D24, D25, D26, D27, D28, PySem.W.mg_of X G g1, PySem.W.mg_none_of X G z1, PySem.W.mg_none_of X G z2, PySem.W.mg_none_of X G z3, PySem.W.mg_none_of X G z4, PySem.W.mg_none_of X G z5, PySem.W.mg_none_of X G z6, PySem.W.mg_none_of X G z7, PySem.W.mg_none_of X G z8, PySem.W.mg_none_of X G z9, PySem.W.mg_none_of X G z10, PySem.W.mg_none_of X G z11, PySem.W.mg_none_of X G z12, PySem.W.mg_none_of X G z13, PySem.W.mg_of X G y_YardError, PySem.W.mg_of X G y_NoWord, PySem.W.mg_of X G y_TooLong, PySem.W.mg_of X G y_NoOrder, PySem.W.mg_of X G y_TooMany, PySem.W.mg_of X G y_TooGreat, PySem.W.mg_of X G y_Moves, w_pg_Moves, w_hd_Moves, w_po_Moves, w_sa_Moves, w_mk_Moves, w_kc_Moves, w_n_many, w_n_forth, w_n_behind, w_x_TooGreat, w_e_T, w_i_T1, w_i_T2, w_i_T3, w_i_T4, w_i5, w_i6, w_i_T7, w_i_T8, w_k_T, w_a_T⟩
  exact ⟨_, fun s v => .of_eq rfl, fun base _ _ => ok_law T⟩
theorem walk {l : PySem.W.OpenLaw} {q : Program} {loose : List Str} {XP : (Str → Option Value) → Heap → Prop} {YP : World → Heap → Prop} {d : DefRec} {K : Params → PySem.W.Frag} (hn : l.most = some 63) (hdf : d.params.defaults = [])
    (hY : ∀ (w : World) (h : Heap), YP w h → (K w.params).In h)
    (F : ∀ (w : World) (mg : Str → Option Value) (fa : Addr) (h : Heap), (K w.params).In h → h.Ns mainGlobals mg → mg d.name = some (.ref fa) →
      ∃ fd : FuncData, (∀ (s : Shared) (u : Value), BindsTo s fd ⟨[u], []⟩ [("_law_script", u)]) ∧ ∀ base : Heap, (K w.params).In base → base.Ns mainGlobals mg → FnOk l.prog w (K w.params) mg base (CXw l.prog w) 9 fa fd ["_law_script"] (spLaw (K w.params))) :
    PySem.W.WalkO q loose XP YP l.row.toRowW d [] (fun f vs => PySem.call f vs) :=
  L2.walk_of (n := 63) (k := 9) (x := "_law_script") (CX := fun w => (CXw l.prog w)) (sp := fun w => spLaw (K w.params)) hn (by decide) hdf ⟨rfl, by decide, by decide⟩ hY F (fun _ _ a ns hl _ hS => ⟨a, ns, rfl, hS, hl, fun _ => rfl⟩) fun _ _ _ _ _ z => noCX z
end K72
open PySem PySem.W PyProof.Rows
set_option maxRecDepth 100000 in
set_option maxHeartbeats 0 in
theorem PySem.Challenge.cw_cosetyard_k72_homes_holds : PySem.Challenge.rw_cosetyard_k72_homes.Holds := by
  w_on; o_law; k_head; (case hw => w_witness2)
  k_fill
  refine K72.walk (l := PySem.Challenge.rw_cosetyard_k72_homes) rfl rfl (fun w h Y => PySem.W.kIn_of Y) ?F
  case F =>
    intro w mg fa h KX G hmg
    refine' K72.all_mk KX G hmg ?y_Moves ?y_TooGreat ?y_TooMany ?y_NoOrder ?y_TooLong ?y_NoWord ?y_YardError ?a1 ?l1 ?c1 ?k1 ?a2 ?l2 ?c2 ?k2 ?a3 ?l3 ?c3 ?k3 ?a4 ?l4 ?c4 ?k4 ?a5 ?l5 ?c5 ?k5 ?a6 ?l6 ?c6 ?k6 ?a7 ?l7 ?c7 ?k7 ?a8 ?l8 ?c8 ?k8 ?a9 ?l9 ?c9 ?k9 ?a10 ?l10 ?c10 ?k10 ?a11 ?l11 ?c11 ?k11 ?a12 ?l12 ?c12 ?k12 ?a13 ?l13 ?c13 ?k13 ?a14 ?l14 ?c14 ?k14 ?a15 ?l15 ?c15 ?k15 ?a16 ?l16 ?c16 ?k16 ?a17 ?l17 ?c17 ?k17 ?a18 ?l18 ?c18 ?k18 ?a19 ?l19 ?c19 ?k19 ?a20 ?l20 ?c20 ?k20 ?a21 ?l21 ?c21 ?k21 ?a22 ?l22 ?c22 ?k22 ?a23 ?l23 ?c23 ?k23 ?a24 ?l24 ?c24 ?k24 ?a25 ?l25 ?c25 ?k25 ?a26 ?l26 ?c26 ?k26 ?a27 ?i27 ?l27 ?c27 ?k27 ?a28 ?i28 ?l28 ?c28 ?k28 ?g1 ?w_pg_Moves ?w_hd_Moves ?w_po_Moves ?w_sa_Moves ?w_mk_Moves ?w_kc_Moves ?w_n_many ?w_n_forth ?w_n_behind ?w_x_TooGreat ?w_e_T ?w_i_T1 ?w_i_T2 ?w_i_T3 ?w_i_T4 ?w_i5 ?w_i6 ?w_i_T7 ?w_i_T8 ?w_k_T ?w_a_T ?z1 ?z2 ?z3 ?z4 ?z5 ?z6 ?z7 ?z8 ?z9 ?z10 ?z11 ?z12 ?z13
    (case y_Moves => k_is)
    (case y_TooGreat => k_is)
    (case y_TooMany => k_is)
    (case y_NoOrder => k_is)
    (case y_TooLong => k_is)
    (case y_NoWord => k_is)
    (case y_YardError => k_is)
    (case a1 => k_is)
    (case l1 => k_is)
    (case c1 => k_is)
    (case k1 => k_is)
    (case a2 => k_is)
    (case l2 => k_is)
    (case c2 => k_is)
    (case k2 => k_is)
    (case a3 => k_is)
    (case l3 => k_is)
    (case c3 => k_is)
    (case k3 => k_is)
    (case a4 => k_is)
    (case l4 => k_is)
    (case c4 => k_is)
    (case k4 => k_is)
    (case a5 => k_is)
    (case l5 => k_is)
    (case c5 => k_is)
    (case k5 => k_is)
    (case a6 => k_is)
    (case l6 => k_is)
    (case c6 => k_is)
    (case k6 => k_is)
    (case a7 => k_is)
    (case l7 => k_is)
    (case c7 => k_is)
    (case k7 => k_is)
    (case a8 => k_is)
    (case l8 => k_is)
    (case c8 => k_is)
    (case k8 => k_is)
    (case a9 => k_is)
    (case l9 => k_is)
    (case c9 => k_is)
    (case k9 => k_is)
    (case a10 => k_is)
    (case l10 => k_is)
    (case c10 => k_is)
    (case k10 => k_is)
    (case a11 => k_is)
    (case l11 => k_is)
    (case c11 => k_is)
    (case k11 => k_is)
    (case a12 => k_is)
    (case l12 => k_is)
    (case c12 => k_is)
    (case k12 => k_is)
    (case a13 => k_is)
    (case l13 => k_is)
    (case c13 => k_is)
    (case k13 => k_is)
    (case a14 => k_is)
    (case l14 => k_is)
    (case c14 => k_is)
    (case k14 => k_is)
    (case a15 => k_is)
    (case l15 => k_is)
    (case c15 => k_is)
    (case k15 => k_is)
    (case a16 => k_is)
    (case l16 => k_is)
    (case c16 => k_is)
    (case k16 => k_is)
    (case a17 => k_is)
    (case l17 => k_is)
    (case c17 => k_is)
    (case k17 => k_is)
    (case a18 => k_is)
    (case l18 => k_is)
    (case c18 => k_is)
    (case k18 => k_is)
    (case a19 => k_is)
    (case l19 => k_is)
    (case c19 => k_is)
    (case k19 => k_is)
    (case a20 => k_is)
    (case l20 => k_is)
    (case c20 => k_is)
    (case k20 => k_is)
    (case a21 => k_is)
    (case l21 => k_is)
    (case c21 => k_is)
    (case k21 => k_is)
    (case a22 => k_is)
    (case l22 => k_is)
    (case c22 => k_is)
    (case k22 => k_is)
    (case a23 => k_is)
    (case l23 => k_is)
    (case c23 => k_is)
    (case k23 => k_is)
    (case a24 => k_is)
    (case l24 => k_is)
    (case c24 => k_is)
    (case k24 => k_is)
    (case a25 => k_is)
    (case l25 => k_is)
    (case c25 => k_is)
    (case k25 => k_is)
    (case a26 => k_is)
    (case l26 => k_is)
    (case c26 => k_is)
    (case k26 => k_is)
    (case a27 => k_is)
    (case i27 => k_is)
    (case l27 => k_is)
    (case c27 => k_is)
    (case k27 => k_is)
    (case a28 => k_is)
    (case i28 => k_is)
    (case l28 => k_is)
    (case c28 => k_is)
    (case k28 => k_is)
    (case g1 => k_is)
    (case w_pg_Moves => first | k_is | kit_is | kts_exm | kernel_rfl)
    (case w_hd_Moves => first | k_is | kit_is | kts_exm | kernel_rfl)
    (case w_po_Moves => first | k_is | kit_is | kts_exm | kernel_rfl)
    (case w_sa_Moves => first | k_is | kit_is | kts_exm | kernel_rfl)
    (case w_mk_Moves => first | k_is | kit_is | kts_exm | kernel_rfl)
    (case w_kc_Moves => first | k_is | kit_is | kts_exm | kernel_rfl)
    (case w_n_many => first | k_is | kit_is | kts_exm | kernel_rfl)
    (case w_n_forth => first | k_is | kit_is | kts_exm | kernel_rfl)
    (case w_n_behind => first | k_is | kit_is | kts_exm | kernel_rfl)
    (case w_x_TooGreat => first | k_is | kit_is | kts_exm | kernel_rfl)
    (case w_e_T => first | k_is | kit_is | kts_exm | kernel_rfl)
    (case w_i_T1 => first | k_is | kit_is | kts_exm | kernel_rfl)
    (case w_i_T2 => first | k_is | kit_is | kts_exm | kernel_rfl)
    (case w_i_T3 => first | k_is | kit_is | kts_exm | kernel_rfl)
    (case w_i_T4 => first | k_is | kit_is | kts_exm | kernel_rfl)
    (case w_i5 => first | k_is | kit_is | kts_exm | kernel_rfl)
    (case w_i6 => first | k_is | kit_is | kts_exm | kernel_rfl)
    (case w_i_T7 => first | k_is | kit_is | kts_exm | kernel_rfl)
    (case w_i_T8 => first | k_is | kit_is | kts_exm | kernel_rfl)
    (case w_k_T => first | k_is | kit_is | kts_exm | kernel_rfl)
    (case w_a_T => first | k_is | kit_is | kts_exm | kernel_rfl)
    (case z1 => k_is)
    (case z2 => k_is)
    (case z3 => k_is)
    (case z4 => k_is)
    (case z5 => k_is)
    (case z6 => k_is)
    (case z7 => k_is)
    (case z8 => k_is)
    (case z9 => k_is)
    (case z10 => k_is)
    (case z11 => k_is)
    (case z12 => k_is)
    (case z13 => k_is)
