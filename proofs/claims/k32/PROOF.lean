import PyProof.Rows.All
import Wide.All
import OpenK.AllK
import Wide.FinOn
import Lean
import PyProof.EqAt
import PyProof.EqKinds
import PyProof.TupleCall
import PyProof.FString
import OpenK.KOwn
import KE.KTryMore
import PyProof.NsDelKeeps
import PyProof.StrBlock2
import PyProof.AutoListH
import KE.KIntText
import PyProof.Rows.StrIntSpec
import KE.KRevIter
import PyProof.StrWalks
import PyProof.CompUse
import PyProof.NeKinds
import PyProof.Rows.Range3
import PyProof.Rows.EnumRows
import PyProof.ConsumeWalk
import PyProof.Rows.SeqGen
import PyProof.StrLawsRepr
import PyProof.ZipIter
import PyProof.Rows.FactsT2
import PyProof.EnumMake
import PyProof.DictWalks
import PyProof.DictTruth
import PyProof.ListRange
import PyProof.ListStr
import PyProof.TupleOfGen
import PyProof.TupleOfSeq
import PyProof.MinMaxWalk
import PyProof.WalkInts
import KE.KSortAsk
import PyProof.MeetsSeq3
import KE.KRevSl
import PyProof.Rows.SeqMore
import PyProof.ListMulRoad
import PyProof.Rows.SumAny
import PyProof.SeqI3
import PyProof.AttrMissSeq
import KE.KDictOf
import PySem.Challenge.RW_cosetyard_k32_numbered
-- CHANGE: your row's module here, as the last of these rows
set_option Elab.async false
set_option linter.all false
set_option maxRecDepth 100000
namespace L2
open PySem PySem.Spec PyProof.Rows
abbrev Key := Sum Int Str
def keyIs : Key → Value → Bool
  | .inl k, v => Value.isInt k v
  | .inr x, v => Value.isStrOf x v
def keyH (w : World) : Key → Int
  | .inl k => hashInt k
  | .inr x => hashStr w x
theorem keyIs_shape : ∀ {k : Key} {v : Value}, keyIs k v = true → (∃ i t, k = Sum.inl i ∧ v = Value.int i t) ∨ (∃ x t, k = Sum.inr x ∧ v = Value.str x t)
  | .inl i, v, h => by
    obtain ⟨t, e⟩ := Value.isInt_shape (k := i) (v := v) h
    exact .inl ⟨i, t, rfl, e⟩
  | .inr x, v, h => by
    obtain ⟨t, e⟩ := Value.isStrOf_shape (x := x) (v := v) h
    exact .inr ⟨x, t, rfl, e⟩
theorem keyIs_int (i : Int) (t : Tok) : keyIs (.inl i) (.int i t) = true := by simp [keyIs, Value.isInt]
theorem keyIs_str (x : Str) (t : Tok) : keyIs (.inr x) (.str x t) = true := by simp [keyIs, Value.isStrOf]
theorem key_ll (a b : Int) : decide ((Sum.inl a : Key) = Sum.inl b) = (a == b) := by
  by_cases e : a = b
  · subst e; simp
  · have h : ¬ (Sum.inl a : Key) = Sum.inl b := fun q => e (Sum.inl.inj q)
    rw [decide_eq_false h]
    exact (beq_eq_false_iff_ne.mpr e).symm
theorem key_rr (a b : Str) : decide ((Sum.inr a : Key) = Sum.inr b) = decide (a = b) := by
  by_cases e : a = b
  · subst e; simp
  · have h : ¬ (Sum.inr a : Key) = Sum.inr b := fun q => e (Sum.inr.inj q)
    rw [decide_eq_false h, decide_eq_false e]
theorem key_lr (a : Int) (b : Str) : decide ((Sum.inl a : Key) = Sum.inr b) = false := decide_eq_false (fun q => nomatch q)
theorem key_rl (a : Str) (b : Int) : decide ((Sum.inr a : Key) = Sum.inl b) = false := decide_eq_false (fun q => nomatch q)
def mixKind (prog : Program) (w : World) : PySem.KeyKind prog w Key where
  is := keyIs
  hash := keyH w
  inj := fun v a b ha hb => by
    rcases keyIs_shape ha with ⟨i, t, rfl, rfl⟩ | ⟨x, t, rfl, rfl⟩
    · rcases keyIs_shape hb with ⟨j, u, rfl, e⟩ | ⟨y, u, rfl, e⟩
      · injection e with e1 _; rw [e1]
      · exact nomatch e
    · rcases keyIs_shape hb with ⟨j, u, rfl, e⟩ | ⟨y, u, rfl, e⟩
      · exact nomatch e
      · injection e with e1 _; rw [e1]
  byValue := fun k v h => by
    rcases keyIs_shape h with ⟨i, t, rfl, rfl⟩ | ⟨x, t, rfl, rfl⟩ <;> rfl
  pyHash := fun hv h => by
    rcases keyIs_shape hv with ⟨i, t, rfl, rfl⟩ | ⟨x, t, rfl, rfl⟩
    · exact wpAny_pyHash_int h
    · exact wpAny_pyHash_str h
  eqBool := fun hu hv h => by
    rcases keyIs_shape hu with ⟨i, t, rfl, rfl⟩ | ⟨x, t, rfl, rfl⟩
    · rcases keyIs_shape hv with ⟨j, u, rfl, rfl⟩ | ⟨y, u, rfl, rfl⟩
      · rw [key_ll] at h; exact wpAny_eqBool_int h
      · rw [key_lr] at h; exact SeqAt.EqAt.int_str i t y u _ _ _ _ h
    · rcases keyIs_shape hv with ⟨j, u, rfl, rfl⟩ | ⟨y, u, rfl, rfl⟩
      · rw [key_rl] at h; exact SeqAt.EqAt.str_int x t j u _ _ _ _ h
      · rw [key_rr] at h; exact wpAny_eqBool_str h
  «strs» := fun k x t v h => by
    rcases keyIs_shape h with ⟨i, u, rfl, e⟩ | ⟨y, u, rfl, e⟩
    · exact nomatch e
    · injection e with e1 _
      subst e1
      cases v <;> rfl
theorem mixKind_int (prog : Program) (w : World) (i : Int) (t : Tok) : (mixKind prog w).is (.inl i) (.int i t) = true := keyIs_int i t
theorem mixKind_str (prog : Program) (w : World) (x : Str) (t : Tok) : (mixKind prog w).is (.inr x) (.str x t) = true := keyIs_str x t
end L2
namespace L2
open PySem PySem.Spec PyProof.Rows
inductive V where
  | non | bl (b : Bool) | int (i : Int) | str (x : Str) | byt (b : Array UInt8) | flt (b : UInt64) | ref (a : Addr) | ty (n : String)
  deriving DecidableEq
def RelV : V → Value → Prop
  | .non, u => u = Value.none
  | .bl b, u => u = Value.bool b
  | .int i, u => ∃ t, u = Value.int i t
  | .str x, u => ∃ t, u = Value.str x t
  | .byt b, u => ∃ t, u = Value.bytes b t
  | .flt b, u => ∃ t, u = Value.float b t
  | .ref a, u => u = Value.ref a
  | .ty n, u => u = Value.type n
abbrev Vals : List V → List Value → Prop := Paired RelV
theorem Vals.length {xs : List V} {us : List Value} (r : Vals xs us) : xs.length = us.length := Paired.length r
theorem Vals.get : ∀ {xs : List V} {us : List Value} {i : Nat} {x : V}, Vals xs us → xs[i]? = some x → ∃ u, us[i]? = some u ∧ RelV x u
  | _, _, _, _, .nil, e => by simp at e
  | _, _, 0, _, .cons r _, e => by simp at e; subst e; exact ⟨_, rfl, r⟩
  | _, _, i + 1, x, .cons _ t, e => by
    obtain ⟨u, h1, h2⟩ := Vals.get (i := i) (x := x) t (by simpa using e)
    exact ⟨u, by simpa using h1, h2⟩
theorem Vals.set {x : V} {u : Value} (r : RelV x u) : ∀ {xs : List V} {us : List Value} (i : Nat), Vals xs us → Vals (xs.set i x) (us.set i u)
  | _, _, _, .nil => .nil
  | _, _, 0, .cons _ t => .cons r t
  | _, _, i + 1, .cons q t => .cons q (Vals.set r i t)
theorem Vals.append : ∀ {xs ys : List V} {us ws : List Value}, Vals xs us → Vals ys ws → Vals (xs ++ ys) (us ++ ws)
  | _, _, _, _, .nil, s => s
  | _, _, _, _, .cons r t, s => .cons r (Vals.append t s)
theorem Vals.take : ∀ {xs : List V} {us : List Value} (n : Nat), Vals xs us → Vals (xs.take n) (us.take n)
  | _, _, 0, _ => .nil
  | _, _, _ + 1, .nil => .nil
  | _, _, n + 1, .cons r t => .cons r (Vals.take n t)
theorem Vals.drop : ∀ {xs : List V} {us : List Value} (n : Nat), Vals xs us → Vals (xs.drop n) (us.drop n)
  | _, _, 0, r => r
  | _, _, _ + 1, .nil => .nil
  | _, _, n + 1, .cons _ t => Vals.drop n t
def RelO : Option V → Option Value → Prop
  | some v, some u => RelV v u
  | none, none => True
  | _, _ => False
def KV {κ : Type} : List (κ × V) → List (κ × Value) → Prop := Paired fun (p : κ × V) (q : κ × Value) => p.1 = q.1 ∧ RelV p.2 q.2
def kV : Key → V
  | .inl i => .int i
  | .inr x => .str x
inductive HO where
  /-- a list -/
  | lst (xs : List V)
  /-- a tuple (never changes) -/
  | tup (xs : List V)
  /-- a dict whose keys are ints and texts; one whose keys are tuples of ints and texts (the empty one is both) -/
  | dK (kvs : List (Key × V)) | dT (kvs : List (List Key × V))
  /-- a set of ints: its members, its size -/
  | set (S : Int → Bool) (n : Nat)
  /-- an instance of the class at C, its dict at dx, its attributes -/
  | ins (C dx : Addr) (fs : List (Str × V))
  /-- the dict of the instance at x -/
  | own (x : Addr)
  /-- the dict of an exception -/
  | xd (fs : List (Str × V))
  /-- a bound method, f of x -/
  | met (f x : Addr)
  /-- a range object lo, lo + 1, .. below hi -/
  | rng (lo hi : Int)
  /-- a thing that is known to the object (the script; a dict while a loop walks it): read, never written while it is so -/
  | frz (o : Obj) (u : HO)
  /-- a code object's table -/
  | tbl (ps : Array Value)
  /-- any other thing, by what is true of its one object (a def of one's own: SetO a S n := HO.ext fun h => ..) -/
  | ext (φ : Heap → Prop)
abbrev Hp := Addr → Option HO
def upd (H : Hp) (a : Addr) (o : HO) : Hp := fun b => if b = a then some o else H b
theorem upd_same {H : Hp} {a : Addr} {o : HO} : upd H a o a = some o := by unfold upd; rw [if_pos rfl]
theorem upd_ne {H : Hp} {a b : Addr} {o : HO} (h : b ≠ a) : upd H a o b = H b := by unfold upd; rw [if_neg h]
theorem ne_of {H : Hp} {a b : Addr} {o u : HO} (h : H a = some o) (h' : H b = some u) (d : o ≠ u) : a ≠ b := by
  intro e; subst e; rw [h] at h'; exact d (Option.some.inj h')
theorem ne_of_none {H : Hp} {a b : Addr} {o : HO} (h : H a = some o) (h' : H b = none) : a ≠ b := by
  intro e; subst e; rw [h] at h'; cases h'
section
variable (P : Program) (w : World)
def ObjOk (H : Hp) (h : Heap) (a : Addr) : HO → Prop
  | .lst xs => xs.length ≤ sizeLine ∧ ∃ (its : List Value) (n : Nat), Vals xs its ∧ h.get? a = some { cls := .type "list", data := .seq its.toArray n }
  | .tup xs => xs.length ≤ sizeLine ∧ ∃ its : List Value, Vals xs its ∧ IsTup h a its.toArray
  | .dK kvs => kvs.length ≤ sizeLine ∧ (a == sysModules) = false ∧ ∃ vs, KV kvs vs ∧ h.DictOf (mixKind P w) a vs
  | .dT kvs => kvs.length ≤ sizeLine ∧ (a == sysModules) = false ∧ ∃ xs : List (List Key × Addr × Value),
      Paired (fun (p : List Key × V) (q : List Key × Addr × Value) => p.1 = q.1 ∧ H q.2.1 = some (.tup (p.1.map kV)) ∧ RelV p.2 q.2.2) kvs xs ∧
      ∃ o es ep, h.get? a = some o ∧ o.ExactDict ∧ o.data = .dict es ep ∧ es.toList = xs.map (entryOfKey (tupleKind (mixKind P w))) ∧ (xs.map (·.1)).Nodup
  | .set S n => h.SetOf (intKind P w) a S n
  | .ins C dx fs => H dx = some (.own a) ∧ fs.length ≤ 1000 ∧ dx ≠ a ∧ h.get? a = some (PySem.W.instObj C dx) ∧
      ∃ mA, h.Ns1 dx mA ∧ (∀ f, RelO (fs.lookup f) (mA f)) ∧ PySem.Within mA (fs.map (·.1))
  | .own _ => ∃ o, h.get? a = some o
  | .xd fs => ∃ mA, h.Ns1 a mA ∧ ∀ f, RelO (fs.lookup f) (mA f)
  | .rng lo hi => ∃ t u v, h.get? a = some { cls := .type "range", data := .fields #[.int lo t, .int hi u, .int 1 v] }
  | .frz o u => h.get? a = some o ∧ ObjOk H h a u
  | .tbl ps => h.get? a = some { cls := .none, data := .fields ps }
  | .met f x => h.get? a = some (PySem.W.methodObj (.ref f) (.ref x))
  | .ext φ => φ h ∧ (∃ o, h.get? a = some o) ∧ ∀ h1 h2 : Heap, φ h1 → (∀ o, h1.get? a = some o → h2.get? a = some o) → φ h2
def HOk (H : Hp) (h : Heap) : Prop := ∀ a o, H a = some o → ObjOk P w H h a o
end
section
variable {P : Program} {w : World} {H H' : Hp} {h h' : Heap} {a : Addr} {o : HO}
theorem ObjOk.lt (x : ObjOk P w H h a o) : a < h.objs.size := by
  cases o with
  | lst xs => obtain ⟨_, _, _, _, e⟩ := x; exact Heap.lt_size e
  | tup xs => obtain ⟨_, _, _, p⟩ := x; exact p.lt
  | dK kvs => obtain ⟨_, _, _, _, o, _, _, e, _⟩ := x; exact Heap.lt_size e
  | dT kvs => obtain ⟨_, _, _, _, o, _, _, e, _⟩ := x; exact Heap.lt_size e
  | set S n => obtain ⟨o, _, _, _, e, _⟩ := x; exact Heap.lt_size e
  | ins C dx fs => obtain ⟨_, _, _, e, _⟩ := x; exact Heap.lt_size e
  | own y => obtain ⟨_, e⟩ := x; exact Heap.lt_size e
  | xd fs => obtain ⟨_, ⟨_, _, _, e, _⟩, _⟩ := x; exact Heap.lt_size e
  | rng lo hi => obtain ⟨_, _, _, e⟩ := x; exact Heap.lt_size e
  | frz ob u => obtain ⟨e, _⟩ := x; exact Heap.lt_size e
  | tbl ps => exact Heap.lt_size (show h.get? a = some _ from x)
  | met f y => exact Heap.lt_size (show h.get? a = some _ from x)
  | ext φ => obtain ⟨_, ⟨_, e⟩, _⟩ := x; exact Heap.lt_size e
theorem Paired.mapP {α β : Type} {F G : α → β → Prop} : ∀ {l₁ : List α} {l₂ : List β}, Paired F l₁ l₂ → (∀ a b, F a b → G a b) → Paired G l₁ l₂
  | _, _, .nil, _ => .nil
  | _, _, .cons r t, f => .cons (f _ _ r) (Paired.mapP t f)
theorem ObjOk.stay (x : ObjOk P w H h a o) (k : ∀ b u, (b = a ∨ H b = some (.own a)) → h.get? b = some u → h'.get? b = some u)
    (ho : ∀ b, H b = some (.own a) → H' b = some (.own a)) (ht : ∀ b xs, H b = some (.tup xs) → H' b = some (.tup xs)) : ObjOk P w H' h' a o := by
  induction o with
  | lst xs => obtain ⟨z, its, n, r, e⟩ := x; exact ⟨z, its, n, r, k _ _ (.inl rfl) e⟩
  | tup xs => obtain ⟨z, its, r, ob, e, c⟩ := x; exact ⟨z, its, r, ob, k _ _ (.inl rfl) e, c⟩
  | dK kvs => obtain ⟨z, y, vs, r, ob, es, ep, e, c⟩ := x; exact ⟨z, y, vs, r, ob, es, ep, k _ _ (.inl rfl) e, c⟩
  | dT kvs =>
    obtain ⟨z, y, xs, r, ob, es, ep, e, c⟩ := x
    exact ⟨z, y, xs, Paired.mapP r fun p q z => ⟨z.1, ht _ _ z.2.1, z.2.2⟩, ob, es, ep, k _ _ (.inl rfl) e, c⟩
  | set S n => obtain ⟨ob, es, ep, t, e, c⟩ := x; exact ⟨ob, es, ep, t, k _ _ (.inl rfl) e, c⟩
  | ins C dx fs =>
    obtain ⟨d, z, ne, e, mA, ⟨od, es, ep, e2, c⟩, r⟩ := x
    exact ⟨ho _ d, z, ne, k _ _ (.inl rfl) e, mA, ⟨od, es, ep, k _ _ (.inr d) e2, c⟩, r⟩
  | own y => obtain ⟨ob, e⟩ := x; exact ⟨ob, k _ _ (.inl rfl) e⟩
  | xd fs => obtain ⟨mA, ⟨od, es, ep, e, c⟩, r⟩ := x; exact ⟨mA, ⟨od, es, ep, k _ _ (.inl rfl) e, c⟩, r⟩
  | rng lo hi => obtain ⟨t, u, v, e⟩ := x; exact ⟨t, u, v, k _ _ (.inl rfl) e⟩
  | frz ob u ih => obtain ⟨e, q⟩ := x; exact ⟨k _ _ (.inl rfl) e, ih q⟩
  | tbl ps =>
    have e : h.get? a = some { cls := .none, data := .fields ps } := x
    show h'.get? a = some { cls := .none, data := .fields ps }
    exact k a _ (.inl rfl) e
  | met f y =>
    have e : h.get? a = some (PySem.W.methodObj (.ref f) (.ref y)) := x
    show h'.get? a = some (PySem.W.methodObj (.ref f) (.ref y))
    exact k a _ (.inl rfl) e
  | ext φ => obtain ⟨p, ⟨o, e⟩, st⟩ := x; exact ⟨st _ _ p fun o q => k _ _ (.inl rfl) q, ⟨o, k _ _ (.inl rfl) e⟩, st⟩
theorem HOk.lt (x : HOk P w H h) (e : H a = some o) : a < h.objs.size := (x a o e).lt
theorem HOk.fresh (x : HOk P w H h) (e : h.objs.size ≤ a) : H a = none := by
  cases q : H a with
  | none => rfl
  | some u => exact absurd (Nat.lt_of_lt_of_le (x.lt q) e) (Nat.lt_irrefl _)
theorem HOk.kept (x : HOk P w H h) (k : ∀ b u, h.get? b = some u → h'.get? b = some u) : HOk P w H h' := fun a o e =>
  (x a o e).stay (fun b u _ q => k b u q) (fun _ q => q) fun _ _ q => q
theorem HOk.laid (x : HOk P w H h) (k : ∀ b u, h.get? b = some u → h'.get? b = some u) (hp : h.objs.size ≤ a) (new : ObjOk P w (upd H a o) h' a o) : HOk P w (upd H a o) h' := fun b u e => by
  have hn := x.fresh hp
  by_cases hb : b = a
  · subst hb; rw [upd_same] at e; cases e; exact new
  · rw [upd_ne hb] at e
    exact (x b u e).stay (fun c v _ q => k c v q) (fun c q => by rw [upd_ne (ne_of_none q hn)]; exact q) fun c xs q => by rw [upd_ne (ne_of_none q hn)]; exact q
end
def Rd (H : Hp) (a : Addr) (u : HO) : Prop := H a = some u ∨ ∃ o, H a = some (.frz o u)
theorem Rd.ok {P : Program} {w : World} {H : Hp} {h : Heap} {a : Addr} {u : HO} (r : Rd H a u) (x : HOk P w H h) : ObjOk P w H h a u := by
  rcases r with r | ⟨o, r⟩
  · exact x a u r
  · obtain ⟨_, q⟩ := x a _ r
    exact q
def Mut : Option HO → Prop
  | some (.lst _) => True
  | some (.dK _) => True
  | some (.dT _) => True
  | some (.set _ _) => True
  | some (.ins _ _ _) => True
  | some (.ext _) => True
  | _ => False
section
variable {P : Program} {w : World} {H : Hp} {h h' : Heap} {x e : Addr} {o' : HO}
theorem HOk.write (ok : HOk P w H h) (mu : Mut (H x)) (he : e = x ∨ H e = some (.own x)) (k : ∀ b u, b ≠ e → h.get? b = some u → h'.get? b = some u) (heo : ∃ u, h'.get? e = some u)
    (new : ObjOk P w (upd H x o') h' x o') : HOk P w (upd H x o') h' := fun b u q => by
  have nown : ∀ c y, H c = some (.own y) → c ≠ x := fun c y r z => by subst z; rw [r] at mu; exact mu
  have ntup : ∀ c xs, H c = some (.tup xs) → c ≠ x := fun c xs r z => by subst z; rw [r] at mu; exact mu
  by_cases hb : b = x
  · subst hb; rw [upd_same] at q; cases q; exact new
  · rw [upd_ne hb] at q
    by_cases hbe : b = e
    · have q' : H b = some (.own x) := by
        rcases he with z | z
        · exact absurd (hbe.trans z) hb
        · rw [hbe]; exact z
      rw [q] at q'; cases q'
      obtain ⟨v, hv⟩ := heo
      exact ⟨v, by rw [hbe]; exact hv⟩
    · refine (ok b u q).stay (fun c v hc r => k c v ?_ r) (fun c r => by rw [upd_ne (nown c b r)]; exact r) fun c xs r => by rw [upd_ne (ntup c xs r)]; exact r
      rcases hc with rfl | hc
      · exact hbe
      · rintro rfl
        rcases he with z | z
        · exact nown c b hc z
        · rw [hc] at z; cases z; exact hb rfl
end
structure Un (fs ex : List Addr) (H H' : Hp) (h h' : Heap) : Prop where
  keep : ∀ b o, h.get? b = some o → H b = none → b ∉ fs → b ∉ ex → h'.get? b = some o
  slot : ∀ b o, h.get? b = some o → H b = none → b ∈ fs → b ∉ ex → ∃ sl, h'.get? b = some { o with slots := sl }
  free : ∀ b o, h.get? b = some o → H b = none → b ∉ ex → H' b = none
  there : ∀ b o, h.get? b = some o → b ∉ ex → ∃ o', h'.get? b = some o'
  tups : ∀ b xs, H b = some (.tup xs) → H' b = some (.tup xs)
  frzs : ∀ b o u, H b = some (.frz o u) → H' b = some (.frz o u)
  tbls : ∀ b ps, H b = some (.tbl ps) → ∃ more, H' b = some (.tbl (ps ++ more))
section
variable {fs fs' ex ex' : List Addr} {H H1 H2 : Hp} {h h1 h2 h' : Heap} {a x e : Addr} {o : HO}
theorem Un.any (u : Un fs ex H H1 h h1) {b : Addr} {ob : Obj} (q : h.get? b = some ob) (n : H b = none) (hx : b ∉ ex) : ∃ sl, h1.get? b = some { ob with slots := sl } := by
  by_cases hb : b ∈ fs
  · exact u.slot b ob q n hb hx
  · exact ⟨ob.slots, u.keep b ob q n hb hx⟩
theorem Un.kept (k : ∀ b u, h.get? b = some u → h'.get? b = some u) : Un fs ex H H h h' :=
  ⟨fun b ob q _ _ _ => k b ob q, fun b ob q _ _ _ => ⟨ob.slots, k b ob q⟩, fun _ _ _ n _ => n, fun b ob q _ => ⟨ob, k b ob q⟩, fun _ _ q => q, fun _ _ _ q => q, fun _ ps q => ⟨#[], by rw [q]; simp⟩⟩
theorem Un.refl : Un fs ex H H h h := Un.kept fun _ _ q => q
theorem Un.laid (k : ∀ b u, h.get? b = some u → h'.get? b = some u) (hp : h.objs.size ≤ a) (hn : H a = none) : Un fs ex H (upd H a o) h h' where
  keep := fun b u q _ _ _ => k b u q
  slot := fun b u q _ _ _ => ⟨u.slots, k b u q⟩
  free := fun b u q n _ => by rw [upd_ne (Nat.ne_of_lt (Nat.lt_of_lt_of_le (Heap.lt_size q) hp))]; exact n
  there := fun b u q _ => ⟨u, k b u q⟩
  tups := fun b xs q => by rw [upd_ne (ne_of_none q hn)]; exact q
  frzs := fun b u xs q => by rw [upd_ne (ne_of_none q hn)]; exact q
  tbls := fun b ps q => ⟨#[], by rw [upd_ne (ne_of_none q hn), q]; simp⟩
theorem Un.write (mu : Mut (H x)) (he : e = x ∨ H e = some (.own x)) (k : ∀ b u, b ≠ e → h.get? b = some u → h'.get? b = some u) (heo : ∃ u, h'.get? e = some u) : Un fs ex H (upd H x o) h h' := by
  have hx : ∀ b, H b = none → b ≠ x := fun b n z => by subst z; rw [n] at mu; exact mu
  have hb : ∀ b, H b = none → b ≠ e := fun b n z => by
    subst z
    rcases he with r | r
    · exact hx b n r
    · rw [n] at r; cases r
  have hm : ∀ b u, H b = some u → ¬ Mut (some u) → b ≠ x := fun b u q nm z => by subst z; rw [q] at mu; exact nm mu
  refine ⟨fun b u q n _ _ => k b u (hb b n) q, fun b u q n _ _ => ⟨u.slots, k b u (hb b n) q⟩, fun b u q n _ => by rw [upd_ne (hx b n)]; exact n, fun b u q _ => ?_,
    fun b xs q => by rw [upd_ne (hm b _ q fun z => z)]; exact q, fun b u xs q => by rw [upd_ne (hm b _ q fun z => z)]; exact q, fun b ps q => ⟨#[], by rw [upd_ne (hm b _ q fun z => z), q]; simp⟩⟩
  by_cases hbe : b = e
  · subst hbe; exact heo
  · exact ⟨u, k b u hbe q⟩
end
def trk (h : Heap) (H : Hp) : List Addr := (List.range h.objs.size).filter fun a => (H a).isSome
def hidT (h : Heap) (H : Hp) : Heap := PySem.W.hideAll h (trk h H)
theorem hidT_size (h : Heap) (H : Hp) : (hidT h H).objs.size = h.objs.size := PySem.W.hideAll_size _ _
theorem hidT_get {h : Heap} {H : Hp} {b : Addr} {o : Obj} (e : h.get? b = some o) (n : H b = none) : (hidT h H).get? b = some o :=
  PySem.W.hideAll_get _ e fun hm => by
    have q : (H b).isSome = true := (List.mem_filter.mp hm).2
    rw [n] at q; simp at q
theorem of_hidT {h : Heap} {H : Hp} {b : Addr} {o : Obj} (e : (hidT h H).get? b = some o) : h.get? b = some o ∧ H b = none := by
  have e' : h.get? b = some o := PySem.W.of_hideAll (trk h H) e
  refine ⟨e', ?_⟩
  cases q : H b with
  | none => rfl
  | some x =>
    have hm : b ∈ trk h H := List.mem_filter.mpr ⟨List.mem_range.mpr (Heap.lt_size e'), by simp [q]⟩
    have z : (hidT h H).get? b = none := PySem.W.hideAll_none (trk h H) hm
    rw [z] at e; cases e
def allNews (g h : Heap) (L : Addr) : List (Addr × Obj) := (List.range h.objs.size).filterMap fun a => if a = L ∨ (g.get? a).isSome = true then none else (h.get? a).map fun o => (a, o)
def rest (g h : Heap) (L d : Addr) : List (Addr × Obj) := (allNews g h L).filter fun p => decide (p.1 ≠ d)
end L2
namespace L2
open PySem PySem.Spec PyProof.Rows
structure Mod (K : PySem.W.Frag) (mg : Str → Option Value) (base : Heap) : Prop where
  kin : K.In base
  glob : base.Ns mainGlobals mg
  blt : ∃ mb, base.Ns builtinsNs mb ∧ ∀ x : Str, x ≠ "__name__" → mb x = bootBuiltins x
  nolimit : base.NoLimit
structure Cx where
  prog : Program
  w : World
  K : PySem.W.Frag
  mg : Str → Option Value
  base : Heap
  A : Around
  N : List Str
  s₀ : Shared
  H₀ : Hp
  env : Env
  outer : List Env
  stack : List Env
  ex : List Addr
  fn : Str → Bool
  calm : Bool
  pn : List (Addr × Obj)
  xe : Value → Shared → Prop
def frs (l : List Env) : List Addr := l.filterMap (·.frame)
abbrev Cx.fs (X : Cx) : List Addr := frs X.outer
def Vis (sc : Scope) (x : Str) : Prop := sc.names.lookup x = some .local ∨ sc.names.lookup x = some .cell ∨ sc.names.lookup x = some .free
def Loc (sc : Scope) (x : Str) : Prop := sc.names.lookup x = some .local ∨ sc.names.lookup x = some .cell
def Look (env : Env) (h : Heap) (m : Str → Option Value) (x : Str) (u : Value) : Prop :=
  (env.kindOf x = some .local ∧ m x = some u) ∨ ((env.kindOf x = some .cell ∨ env.kindOf x = some .free) ∧ ∃ c, env.cells.lookup x = some c ∧ h.IsCell c (some u))
structure Cx.Ok (X : Cx) : Prop where
  mod : Mod X.K X.mg X.base
  kind : X.env.scope.kind = .function
  glob : X.env.globals = mainGlobals
  blt : X.env.builtins = builtinsNs
  above : X.s₀.heap.objs.size ≤ X.env.locals
  inj : ∀ x y c, X.env.cells.lookup x = some c → X.env.cells.lookup y = some c → x = y
  has : ∀ x, (X.env.kindOf x = some .cell ∨ X.env.kindOf x = some .free) → ∃ c, X.env.cells.lookup x = some c
  cab : ∀ x c, X.fn x = true → X.env.cells.lookup x = some c → X.s₀.heap.objs.size ≤ c
  hd : X.calm = true → X.A.handled = none
  frames : X.A.frames = some X.stack
  stk : X.stack = X.outer ∨ (X.stack = X.env :: X.outer ∧ X.env.frame = some X.env.locals)
  exf : ∀ b ∈ X.ex, b ≠ X.env.locals ∧ ∀ x c, X.env.cells.lookup x = some c → c ≠ b
  bs : ∀ b o, X.base.get? b = some o → X.s₀.heap.get? b = some o ∧ X.H₀ b = none
  bsz : X.base.objs.size ≤ X.s₀.heap.objs.size
  noex : ∀ b o, X.base.get? b = some o → b ∉ X.ex
  exfs : ∀ b ∈ X.ex, b ∉ X.fs
  funs : X.s₀.heap.FunFrames X.base X.outer
  frf : ∀ b ∈ X.fs, X.H₀ b = none
structure Inv (X : Cx) (pins : List (Addr × Obj)) (σ : List (Option V)) (H : Hp) (s : Shared) : Prop where
  ok : X.Ok
  os : s.os = X.s₀.os
  bare : AllBare s.gens
  base : Un X.fs X.ex X.H₀ H X.s₀.heap s.heap
  loc : ∃ m, s.heap.Ns X.env.locals m ∧ ∀ (i : Nat) (x : Str) (v : V), X.N[i]? = some x → σ[i]? = some (some v) → Vis X.env.scope x → ∃ u, RelV v u ∧ Look X.env s.heap m x u
  cell : ∀ x c, X.env.cells.lookup x = some c → ∃ v, s.heap.IsCell c v
  free : H X.env.locals = none
  freeC : ∀ x c, X.env.cells.lookup x = some c → H c = none
  pin : ∀ p ∈ X.pn ++ pins, s.heap.get? p.1 = some p.2 ∧ H p.1 = none ∧ p.1 ≠ X.env.locals ∧ p.1 ∉ X.fs ∧ ∀ v, p.2.data ≠ .cell v
  hok : HOk X.prog X.w H s.heap
  len : σ.length = X.N.length
section
variable {X : Cx} {pins : List (Addr × Obj)} {σ : List (Option V)} {H H' : Hp} {s : Shared} {h' : Heap}
theorem Cx.Ok.nofr (ok : X.Ok) {b : Addr} {o : Obj} (e : X.base.get? b = some o) : b ∉ X.fs := fun hb => by
  have := (ok.funs.mem hb).1
  rw [e] at this; cases this
theorem Inv.bs (I : Inv X pins σ H s) : ∀ b o, X.base.get? b = some o → s.heap.get? b = some o ∧ H b = none := fun b o e =>
  ⟨I.base.keep b o (I.ok.bs b o e).1 (I.ok.bs b o e).2 (I.ok.nofr e) (I.ok.noex b o e), I.base.free b o (I.ok.bs b o e).1 (I.ok.bs b o e).2 (I.ok.noex b o e)⟩
theorem Inv.bk (I : Inv X pins σ H s) : ∀ b o, X.base.get? b = some o → s.heap.get? b = some o := fun b o e => (I.bs b o e).1
theorem Inv.mod (I : Inv X pins σ H s) : Mod X.K X.mg X.base := I.ok.mod
theorem Inv.kIn (I : Inv X pins σ H s) : X.K.In s.heap := I.ok.mod.kin.keeps I.bk
theorem Inv.lt (I : Inv X pins σ H s) : X.env.locals < s.heap.objs.size := let ⟨_, hn, _⟩ := I.loc; hn.lt
theorem Inv.sz (I : Inv X pins σ H s) : X.s₀.heap.objs.size ≤ s.heap.objs.size := Nat.le_trans I.ok.above (Nat.le_of_lt I.lt)
theorem Inv.nofs (I : Inv X pins σ H s) {a : Addr} (h : s.heap.objs.size ≤ a) : a ∉ X.fs := fun hb => by
  obtain ⟨_, o, ho, _⟩ := I.ok.funs.mem hb
  exact absurd (Nat.lt_of_lt_of_le (Heap.lt_size ho) (Nat.le_trans I.sz h)) (Nat.lt_irrefl _)
theorem Inv.cne (I : Inv X pins σ H s) : ∀ x c, X.env.cells.lookup x = some c → c ≠ X.env.locals := fun x c e z => by
  obtain ⟨v, o, ho, hd⟩ := I.cell x c e
  obtain ⟨m, ⟨o', es, ep, ho', hd', _⟩, _⟩ := I.loc
  rw [z, ho'] at ho; cases ho; rw [hd'] at hd; cases hd
theorem Inv.funs (I : Inv X pins σ H s) : s.heap.FunFrames X.base X.outer := by
  have all : ∀ (l : List Env), (∀ b ∈ frs l, b ∈ X.fs) → X.s₀.heap.FunFrames X.base l → s.heap.FunFrames X.base l := by
    intro l
    induction l with
    | nil => intro _ _; trivial
    | cons env r ih =>
      intro hs hl
      obtain ⟨hk, ⟨L, o, hf, hn, ho, hd⟩, hr⟩ := hl
      have hL : L ∈ X.fs := hs L (by unfold frs; rw [List.filterMap_cons, hf]; exact List.mem_cons_self)
      obtain ⟨sl, e⟩ := I.base.slot L o ho (I.ok.frf L hL) hL fun z => I.ok.exfs L z hL
      exact ⟨hk, ⟨L, _, hf, hn, e, hd⟩, ih (fun b hb => hs b (by unfold frs; rw [List.filterMap_cons, hf]; exact List.mem_cons_of_mem _ hb)) hr⟩
  exact all X.outer (fun _ hb => hb) I.ok.funs
theorem Inv.stack (I : Inv X pins σ H s) : s.heap.FunFrames X.base X.stack := by
  rcases I.ok.stk with e | ⟨e, hf⟩
  · rw [e]; exact I.funs
  · rw [e]
    obtain ⟨m, hn, _⟩ := I.loc
    refine .cons (by rw [I.ok.kind]; decide) hf hn ?_ I.funs
    exact Heap.get?_none_of_le (Nat.le_trans I.ok.bsz I.ok.above)
theorem Inv.stkSub (I : Inv X pins σ H s) : ∀ b ∈ frs X.stack, b ∈ X.env.locals :: X.fs := fun b hb => by
  rcases I.ok.stk with e | ⟨e, hf⟩
  · rw [e] at hb; exact List.mem_cons_of_mem _ hb
  · rw [e] at hb
    unfold frs at hb
    rw [List.filterMap_cons, hf] at hb
    exact hb
theorem Inv.stkFree (I : Inv X pins σ H s) : ∀ b ∈ frs X.stack, H b = none := fun b hb => by
  rcases List.mem_cons.mp (I.stkSub b hb) with e | hb
  · rw [e]; exact I.free
  · obtain ⟨_, o, ho, _⟩ := I.ok.funs.mem hb
    exact I.base.free b o ho (I.ok.frf b hb) fun z => I.ok.exfs b z hb
theorem Inv.step {g' : Array GenState} {t' : Nat} {d' : Drawn} {ch : List Addr} (I : Inv X pins σ H s)
    (hch : ∀ b ∈ ch, (b ∈ X.ex ∨ X.s₀.heap.objs.size ≤ b) ∧ b ≠ X.env.locals ∧ (∀ x c, X.env.cells.lookup x = some c → c ≠ b) ∧ ∀ p ∈ X.pn ++ pins, p.1 ≠ b)
    (keep : ∀ b o, b ≠ X.env.locals → b ∉ X.fs → b ∉ ch → s.heap.get? b = some o → H b = none → h'.get? b = some o)
    (slot : ∀ b o, b ≠ X.env.locals → b ∈ X.fs → b ∉ ch → s.heap.get? b = some o → H b = none → ∃ sl, h'.get? b = some { o with slots := sl }) (free : ∀ b o, b ∉ ch → s.heap.get? b = some o → H b = none → H' b = none)
    (there : ∀ b o, b ∉ ch → s.heap.get? b = some o → ∃ o', h'.get? b = some o')
    (tups : ∀ b xs, H b = some (.tup xs) → H' b = some (.tup xs)) (frzs : ∀ b o u, H b = some (.frz o u) → H' b = some (.frz o u)) (tbls : ∀ b ps, H b = some (.tbl ps) → ∃ more, H' b = some (.tbl (ps ++ more)))
    (ns : ∀ m, s.heap.Ns X.env.locals m → h'.Ns X.env.locals m) (hok : HOk X.prog X.w H' h') (hg : AllBare g') :
    Inv X pins σ H' { s with heap := h', gens := g', drawn := d', toks := t' } := by
  have neL : ∀ b o, X.s₀.heap.get? b = some o → b ≠ X.env.locals := fun b o e => Nat.ne_of_lt (Nat.lt_of_lt_of_le (Heap.lt_size e) I.ok.above)
  have neC : ∀ b o, X.s₀.heap.get? b = some o → b ∉ X.ex → b ∉ ch := fun b o e hx hb => by
    rcases (hch b hb).1 with z | z
    · exact hx z
    · exact absurd (Nat.lt_of_lt_of_le (Heap.lt_size e) z) (Nat.lt_irrefl _)
  have cellK : ∀ x c, X.env.cells.lookup x = some c → ∀ v, s.heap.IsCell c v → h'.IsCell c v := fun x c e v ⟨o, ho, hd⟩ => by
    have nch : c ∉ ch := fun z => (hch c z).2.2.1 x c e rfl
    by_cases hc : c ∈ X.fs
    · obtain ⟨sl, q⟩ := slot c o (I.cne x c e) hc nch ho (I.freeC x c e)
      exact ⟨_, q, hd⟩
    · exact ⟨o, keep c o (I.cne x c e) hc nch ho (I.freeC x c e), hd⟩
  refine ⟨I.ok, I.os, hg, ⟨fun b o e n hb hx => ?_, fun b o e n hb hx => ?_, fun b o e n hx => ?_, fun b o e hx => ?_, fun b xs e => tups b xs (I.base.tups b xs e), fun b o xs e => frzs b o xs (I.base.frzs b o xs e), fun b ps e => ?_⟩, ?_, fun x c e => ?_, ?_, fun x c e => ?_, fun p hp => ?_, hok, I.len⟩
  · exact keep b o (neL b o e) hb (neC b o e hx) (I.base.keep b o e n hb hx) (I.base.free b o e n hx)
  · obtain ⟨sl, e1⟩ := I.base.slot b o e n hb hx
    obtain ⟨sl', e2⟩ := slot b _ (neL b o e) hb (neC b o e hx) e1 (I.base.free b o e n hx)
    exact ⟨sl', e2⟩
  · obtain ⟨o', e1⟩ := I.base.there b o e hx
    exact free b o' (neC b o e hx) e1 (I.base.free b o e n hx)
  · obtain ⟨o', e1⟩ := I.base.there b o e hx
    exact there b o' (neC b o e hx) e1
  · obtain ⟨m1, e1⟩ := I.base.tbls b ps e
    obtain ⟨m2, e2⟩ := tbls b _ e1
    exact ⟨m1 ++ m2, by rw [e2, Array.append_assoc]⟩
  · obtain ⟨m, hn, hl⟩ := I.loc
    refine ⟨m, ns m hn, fun i x v e1 e2 e3 => ?_⟩
    obtain ⟨u, r, l⟩ := hl i x v e1 e2 e3
    refine ⟨u, r, ?_⟩
    rcases l with l | ⟨k, c, e, z⟩
    · exact .inl l
    · exact .inr ⟨k, c, e, cellK x c e _ z⟩
  · obtain ⟨v, z⟩ := I.cell x c e
    exact ⟨v, cellK x c e v z⟩
  · obtain ⟨m, ⟨o, _, _, ho, _⟩, _⟩ := I.loc
    exact free _ o (fun z => (hch _ z).2.1 rfl) ho I.free
  · obtain ⟨v, o, ho, hd⟩ := I.cell x c e
    exact free c o (fun z => (hch c z).2.2.1 x c e rfl) ho (I.freeC x c e)
  · obtain ⟨e, n, ne, nf, d⟩ := I.pin p hp
    have nch : p.1 ∉ ch := fun z => (hch p.1 z).2.2.2 p hp rfl
    exact ⟨keep p.1 p.2 ne nf nch e n, free p.1 p.2 nch e n, ne, nf, d⟩
theorem Inv.un {t' : Nat} (I : Inv X pins σ H s) (u : Un X.fs [] H H' s.heap h') (hok : HOk X.prog X.w H' h') : Inv X pins σ H' { s with heap := h', toks := t' } := by
  obtain ⟨m, ⟨o, es, ep, ho, r⟩, _⟩ := id I.loc
  obtain ⟨sl, hL⟩ := u.any ho I.free (by simp)
  exact I.step (g' := s.gens) (d' := s.drawn) (ch := []) (fun _ z => nomatch z) (fun b o _ hb _ e n => u.keep b o e n hb (by simp)) (fun b o _ hb _ e n => u.slot b o e n hb (by simp)) (fun b o _ e n => u.free b o e n (by simp)) (fun b o _ e => u.there b o e (by simp)) u.tups u.frzs u.tbls (fun m' hm => by
    obtain ⟨o', es', ep', ho', r'⟩ := hm
    rw [ho] at ho'; cases ho'
    exact ⟨_, es', ep', hL, r'⟩) hok I.bare
theorem Inv.call {g' : Array GenState} {t' : Nat} {d' : Drawn} {ch : List Addr} (I : Inv X pins σ H s) (u : Un (frs X.stack) ch H H' s.heap h') (hok : HOk X.prog X.w H' h') (hg : AllBare g')
    (hch : ∀ b ∈ ch, (b ∈ X.ex ∨ X.s₀.heap.objs.size ≤ b) ∧ b ≠ X.env.locals ∧ (∀ x c, X.env.cells.lookup x = some c → c ≠ b) ∧ ∀ p ∈ X.pn ++ pins, p.1 ≠ b) :
    Inv X pins σ H' { s with heap := h', gens := g', drawn := d', toks := t' } := by
  obtain ⟨m, ⟨o, es, ep, ho, r⟩, _⟩ := id I.loc
  obtain ⟨sl, hL⟩ := u.any ho I.free fun z => (hch _ z).2.1 rfl
  exact I.step (ch := ch) hch (fun b o hL hb hc e n => u.keep b o e n (fun z => (List.mem_cons.mp (I.stkSub b z)).elim hL hb) hc) (fun b o _ _ hc e n => u.any e n hc) (fun b o hc e n => u.free b o e n hc) (fun b o hc e => u.there b o e hc) u.tups u.frzs u.tbls (fun m' hm => by
    obtain ⟨o', es', ep', ho', r'⟩ := hm
    rw [ho] at ho'; cases ho'
    exact ⟨_, es', ep', hL, r'⟩) hok hg
theorem Inv.turned {t' : Nat} {it : Addr} (I : Inv X pins σ H s) (k : ∀ b o, b ≠ it → s.heap.get? b = some o → h'.get? b = some o) (hn : H it = none) (hL : it ≠ X.env.locals)
    (h1 : it ∈ X.ex ∨ X.s₀.heap.objs.size ≤ it) (h2 : ∀ x c, X.env.cells.lookup x = some c → c ≠ it) (h3 : ∀ p ∈ X.pn ++ pins, p.1 ≠ it) : Inv X pins σ H { s with heap := h', toks := t' } := by
  have nit : ∀ b u, H b = some u → b ≠ it := fun b u e z => by rw [z, hn] at e; cases e
  refine I.step (g' := s.gens) (d' := s.drawn) (ch := [it]) (fun b hb => ?_) (fun b o _ _ hc e _ => k b o (fun z => hc (by simp [z])) e) (fun b o _ _ hc e _ => ⟨o.slots, k b o (fun z => hc (by simp [z])) e⟩) (fun _ _ _ _ n => n)
    (fun b o hc e => ⟨o, k b o (fun z => hc (by simp [z])) e⟩) (fun _ _ e => e) (fun _ _ _ e => e) (fun b ps e => ⟨#[], by rw [e]; simp⟩) (fun m hm => ?_) (fun b u e => ?_) I.bare
  · have e : b = it := by simpa using hb
    subst e
    exact ⟨h1, hL, h2, h3⟩
  · obtain ⟨o, es, ep, ho, r⟩ := hm
    exact ⟨o, es, ep, k _ o (Ne.symm hL) ho, r⟩
  · refine (I.hok b u e).stay (fun c v hc q => k c v ?_ q) (fun _ q => q) fun _ _ q => q
    rcases hc with z | z
    · rw [z]; exact nit b u e
    · exact nit c _ z
theorem Inv.tok (I : Inv X pins σ H s) (t : Nat) : Inv X pins σ H { s with toks := t } := I.un (h' := s.heap) (t' := t) Un.refl I.hok
theorem Inv.kept {t' : Nat} (I : Inv X pins σ H s) (k : ∀ b u, s.heap.get? b = some u → h'.get? b = some u) : Inv X pins σ H { s with heap := h', toks := t' } := I.un (Un.kept k) (I.hok.kept k)
theorem Inv.laid {a : Addr} {o : HO} {t' : Nat} (I : Inv X pins σ H s) (k : ∀ b u, s.heap.get? b = some u → h'.get? b = some u) (hp : s.heap.objs.size ≤ a) (new : ObjOk X.prog X.w (upd H a o) h' a o) :
    Inv X pins σ (upd H a o) { s with heap := h', toks := t' } := I.un (Un.laid k hp (I.hok.fresh hp)) (I.hok.laid k hp new)
theorem Inv.write {x e : Addr} {o : HO} {t' : Nat} (I : Inv X pins σ H s) (mu : Mut (H x)) (he : e = x ∨ H e = some (.own x)) (k : ∀ b u, b ≠ e → s.heap.get? b = some u → h'.get? b = some u) (heo : ∃ u, h'.get? e = some u)
    (new : ObjOk X.prog X.w (upd H x o) h' x o) : Inv X pins σ (upd H x o) { s with heap := h', toks := t' } := I.un (Un.write mu he k heo) (I.hok.write mu he k heo new)
theorem Inv.pins_of {pins' : List (Addr × Obj)} (I : Inv X pins σ H s) (h : ∀ p ∈ pins', s.heap.get? p.1 = some p.2 ∧ H p.1 = none ∧ p.1 ≠ X.env.locals ∧ p.1 ∉ X.fs ∧ ∀ v, p.2.data ≠ .cell v) : Inv X pins' σ H s :=
  ⟨I.ok, I.os, I.bare, I.base, I.loc, I.cell, I.free, I.freeC, fun p hp => (List.mem_append.mp hp).elim (fun z => I.pin p (List.mem_append_left _ z)) (h p), I.hok, I.len⟩
theorem nodup_ix {N : List Str} (hN : N.Nodup) {i j : Nat} {x : Str} (a : N[i]? = some x) (b : N[j]? = some x) : i = j := by
  obtain ⟨h1, e1⟩ := List.getElem?_eq_some_iff.mp a
  obtain ⟨h2, e2⟩ := List.getElem?_eq_some_iff.mp b
  exact (List.getElem_inj hN).mp (e1.trans e2.symm)
theorem store_ok2 {M : Model} {A : Around} {E : Value → Shared → Prop} {i : Nat} {x : Str} {v : V} {u : Value} {Q : Unit → Shared → Prop} (I : Inv X pins σ H s) (hN : X.N.Nodup) (hi : X.N[i]? = some x) (hx : Loc X.env.scope x) (r : RelV v u)
    (h : ∀ s', Inv X pins (σ.set i (some v)) H s' → (∃ a, Heap.SameBut a s.heap s'.heap ∧ (a = X.env.locals ∨ X.env.cells.lookup x = some a)) → Q () s') (hf : X.fn x = true ∨ X.env.scope.names.lookup x = some .local := by first | exact .inl rfl | exact .inr rfl | assumption) : wpAny M A (storeName X.env x u) Q E s := by
  obtain ⟨m, hn, hl⟩ := id I.loc
  have hcls : (X.env.scope.kind == .class || (X.env.scope.kind == .module && X.env.locals != X.env.globals)) = false := by rw [I.ok.kind]; rfl
  have hiσ : i < σ.length := by rw [I.len]; exact (List.getElem?_eq_some_iff.mp hi).1
  have cne := I.cne
  have tracked : ∀ {a : Addr} {h' : Heap}, (∃ o, s.heap.get? a = some o ∧ H a = none) → Heap.SameBut a s.heap h' → HOk X.prog X.w H h' := fun {a h'} ha hs b ob e => by
    obtain ⟨_, _, hfree⟩ := ha
    refine (I.hok b ob e).stay (fun c w' hc q => (hs.2 c ?_).trans q) (fun _ q => q) fun _ _ q => q
    rintro rfl
    rcases hc with rfl | hc
    · rw [hfree] at e; cases e
    · rw [hfree] at hc; cases hc
  rcases hx with hk | hk
  · refine wpAny_storeName_local hk hn (fun h' hn' hs => ?_) hcls
    obtain ⟨oL, _, _, hoL, _⟩ := id hn
    refine h _ ⟨I.ok, I.os, I.bare, ⟨fun b o e n hb hx => ?_, fun b o e n hb hx => ?_, I.base.free, fun b o e hx => ?_, I.base.tups, I.base.frzs, I.base.tbls⟩, ⟨_, hn', fun j y v' e1 e2 e3 => ?_⟩, fun y c e => ?_, I.free, I.freeC, fun p hp => ?_, tracked ⟨oL, hoL, I.free⟩ hs, by simpa using I.len⟩ ⟨_, hs, .inl rfl⟩
    · exact (hs.2 b (Nat.ne_of_lt (Nat.lt_of_lt_of_le (Heap.lt_size e) I.ok.above))).trans (I.base.keep b o e n hb hx)
    · obtain ⟨sl, e1⟩ := I.base.slot b o e n hb hx
      exact ⟨sl, (hs.2 b (Nat.ne_of_lt (Nat.lt_of_lt_of_le (Heap.lt_size e) I.ok.above))).trans e1⟩
    · obtain ⟨o', e1⟩ := I.base.there b o e hx
      exact ⟨o', (hs.2 b (Nat.ne_of_lt (Nat.lt_of_lt_of_le (Heap.lt_size e) I.ok.above))).trans e1⟩
    · by_cases hj : j = i
      · subst hj
        rw [hi] at e1; cases e1
        rw [List.getElem?_set_self hiσ] at e2
        cases e2
        exact ⟨u, r, .inl ⟨hk, by simp⟩⟩
      · rw [List.getElem?_set_ne (Ne.symm hj)] at e2
        obtain ⟨u', r', q⟩ := hl j y v' e1 e2 e3
        refine ⟨u', r', ?_⟩
        rcases q with ⟨k, e⟩ | ⟨k, c, e, z⟩
        · refine .inl ⟨k, ?_⟩
          have : y ≠ x := fun e => hj (nodup_ix hN e1 (e ▸ hi))
          simp [this, e]
        · exact .inr ⟨k, c, e, z.sameBut hs (cne y c e)⟩
    · obtain ⟨w', z⟩ := I.cell y c e
      exact ⟨w', z.sameBut hs (cne y c e)⟩
    · obtain ⟨e, n, ne, nf, d⟩ := I.pin p hp
      exact ⟨(hs.2 p.1 ne).trans e, n, ne, nf, d⟩
  · have hfn : X.fn x = true := by
      rcases hf with z | z
      · exact z
      · rw [z] at hk; cases hk
    obtain ⟨c, hc⟩ := I.ok.has x (.inl hk)
    obtain ⟨w', z⟩ := I.cell x c hc
    refine wpAny_storeName_cell I.ok.kind hk hc z (fun h' hc' hs => ?_)
    obtain ⟨oc, hoc, hocd⟩ := id z
    refine h { s with heap := h' } ⟨I.ok, I.os, I.bare, ⟨fun b o e n hb hx => ?_, fun b o e n hb hx => ?_, I.base.free, fun b o e hx => ?_, I.base.tups, I.base.frzs, I.base.tbls⟩, ⟨m, hn.sameBut hs (Ne.symm (cne x c hc)), fun j y v' e1 e2 e3 => ?_⟩, fun y c' e => ?_, I.free, I.freeC, fun p hp => ?_, tracked ⟨oc, hoc, I.freeC x c hc⟩ hs, by simpa using I.len⟩ ⟨c, hs, .inr hc⟩
    · exact (hs.2 b (Nat.ne_of_lt (Nat.lt_of_lt_of_le (Heap.lt_size e) (I.ok.cab x c hfn hc)))).trans (I.base.keep b o e n hb hx)
    · obtain ⟨sl, e1⟩ := I.base.slot b o e n hb hx
      exact ⟨sl, (hs.2 b (Nat.ne_of_lt (Nat.lt_of_lt_of_le (Heap.lt_size e) (I.ok.cab x c hfn hc)))).trans e1⟩
    · obtain ⟨o', e1⟩ := I.base.there b o e hx
      exact ⟨o', (hs.2 b (Nat.ne_of_lt (Nat.lt_of_lt_of_le (Heap.lt_size e) (I.ok.cab x c hfn hc)))).trans e1⟩
    · by_cases hj : j = i
      · subst hj
        rw [hi] at e1; cases e1
        rw [List.getElem?_set_self hiσ] at e2
        cases e2
        exact ⟨u, r, .inr ⟨.inl hk, c, hc, hc'⟩⟩
      · rw [List.getElem?_set_ne (Ne.symm hj)] at e2
        obtain ⟨u', r', q⟩ := hl j y v' e1 e2 e3
        refine ⟨u', r', ?_⟩
        rcases q with q | ⟨k, c', e, z'⟩
        · exact .inl q
        · refine .inr ⟨k, c', e, z'.sameBut hs ?_⟩
          rintro rfl
          exact hj (nodup_ix hN e1 (I.ok.inj _ _ _ e hc ▸ hi))
    · by_cases hcc : c' = c
      · subst hcc; exact ⟨_, hc'⟩
      · obtain ⟨w2, z2⟩ := I.cell y c' e
        exact ⟨w2, z2.sameBut hs hcc⟩
    · obtain ⟨e, n, ne, nf, d⟩ := I.pin p hp
      refine ⟨(hs.2 p.1 ?_).trans e, n, ne, nf, d⟩
      intro q
      rw [q, hoc] at e
      have q' : oc = p.2 := Option.some.inj e
      exact d w' (by rw [← q']; exact hocd)
theorem store_ok {M : Model} {A : Around} {E : Value → Shared → Prop} {i : Nat} {x : Str} {v : V} {u : Value} {Q : Unit → Shared → Prop} (I : Inv X pins σ H s) (hN : X.N.Nodup) (hi : X.N[i]? = some x) (hx : Loc X.env.scope x) (r : RelV v u)
    (h : ∀ s', Inv X pins (σ.set i (some v)) H s' → Q () s') (hf : X.fn x = true ∨ X.env.scope.names.lookup x = some .local := by first | exact .inl rfl | exact .inr rfl | assumption) : wpAny M A (storeName X.env x u) Q E s :=
  store_ok2 I hN hi hx r (fun s' I' _ => h s' I') hf
theorem Inv.call' {s' : Shared} {ch : List Addr} (I : Inv X pins σ H s) (ho : s'.os = s.os) (u : Un (frs X.stack) ch H H' s.heap s'.heap) (hok : HOk X.prog X.w H' s'.heap) (hg : AllBare s'.gens)
    (hch : ∀ b ∈ ch, (b ∈ X.ex ∨ X.s₀.heap.objs.size ≤ b) ∧ b ≠ X.env.locals ∧ (∀ x c, X.env.cells.lookup x = some c → c ≠ b) ∧ ∀ p ∈ X.pn ++ pins, p.1 ≠ b) : Inv X pins σ H' s' := by
  obtain ⟨h', g', d', t', o'⟩ := s'
  have e : o' = s.os := ho
  subst e
  exact I.call (g' := g') (t' := t') (d' := d') u hok hg hch
end
abbrev XK := Value → Option Addr → Hp → Prop
abbrev St := List (Option V)
abbrev VK := V → Hp → Prop
abbrev TE := St → Hp → VK → Prop
abbrev TT := St → Hp → (Bool → Hp → Prop) → Prop
abbrev TA := St → Hp → (List V → Hp → Prop) → Prop
structure Ends where
  nx : St → Hp → Prop
  rt : VK
  bk : St → Hp → Prop := fun _ _ => False
  ct : St → Hp → Prop := fun _ _ => False
abbrev TS := Ends → St → Hp → Prop
def EP (X : Cx) (pins : List (Addr × Obj)) (σ : St) (Q : VK) (u : Value) (s' : Shared) : Prop := ∃ v H', Inv X pins σ H' s' ∧ RelV v u ∧ Q v H'
def TP (X : Cx) (pins : List (Addr × Obj)) (σ : St) (Q : Bool → Hp → Prop) (b : Bool) (s' : Shared) : Prop := ∃ H', Inv X pins σ H' s' ∧ Q b H'
def AP (X : Cx) (pins : List (Addr × Obj)) (σ : St) (Q : List V → Hp → Prop) (us : List Value) (s' : Shared) : Prop := ∃ vs H', Inv X pins σ H' s' ∧ Vals vs us ∧ Q vs H'
def SP (X : Cx) (pins : List (Addr × Obj)) (D : Ends) (f : Flow) (s' : Shared) : Prop :=
  match f with
  | .next => ∃ σ' H', Inv X pins σ' H' s' ∧ D.nx σ' H'
  | .brk => ∃ σ' H', Inv X pins σ' H' s' ∧ D.bk σ' H'
  | .cont => ∃ σ' H', Inv X pins σ' H' s' ∧ D.ct σ' H'
  | .ret u => ∃ v σ' H', Inv X pins σ' H' s' ∧ RelV v u ∧ D.rt v H'
def PE (X : Cx) (e : Expr) (t : TE) : Prop :=
  ∀ (pins : List (Addr × Obj)) (s : Shared) (σ : St) (H : Hp) (Q : VK), Inv X pins σ H s → t σ H Q → wpAny (model X.prog X.w) X.A (eval e X.env) (EP X pins σ Q) X.xe s
def PT (X : Cx) (e : Expr) (t : TT) : Prop :=
  ∀ (pins : List (Addr × Obj)) (s : Shared) (σ : St) (H : Hp) (Q : Bool → Hp → Prop), Inv X pins σ H s → t σ H Q → wpAny (model X.prog X.w) X.A (isTrue e X.env (eval e X.env)) (TP X pins σ Q) X.xe s
def PW (X : Cx) (e : Expr) (t : TT) : Prop :=
  ∀ (whole : Sem Value) (pins : List (Addr × Obj)) (s : Shared) (σ : St) (H : Hp) (Q : Bool → Hp → Prop), Inv X pins σ H s → t σ H Q → wpAny (model X.prog X.w) X.A (isTrue e X.env whole) (TP X pins σ Q) X.xe s
theorem PW.pt {X : Cx} {e : Expr} {t : TT} (h : PW X e t) : PT X e t := h _
def PA (X : Cx) (es : List Expr) (t : TA) : Prop :=
  ∀ (pos : Pos) (pins : List (Addr × Obj)) (s : Shared) (σ : St) (H : Hp) (Q : List V → Hp → Prop), Inv X pins σ H s → t σ H Q → wpAny (model X.prog X.w) X.A (spliced (backTo pos (starEach es X.env))) (AP X pins σ Q) X.xe s
def PS (X : Cx) (st : Stmt) (t : TS) : Prop :=
  ∀ (pins : List (Addr × Obj)) (s : Shared) (σ : St) (H : Hp) (D : Ends), Inv X pins σ H s → t D σ H → wpAny (model X.prog X.w) X.A (exec st X.env) (SP X pins D) X.xe s
def PSs (X : Cx) (st : List Stmt) (t : TS) : Prop :=
  ∀ (pins : List (Addr × Obj)) (s : Shared) (σ : St) (H : Hp) (D : Ends), Inv X pins σ H s → t D σ H → wpAny (model X.prog X.w) X.A (execs st X.env) (SP X pins D) X.xe s
theorem thn {α : Type} {t : Sem α} {Q Q' : α → Shared → Prop} {M : Model} {A : Around} {E : Value → Shared → Prop} {s : Shared} (h : wpAny M A t Q E s) (hQ : ∀ a s, Q a s → Q' a s) : wpAny M A t Q' E s := wpAny_mono h hQ fun _ _ x => x
end L2
namespace L2
open PySem PySem.Spec PyProof.Rows
section
variable {X : Cx}
def tVar (i : Nat) : TE := fun σ H Q => ∃ v, σ[i]? = some (some v) ∧ Q v H
def tC (v : V) : TE := fun _ H Q => Q v H
theorem pe_var {i : Nat} {x : Str} {pos : Pos} (hN : X.N[i]? = some x) (hv : Vis X.env.scope x) (hd : (x == ("__debug__" : Str)) = false := by decide) (hcd : (x == ("__classdict__" : Str)) = false := by decide) : PE X (.Name x pos) (tVar i) := by
  intro pins s σ H Q I h
  obtain ⟨v, e, h⟩ := h
  obtain ⟨m, hn, hl⟩ := I.loc
  obtain ⟨u, r, l⟩ := hl i x v hN e hv
  have fin : EP X pins σ Q u s := ⟨v, H, I, r, h⟩
  rcases l with ⟨hk, hm⟩ | ⟨hk, c, hc, hcell⟩
  · exact wpAny_Name (wpAny_loadName_local I.ok.kind hk hn hm fin) hd
  · rcases hk with hk | hk
    · exact wpAny_Name (wpAny_loadName_cell I.ok.kind hk hc hcell fin) hd
    · exact wpAny_Name (wpAny_loadName_free I.ok.kind hk hc hcell fin hcd) hd
theorem pe_int {i j pos} : PE X (.Constant (.int i) j pos) (tC (.int i)) := fun _ _ _ H _ I h => wpAny_Constant_int ⟨.int i, H, I.tok _, ⟨_, rfl⟩, h⟩
theorem pe_bl {b j pos} : PE X (.Constant (.bool b) j pos) (tC (.bl b)) := fun _ _ _ H _ I h => Constant_bool ⟨.bl b, H, I, rfl, h⟩
theorem pe_non {j pos} : PE X (.Constant .none j pos) (tC .non) := fun _ _ _ H _ I h => Constant_none ⟨.non, H, I, rfl, h⟩
theorem pe_str {x j pos} : PE X (.Constant (.str x) j pos) (tC (.str x)) := fun _ _ _ H _ I h => Calls.Constant_str ⟨.str x, H, I.tok _, ⟨_, rfl⟩, h⟩
def Gl (X : Cx) (x : Str) : Prop := X.env.kindOf x = some .globalImplicit
theorem ld_glob {E : Value → Shared → Prop} {pins : List (Addr × Obj)} {s : Shared} {σ : St} {H : Hp} {x : Str} {u : Value} {pos : Pos} {Q : Value → Shared → Prop} (I : Inv X pins σ H s) (hg : Gl X x) (hm : X.mg x = some u) (h : Q u s)
    (hd : (x == ("__debug__" : Str)) = false := by decide) : wpAny (model X.prog X.w) X.A (eval (.Name x pos) X.env) Q E s :=
  Calls.Name_function_global I.ok.kind hg (Calls.loadGlobal_global (by rw [I.ok.glob]; exact I.mod.glob.keeps I.bk) hm h) hd
theorem ld_blt {E : Value → Shared → Prop} {pins : List (Addr × Obj)} {s : Shared} {σ : St} {H : Hp} {x : Str} {u : Value} {pos : Pos} {Q : Value → Shared → Prop} (I : Inv X pins σ H s) (hg : Gl X x) (hm : X.mg x = none) (hv : bootBuiltins x = some u) (h : Q u s)
    (hn : x ≠ "__name__" := by decide) (hd : (x == ("__debug__" : Str)) = false := by decide) : wpAny (model X.prog X.w) X.A (eval (.Name x pos) X.env) Q E s := by
  obtain ⟨mb, h1, h2⟩ := I.mod.blt
  exact Calls.Name_function_global I.ok.kind hg (Calls.loadGlobal_builtin (by rw [I.ok.glob]; exact I.mod.glob.keeps I.bk) hm (by rw [I.ok.blt]; exact h1.keeps I.bk) ((h2 x hn).trans hv) h) hd
theorem pe_bltn {x : Str} {v : V} {u : Value} {pos : Pos} (hg : Gl X x) (hm : X.mg x = none) (hv : bootBuiltins x = some u) (r : RelV v u) (hn : x ≠ "__name__" := by decide) (hd : (x == ("__debug__" : Str)) = false := by decide) : PE X (.Name x pos) (tC v) :=
  fun _ _ _ H _ I h => ld_blt I hg hm hv ⟨v, H, I, r, h⟩ hn hd
variable {a b : Expr} {ta tb : TE} {pos : Pos}
def PC (X : Cx) (op : CmpOp) (a b : Expr) (t : TE) : Prop :=
  ∀ (pins : List (Addr × Obj)) (s : Shared) (σ : St) (H : Hp) (Q : VK), Inv X pins σ H s → t σ H Q →
    wpAny (model X.prog X.w) X.A (eval a X.env) (fun v s₁ => wpAny (model X.prog X.w) X.A (eval b X.env) (fun u s₂ => wpAny (model X.prog X.w) X.A (compareOp op v u) (EP X pins σ Q) X.xe s₂) X.xe s₁) X.xe s
theorem nobehind (b : Expr) {op : CmpOp} (h : op ≠ .In) (h2 : op ≠ .NotIn) : behindInMarks op b = false := by
  have e1 : (op == CmpOp.In) = false := by cases op <;> first | rfl | exact absurd rfl h
  have e2 : (op == CmpOp.NotIn) = false := by cases op <;> first | rfl | exact absurd rfl h2
  cases b <;> simp [behindInMarks, e1, e2]
def tB (t : TE) : TT := fun σ H Q => t σ H fun x H1 => ∃ c, x = .bl c ∧ Q c H1
theorem pt_cmp {op : CmpOp} {t : TE} (h : PC X op a b t) (h1 : behindInMarks op b = false := by first | exact nobehind _ (by decide) (by decide) | rfl) : PT X (.Compare a [op] [b] pos) (tB t) := by
  intro pins s σ H Q I hw
  refine wpAny_isTrue_Compare1 (thn (h pins s σ H _ I hw) fun v s1 h1 => thn h1 fun u s2 h2 => thn h2 fun c s3 ⟨x, H1, I1, r1, q1⟩ => ?_) h1
  obtain ⟨d, rfl, q⟩ := q1
  cases r1
  exact wpAny_truthy_bool ⟨H1, I1, q⟩
theorem pt_val {e : Expr} {t : TE} (h : PE X e t) (he : ∀ whole, isTrue e X.env whole = (do let v ← whole; standAt e.pos; holding [v] (truthy v)) := by intro _; rfl) : PT X e (tB t) := by
  intro pins s σ H Q I hw
  refine isTrue_plain (thn (h pins s σ H _ I hw) fun v s1 ⟨x, H1, I1, r1, q1⟩ => ?_) (he _)
  obtain ⟨d, rfl, q⟩ := q1
  cases r1
  exact wpAny_truthy_bool ⟨H1, I1, q⟩
variable {tA tB' : TT} {rest : List Expr}
def tAnd (t u : TT) : TT := fun σ H Q => t σ H fun c H1 => if c = true then u σ H1 Q else Q false H1
def tOr (t u : TT) : TT := fun σ H Q => t σ H fun c H1 => if c = true then Q true H1 else u σ H1 Q
def tNot (t : TT) : TT := fun σ H Q => t σ H fun c H1 => Q (!c) H1
theorem pw_and1 (ha : PT X a tA) : PW X (.BoolOp .And [a] pos) tA := by
  intro wh pins s σ H Q I h
  refine isTrue_and (thn (ha pins s σ H Q I h) fun c s1 e => ?_)
  cases c with
  | true => exact isTrue_and_nil e
  | false => exact e
theorem pw_or1 (ha : PT X a tA) : PW X (.BoolOp .Or [a] pos) tA := by
  intro wh pins s σ H Q I h
  refine isTrue_or (thn (ha pins s σ H Q I h) fun c s1 e => ?_)
  cases c with
  | false => exact isTrue_or_nil e
  | true => exact e
theorem pw_and (ha : PT X a tA) (hb : PW X (.BoolOp .And (b :: rest) pos) tB') : PW X (.BoolOp .And (a :: b :: rest) pos) (tAnd tA tB') := by
  intro wh pins s σ H Q I h
  refine isTrue_and (thn (ha pins s σ H _ I h) fun c s1 ⟨H1, I1, q1⟩ => ?_)
  cases c with
  | true => exact hb wh pins s1 σ H1 Q I1 q1
  | false => exact ⟨H1, I1, q1⟩
theorem pw_or (ha : PT X a tA) (hb : PW X (.BoolOp .Or (b :: rest) pos) tB') : PW X (.BoolOp .Or (a :: b :: rest) pos) (tOr tA tB') := by
  intro wh pins s σ H Q I h
  refine isTrue_or (thn (ha pins s σ H _ I h) fun c s1 ⟨H1, I1, q1⟩ => ?_)
  cases c with
  | true => exact ⟨H1, I1, q1⟩
  | false => exact hb wh pins s1 σ H1 Q I1 q1
theorem pt_not (ha : PT X a tA) : PT X (.UnaryOp .Not a pos) (tNot tA) := by
  intro pins s σ H Q I h
  exact isTrue_not (ha pins s σ H (fun c H1 => Q (!c) H1) I h)
def tAndV (ta tb : TE) : TE := fun σ H Q => ta σ H fun x H1 => ∃ c, x = .bl c ∧ if c = true then tb σ H1 Q else Q (.bl false) H1
def tNotV (ta : TE) : TE := fun σ H Q => ta σ H fun x H1 => ∃ c, x = .bl c ∧ Q (.bl (!c)) H1
theorem pe_one {op} {t : TE} (h : PE X a t) : PE X (.BoolOp op [a] pos) t := fun pins s σ H Q I hw => BoolOp_one (h pins s σ H Q I hw)
theorem pe_and (ha : PE X a ta) (hb : PE X (.BoolOp .And (b :: rest) pos) tb) : PE X (.BoolOp .And (a :: b :: rest) pos) (tAndV ta tb) := by
  intro pins s σ H Q I h
  refine BoolOp_and (thn (ha pins s σ H _ I h) fun v s1 ⟨x, H1, I1, r1, q1⟩ => ?_)
  obtain ⟨c, rfl, q1⟩ := q1
  cases r1
  refine wpAny_truthy_bool ?_
  cases c with
  | true => exact hb pins s1 σ H1 Q I1 q1
  | false => exact ⟨.bl false, H1, I1, rfl, q1⟩
theorem pe_not (ha : PE X a ta) : PE X (.UnaryOp .Not a pos) (tNotV ta) := by
  intro pins s σ H Q I h
  refine UnaryOp_ (thn (ha pins s σ H _ I h) fun v s1 ⟨x, H1, I1, r1, q1⟩ => ?_)
  obtain ⟨c, rfl, q1⟩ := q1
  cases r1
  exact not_of (wpAny_truthy_bool ⟨.bl (!c), H1, I1, rfl, q1⟩)
end
end L2
namespace L2
open PySem PySem.Spec PyProof.Rows
def SqL (K : PySem.W.Frag) (H : Hp) (a : Addr) (xs : List V) : Prop :=
  Rd H a (.lst xs) ∨
    ∃ (o : Obj) (its : Array Value) (n : Nat), K.lookup a = some o ∧ o.cls = .type "list" ∧ o.dict = none ∧ o.data = .seq its n ∧ its.size ≤ sizeLine ∧ Vals xs its.toList
def SqT (K : PySem.W.Frag) (H : Hp) (a : Addr) (xs : List V) : Prop :=
  Rd H a (.tup xs) ∨
    ∃ (o : Obj) (its : Array Value) (n : Nat), K.lookup a = some o ∧ o.cls = .type "tuple" ∧ o.data = .seq its n ∧ its.size ≤ sizeLine ∧ Vals xs its.toList
def absV : Value → Option V
  | .none => some .non
  | .bool b => some (.bl b)
  | .int i _ => some (.int i)
  | .str x _ => some (.str x)
  | .bytes b _ => some (.byt b)
  | .float b _ => some (.flt b)
  | .ref a => some (.ref a)
  | .type n => some (.ty n)
  | _ => none
theorem RelV.abs {x : V} {u : Value} (r : RelV x u) : absV u = some x := by
  cases x with
  | non => cases r; rfl
  | bl _ => cases r; rfl
  | int _ => obtain ⟨t, rfl⟩ := r; rfl
  | str _ => obtain ⟨t, rfl⟩ := r; rfl
  | byt _ => obtain ⟨t, rfl⟩ := r; rfl
  | flt _ => obtain ⟨t, rfl⟩ := r; rfl
  | ref _ => cases r; rfl
  | ty _ => cases r; rfl
theorem RelV.inj {x y : V} {u : Value} (r : RelV x u) (q : RelV y u) : x = y := Option.some.inj (r.abs.symm.trans q.abs)
theorem Vals.inj : ∀ {xs ys : List V} {us : List Value}, Vals xs us → Vals ys us → xs = ys
  | _, _, _, .nil, .nil => rfl
  | _, _, _, .cons r t, .cons r' t' => by rw [r.inj r', Vals.inj t t']
section
variable {X : Cx} {pins : List (Addr × Obj)} {σ : St} {H : Hp} {s : Shared} {a : Addr} {xs ys : List V}
theorem SqL.of {K : PySem.W.Frag} (h : H a = some (.lst xs)) : SqL K H a xs := .inl (.inl h)
theorem SqT.of {K : PySem.W.Frag} (h : H a = some (.tup xs)) : SqT K H a xs := .inl (.inl h)
theorem Inv.list (I : Inv X pins σ H s) (h : SqL X.K H a xs) : ∃ its : List Value, Vals xs its ∧ PlainL s.heap a its.toArray ∧ xs.length ≤ sizeLine := by
  rcases h with h | ⟨o, its, n, hk, hc, hd, hs, hz, r⟩
  · obtain ⟨z, its, n, r, e⟩ := h.ok I.hok
    exact ⟨its, r, ⟨_, n, e, rfl, rfl, rfl⟩, z⟩
  · refine ⟨its.toList, r, ⟨o, n, I.kIn a o hk, hc, hd, by simpa using hs⟩, ?_⟩
    have e := r.length
    simp only [Array.length_toList] at e
    omega
theorem Inv.tuple (I : Inv X pins σ H s) (h : SqT X.K H a xs) : ∃ its : List Value, Vals xs its ∧ IsTup s.heap a its.toArray ∧ xs.length ≤ sizeLine := by
  rcases h with h | ⟨o, its, n, hk, hc, hs, hz, r⟩
  · obtain ⟨z, its, r, p⟩ := h.ok I.hok
    exact ⟨its, r, p, z⟩
  · refine ⟨its.toList, r, ⟨o, I.kIn a o hk, hc, n, by simpa using hs⟩, ?_⟩
    have e := r.length
    simp only [Array.length_toList] at e
    omega
theorem Inv.list_inj (I : Inv X pins σ H s) (h : SqL X.K H a xs) (h' : SqL X.K H a ys) : xs = ys := by
  obtain ⟨its, r, ⟨o, n, e, _, _, d⟩, _⟩ := I.list h
  obtain ⟨its', r', ⟨o', n', e', _, _, d'⟩, _⟩ := I.list h'
  rw [e] at e'; cases e'
  rw [d] at d'
  injection d' with d1 _
  have : its = its' := by simpa using congrArg Array.toList d1
  subst this
  exact r.inj r'
theorem Inv.tuple_inj (I : Inv X pins σ H s) (h : SqT X.K H a xs) (h' : SqT X.K H a ys) : xs = ys := by
  obtain ⟨its, r, ⟨o, e, _, n, d⟩, _⟩ := I.tuple h
  obtain ⟨its', r', ⟨o', e', _, n', d'⟩, _⟩ := I.tuple h'
  rw [e] at e'; cases e'
  rw [d] at d'
  injection d' with d1 _
  have : its = its' := by simpa using congrArg Array.toList d1
  subst this
  exact r.inj r'
end
abbrev Cx.wish (X : Cx) (E : Value → Shared → Prop) : Cx := { X with xe := E }
abbrev Cx.nox (X : Cx) : Cx := X.wish fun _ _ => False
theorem Cx.Ok.wish {X : Cx} (ok : X.Ok) (E : Value → Shared → Prop) : (X.wish E).Ok :=
  ⟨ok.mod, ok.kind, ok.glob, ok.blt, ok.above, ok.inj, ok.has, ok.cab, ok.hd, ok.frames, ok.stk, ok.exf, ok.bs, ok.bsz, ok.noex, ok.exfs, ok.funs, ok.frf⟩
theorem Cx.Ok.unwish {X : Cx} {E : Value → Shared → Prop} (ok : (X.wish E).Ok) : X.Ok :=
  ⟨ok.mod, ok.kind, ok.glob, ok.blt, ok.above, ok.inj, ok.has, ok.cab, ok.hd, ok.frames, ok.stk, ok.exf, ok.bs, ok.bsz, ok.noex, ok.exfs, ok.funs, ok.frf⟩
section
variable {X : Cx} {pins : List (Addr × Obj)} {σ : St} {H : Hp} {s : Shared} {E : Value → Shared → Prop}
theorem Inv.wish (I : Inv X pins σ H s) (E : Value → Shared → Prop) : Inv (X.wish E) pins σ H s := ⟨I.ok.wish E, I.os, I.bare, I.base, I.loc, I.cell, I.free, I.freeC, I.pin, I.hok, I.len⟩
theorem Inv.unwish (I : Inv (X.wish E) pins σ H s) : Inv X pins σ H s := ⟨I.ok.unwish, I.os, I.bare, I.base, I.loc, I.cell, I.free, I.freeC, I.pin, I.hok, I.len⟩
theorem SP.unwish {D : Ends} {f : Flow} {s' : Shared} (h : SP (X.wish E) pins D f s') : SP X pins D f s' := by
  cases f with
  | next => obtain ⟨σ', H', I, q⟩ := h; exact ⟨σ', H', I.unwish, q⟩
  | brk => obtain ⟨σ', H', I, q⟩ := h; exact ⟨σ', H', I.unwish, q⟩
  | cont => obtain ⟨σ', H', I, q⟩ := h; exact ⟨σ', H', I.unwish, q⟩
  | ret u => obtain ⟨v, σ', H', I, r, q⟩ := h; exact ⟨v, σ', H', I.unwish, r, q⟩
theorem PSs.nox {st : List Stmt} {t : TS} (h : PSs X.nox st t) : PSs X st t := fun pins s σ H D I hw =>
  wpAny_mono (h pins s σ H D (I.wish _) hw) (fun _ _ q => q.unwish) fun _ _ z => False.elim z
end
section
variable {X : Cx} {st : Stmt} {rest : List Stmt} {t u : TS} {e : Expr} {te : TE} {pos : Pos}
def tNext : TS := fun D σ H => D.nx σ H
def tSeq (t u : TS) : TS := fun D σ H => t { D with nx := u D } σ H
theorem pss_nil : PSs X [] tNext := fun _ _ σ H _ I h => wpAny_execs_nil ⟨σ, H, I, h⟩
theorem pss_cons (h1 : PS X st t) (h2 : PSs X rest u) : PSs X (st :: rest) (tSeq t u) := by
  intro pins s σ H D I h
  refine wpAny_execs_cons (thn (h1 pins s σ H { D with nx := u D } I h) fun f s1 q => ?_)
  cases f with
  | next =>
    obtain ⟨σ', H', I', q⟩ := q
    exact h2 pins s1 σ' H' D I' q
  | ret v => exact q
  | brk => exact q
  | cont => exact q
theorem pss_one (h1 : PS X st t) : PSs X [st] t := by
  intro pins s σ H D I h
  refine wpAny_execs_cons (thn (h1 pins s σ H D I h) fun f s1 q => ?_)
  cases f with
  | next => exact wpAny_execs_nil q
  | ret v => exact q
  | brk => exact q
  | cont => exact q
def tCont : TS := fun D σ H => D.ct σ H
theorem ps_continue : PS X (.Continue pos) tCont := fun _ _ σ H _ I h => wpAny_Continue ⟨σ, H, I, h⟩
theorem Inv.quiet {pins : List (Addr × Obj)} {σ : St} {H : Hp} {s : Shared} (I : Inv X pins σ H s) : interactive X.env = false := by simp [interactive, I.ok.kind]
def tDrop (te : TE) : TS := fun D σ H => te σ H fun _ H1 => D.nx σ H1
theorem ps_expr (he : PE X e te) (hs : swapsWith e none pos.line X.env = pure false := by rfl) : PS X (.Expr e pos) (tDrop te) := by
  intro pins s σ H D I h
  exact wpAny_Expr_any (thn (he pins s σ H _ I h) fun v s1 ⟨x, H1, I1, r1, q1⟩ => ⟨σ, H1, I1, q1⟩) I.quiet hs
def tRet (te : TE) : TS := fun D σ H => te σ H D.rt
theorem ps_ret (he : PE X e te) : PS X (.Return (some e) pos) (tRet te) := by
  intro pins s σ H D I h
  exact wpAny_Return_some (thn (he pins s σ H _ I h) fun v s1 ⟨x, H1, I1, r1, q1⟩ => ⟨x, σ, H1, I1, r1, q1⟩)
def tIfS (c : TT) (t u : TS) : TS := fun D σ H => c σ H fun b H1 => if b = true then t D σ H1 else u D σ H1
theorem ps_if {c : Expr} {a b : List Stmt} {tc : TT} (hc : PT X c tc) (ha : PSs X a t) (hb : PSs X b u) : PS X (.If c a b pos) (tIfS tc t u) := by
  intro pins s σ H D I h
  refine wpAny_If (thn (hc pins s σ H _ I h) fun d s1 ⟨H1, I1, q1⟩ => ?_)
  cases d with
  | true => exact ha pins s1 σ H1 D I1 q1
  | false => exact hb pins s1 σ H1 D I1 q1
end
abbrev TG := V → St → Hp → (St → Hp → Prop) → Prop
def PG (X : Cx) (target : Expr) (t : TG) : Prop :=
  ∀ (pins : List (Addr × Obj)) (s : Shared) (σ : St) (H : Hp) (v : V) (u : Value) (Q : St → Hp → Prop), Inv X pins σ H s → RelV v u → t v σ H Q →
    wpAny (model X.prog X.w) X.A (assign target X.env u) (fun _ s' => ∃ σ' H', Inv X pins σ' H' s' ∧ Q σ' H') X.xe s
abbrev TSet := V → V → V → Hp → (Hp → Prop) → Prop
def PSet (X : Cx) (t : TSet) : Prop :=
  ∀ (pins : List (Addr × Obj)) (s : Shared) (σ : St) (H : Hp) (o i v : V) (ov iv u : Value) (Q : Hp → Prop), Inv X pins σ H s → RelV o ov → RelV i iv → RelV v u → t o i v H Q →
    wpAny (model X.prog X.w) X.A (setItem ov iv u) (fun _ s' => ∃ H', Inv X pins σ H' s' ∧ Q H') X.xe s
section
variable {X : Cx} {pos : Pos}
def gName (i : Nat) : TG := fun v σ H Q => Q (σ.set i (some v)) H
theorem pg_name {i : Nat} {x : Str} (hN : X.N.Nodup) (hi : X.N[i]? = some x) (hx : Loc X.env.scope x) (hf : X.fn x = true ∨ X.env.scope.names.lookup x = some .local := by first | exact .inl rfl | exact .inr rfl | assumption) : PG X (.Name x pos) (gName i) := by
  intro pins s σ H v u Q I r h
  exact wpAny_assign_Name (store_ok I hN hi hx r (fun s' I' => ⟨_, H, I', h⟩) hf)
def gSub (to ti : TE) (t : TSet) : TG := fun v σ H Q => to σ H fun o H1 => ti σ H1 fun i H2 => t o i v H2 fun H3 => Q σ H3
theorem pg_sub {o i : Expr} {to ti : TE} {t : TSet} (ho : PE X o to) (hi : PE X i ti) (hs : PSet X t)
    (ha : ∀ v, assign (.Subscript o i pos) X.env v = (do
      let ov ← holding [v] (eval o X.env)
      let iv ← holding [v, ov] (eval i X.env)
      standAt pos
      holding [v, ov, iv] (setItem ov iv v)
      release [v, ov, iv] []) := by intro _; rfl) : PG X (.Subscript o i pos) (gSub to ti t) := by
  intro pins s σ H v u Q I r h
  rw [ha]
  refine wpAny_bind (wpAny_holding (thn (ho pins s σ H _ I h) fun ov s1 ⟨x, H1, I1, r1, q1⟩ => ?_))
  refine wpAny_bind (wpAny_holding (thn (hi pins s1 σ H1 _ I1 q1) fun iv s2 ⟨y, H2, I2, r2, q2⟩ => ?_))
  refine wpAny_bind (wpAny_standAt (wpAny_bind (wpAny_holding (thn (hs pins s2 σ H2 x y v ov iv u _ I2 r1 r2 r q2) fun _ s3 ⟨H3, I3, q3⟩ => ?_))))
  exact wpAny_release ⟨σ, H3, I3, q3⟩
def tAsg (te : TE) (g : TG) : TS := fun D σ H => te σ H fun x H1 => g x σ H1 D.nx
theorem ps_asg {tg e : Expr} {te : TE} {g : TG} (he : PE X e te) (hg : PG X tg g) (hs : swapsWithSole [tg] e pos.line X.env = pure false := by rfl) (hw : swappedStores [tg] e X.env = pure none := by rfl)
    (h1 : (assignEach [tg] X.env).map (·.2) = [assign tg X.env] := by rfl) : PS X (.Assign [tg] e pos) (tAsg te g) := by
  intro pins s σ H D I h
  refine wpAny_Assign_stores (thn (he pins s σ H _ I h) fun v s1 ⟨x, H1, I1, r1, q1⟩ => ?_) hs hw
  rw [h1]
  exact thn (hg pins s1 σ H1 x v _ I1 r1 q1) fun _ s2 q => q
theorem ps_set {i : Nat} {x : Str} {e : Expr} {te : TE} {pos' : Pos} (hN : X.N.Nodup) (hi : X.N[i]? = some x) (hx : Loc X.env.scope x) (he : PE X e te) (hs : swapsWith e (some (.Name x pos')) pos.line X.env = pure false := by rfl) (hf : X.fn x = true ∨ X.env.scope.names.lookup x = some .local := by first | exact .inl rfl | exact .inr rfl | assumption) :
    PS X (.Assign [.Name x pos'] e pos) (tAsg te (gName i)) := by
  intro pins s σ H D I h
  refine wpAny_Assign_Name (thn (he pins s σ H _ I h) fun v s1 ⟨y, H1, I1, r1, q1⟩ => ?_) hs
  exact store_ok I1 hN hi hx r1 (fun s2 I2 => ⟨_, H1, I2, q1⟩) hf
end
section
variable {X : Cx} {pos : Pos}
def tWhile (c : TT) (tb : TS) : TS := fun D σ H => ∃ W : Nat → St → Hp → Prop, (∃ m, W m σ H) ∧ ∀ m σ H, W m σ H →
  c σ H fun b H1 => if b = true then ∃ N : St → Hp → Prop, (∀ σ' H', N σ' H' → ∃ m', m' < m ∧ W m' σ' H') ∧ tb { D with nx := N, ct := N, bk := D.nx } σ H1 else D.nx σ H1
theorem ps_while {c : Expr} {body : List Stmt} {tc : TT} {tb : TS} (hp : PassesOwn (model X.prog X.w) X.A X.env X.xe) (hc : PT X c tc) (hb : PSs X body tb) : PS X (.While c body [] pos) (tWhile tc tb) := by
  intro pins s σ H D I h
  obtain ⟨W, ⟨m0, w0⟩, turn⟩ := h
  refine wpAny_While (codeAny_whileLoop (fun n s' => ∃ σ' H', Inv X pins σ' H' s' ∧ W n σ' H') ?_ m0 ⟨σ, H, I, w0⟩)
  rintro n s1 ⟨σ1, H1, I1, w1⟩
  refine wpAny_passesOwn hp (thn (hc pins s1 σ1 H1 _ I1 (turn n σ1 H1 w1)) fun b s2 ⟨H2, I2, q2⟩ => ?_)
  cases b with
  | true =>
    obtain ⟨N, hN, q2⟩ := q2
    rw [if_pos rfl]
    refine wpAny_passesOwn hp (thn (hb pins s2 σ1 H2 _ I2 q2) fun f s3 q3 => ?_)
    cases f with
    | next =>
      obtain ⟨σ3, H3, I3, n3⟩ := q3
      obtain ⟨m', hm, w3⟩ := hN σ3 H3 n3
      exact ⟨m', hm, σ3, H3, I3, w3⟩
    | cont =>
      obtain ⟨σ3, H3, I3, n3⟩ := q3
      obtain ⟨m', hm, w3⟩ := hN σ3 H3 n3
      exact ⟨m', hm, σ3, H3, I3, w3⟩
    | brk => exact q3
    | ret v => exact q3
  | false =>
    rw [if_neg Bool.false_ne_true]
    exact wpAny_execs_nil ⟨σ1, H2, I2, q2⟩
end
structure It where
  go : Nat → Hp → Prop
  yld : Nat → Hp → V → Hp → Prop
  stop : Nat → Hp → Prop
def FpOk (X : Cx) (pins : List (Addr × Obj)) (H : Hp) (b : Addr) : Prop :=
  H b = none ∧ b ≠ X.env.locals ∧ b ∉ X.fs ∧ (b ∈ X.ex ∨ X.s₀.heap.objs.size ≤ b) ∧ (∀ x c, X.env.cells.lookup x = some c → c ≠ b) ∧ ∀ p ∈ X.pn ++ pins, p.1 ≠ b
theorem Inv.fpOk {X : Cx} {pins : List (Addr × Obj)} {σ : St} {H H' : Hp} {s : Shared} {b : Addr} (I : Inv X pins σ H s) (hb : s.heap.objs.size ≤ b) (hn : H' b = none) : FpOk X pins H' b := by
  refine ⟨hn, Nat.ne_of_gt (Nat.lt_of_lt_of_le I.lt hb), I.nofs hb, .inr (Nat.le_trans I.sz hb), fun x c e z => ?_, fun p hp z => ?_⟩
  · obtain ⟨v, q⟩ := I.cell x c e
    exact absurd (Nat.lt_of_lt_of_le q.lt (by rw [z]; exact hb)) (Nat.lt_irrefl _)
  · exact absurd (Nat.lt_of_lt_of_le (Heap.lt_size (I.pin p hp).1) (by rw [z]; exact hb)) (Nat.lt_irrefl _)
structure Turn (P : Program) (w : World) (K : PySem.W.Frag) (tg : Expr) (J : It) (fp : List Addr) (it : Addr) (tn : Nat → Heap → Prop) : Prop where
  mem : it ∈ fp
  obj : ∀ i h, tn i h → ∀ b ∈ fp, ∃ o, h.get? b = some o ∧ ∀ v, o.data ≠ .cell v
  keep : ∀ i h h', tn i h → (∀ b ∈ fp, ∀ o, h.get? b = some o → h'.get? b = some o) → tn i h'
  item : ∀ (X : Cx), X.prog = P → X.w = w → X.K = K → X.calm = true → ∀ (i : Nat) (pins : List (Addr × Obj)) (s : Shared) (σ : St) (H : Hp) (E : Value → Shared → Prop), Inv X pins σ H s → (∀ b ∈ fp, FpOk X pins H b) → tn i s.heap → J.go i H →
    wpAny (model P w) X.A (pyNext (.ref it)) (fun r s1 => ∃ u, r = some u ∧
      wpAny (model P w) X.A (letOwnedTupleGo tg (.ref it) u) (fun _ s2 => ∃ x H', Inv X pins σ H' s2 ∧ RelV x u ∧ J.yld i H x H' ∧ tn (i + 1) s2.heap ∧ ∀ b ∈ fp, H' b = none) E s1) E s
  done : ∀ (X : Cx), X.prog = P → X.w = w → X.K = K → X.calm = true → ∀ (i : Nat) (pins : List (Addr × Obj)) (s : Shared) (σ : St) (H : Hp) (E : Value → Shared → Prop), Inv X pins σ H s → (∀ b ∈ fp, FpOk X pins H b) → tn i s.heap → J.stop i H →
    wpAny (model P w) X.A (pyNext (.ref it)) (fun r s1 => r = none ∧ Inv X pins σ H s1) E s
  self : ∀ (A : Around) (i : Nat) (s : Shared) (Q : Value → Shared → Prop) (E : Value → Shared → Prop), tn i s.heap → Q (.ref it) s → wpAny (model P w) A (pyIter (.ref it)) Q E s
abbrev TI := St → Hp → (It → Hp → Prop) → Prop
def PIE (X : Cx) (pins : List (Addr × Obj)) (σ : St) (tg : Expr) (R : It → Hp → Prop) (itv : Value) (s2 : Shared) : Prop :=
  ∃ (it : Addr) (fp : List Addr) (tn : Nat → Heap → Prop) (J : It) (H' : Hp), itv = .ref it ∧ Inv X pins σ H' s2 ∧ Turn X.prog X.w X.K tg J fp it tn ∧ tn 0 s2.heap ∧ (∀ b ∈ fp, FpOk X pins H' b) ∧ R J H'
def PI (X : Cx) (tg iter : Expr) (wi : TI) : Prop :=
  ∀ (pins : List (Addr × Obj)) (s : Shared) (σ : St) (H : Hp) (R : It → Hp → Prop), Inv X pins σ H s → wi σ H R →
    wpAny (model X.prog X.w) X.A (eval iter X.env) (fun v s1 => wpAny (model X.prog X.w) X.A (pyIter v) (PIE X pins σ tg R) X.xe s1) X.xe s
theorem go_of {M : Model} {A : Around} {E : Value → Shared → Prop} {s : Shared} {tg : Expr} {it : Addr} {u : Value} {o : Obj} {n : String} {vs : Array Value} {Q : Unit → Shared → Prop} (ho : s.heap.get? it = some o) (hc : o.cls = .type n) (hd : o.data = .fields vs)
    (hn : ["enumerate", "zip", "dict_itemiterator", "dict_reverseitemiterator", "odict_iterator", "itertools.zip_longest", "itertools.pairwise"].contains n = false) (hQ : Q () s) : wpAny M A (letOwnedTupleGo tg (.ref it) u) Q E s := by
  unfold letOwnedTupleGo
  cases tg <;> first
    | exact wpAny_pure hQ
    | (cases u <;> first
        | exact wpAny_pure hQ
        | (refine wpAny_bind (wpAny_load ho ?_)
           rw [hc, hd]
           show wpAny M A (if (["enumerate", "zip", "dict_itemiterator", "dict_reverseitemiterator", "odict_iterator", "itertools.zip_longest", "itertools.pairwise"].contains n && vs[0]? == some (rawInt _)) = true then _ else _) Q E s
           rw [if_neg (by intro h; rw [hn, Bool.false_and] at h; cases h)]
           exact wpAny_pure hQ))
def Itl (K : PySem.W.Frag) (a : Addr) : It :=
  ⟨fun i H => ∃ xs x, SqL K H a xs ∧ xs[i]? = some x, fun i H x H' => H' = H ∧ ∀ xs, SqL K H a xs → xs[i]? = some x, fun i H => ∃ xs, SqL K H a xs ∧ xs.length ≤ i⟩
def Itt (K : PySem.W.Frag) (a : Addr) : It :=
  ⟨fun i H => ∃ xs x, SqT K H a xs ∧ xs[i]? = some x, fun i H x H' => H' = H ∧ ∀ xs, SqT K H a xs → xs[i]? = some x, fun i H => ∃ xs, SqT K H a xs ∧ xs.length ≤ i⟩
def Itr (lo : Int) (n : Nat) : It := ⟨fun i _ => i < n, fun i H x H' => H' = H ∧ x = .int (lo + i), fun i _ => n ≤ i⟩
theorem turn_list {P : Program} {w : World} {K : PySem.W.Frag} {tg : Expr} (a it : Addr) : Turn P w K tg (Itl K a) [it] it (fun i h => h.IsListIter it a i) where
  mem := by simp
  obj := fun i h st b hb => by
    have e : b = it := by simpa using hb
    subst e
    obtain ⟨o, e, c, d⟩ := st
    exact ⟨o, e, fun v z => by rw [d] at z; cases z⟩
  keep := fun i h h' st k => st.at fun o e => k it (by simp) o e
  item := by
    intro X hP hw hK hc i pins s σ H E I hf st hg
    subst hP hw hK
    obtain ⟨xs, x, hq, hx⟩ := hg
    obtain ⟨its, rv, p, hz⟩ := I.list hq
    obtain ⟨u, hu, ru⟩ := rv.get hx
    obtain ⟨f0, f1, f2, f3, f4, f5⟩ := hf it (by simp)
    refine wpAny_pyNext_list_item st p.isList (x := u) (by simpa using hu) fun h' st' sb => ?_
    have I1 : Inv X pins σ H { s with heap := h' } := I.turned (t' := s.toks) (fun b o hb e => (sb.2 b hb).trans e) f0 f1 f3 f4 f5
    obtain ⟨o, e, c, d⟩ := id st'
    exact ⟨u, rfl, go_of (s := { s with heap := h' }) e c d (by decide) ⟨x, H, I1, ru, ⟨rfl, fun ys hy => by rw [I.list_inj hy hq]; exact hx⟩, st', fun b hb => (hf b hb).1⟩⟩
  done := by
    intro X hP hw hK hc i pins s σ H E I hf st hg
    subst hP hw hK
    obtain ⟨xs, hq, hx⟩ := hg
    obtain ⟨its, rv, p, hz⟩ := I.list hq
    obtain ⟨f0, f1, f2, f3, f4, f5⟩ := hf it (by simp)
    have hl := rv.length
    exact wpAny_pyNext_list_end (I.ok.hd hc) st p.isList (by simp; omega) fun h' eb => ⟨rfl, I.turned (t' := s.toks) (fun b o hb e => eb b o hb e) f0 f1 f3 f4 f5⟩
  self := fun _ _ _ _ _ st h => wpAny_pyIter_listiter st h
theorem turn_tuple {P : Program} {w : World} {K : PySem.W.Frag} {tg : Expr} (a it : Addr) : Turn P w K tg (Itt K a) [it] it (fun i h => h.IsTupleIter it a i) where
  mem := by simp
  obj := fun i h st b hb => by
    have e : b = it := by simpa using hb
    subst e
    obtain ⟨o, e, c, d⟩ := st
    exact ⟨o, e, fun v z => by rw [d] at z; cases z⟩
  keep := fun i h h' st k => st.at fun o e => k it (by simp) o e
  item := by
    intro X hP hw hK hc i pins s σ H E I hf st hg
    subst hP hw hK
    obtain ⟨xs, x, hq, hx⟩ := hg
    obtain ⟨its, rv, p, hz⟩ := I.tuple hq
    obtain ⟨u, hu, ru⟩ := rv.get hx
    obtain ⟨f0, f1, f2, f3, f4, f5⟩ := hf it (by simp)
    refine wpAny_pyNext_tuple_item st (show s.heap.IsTuple a its.toArray from p) (x := u) (by simpa using hu) fun h' st' sb => ?_
    have I1 : Inv X pins σ H { s with heap := h' } := I.turned (t' := s.toks) (fun b o hb e => (sb.2 b hb).trans e) f0 f1 f3 f4 f5
    obtain ⟨o, e, c, d⟩ := id st'
    exact ⟨u, rfl, go_of (s := { s with heap := h' }) e c d (by decide) ⟨x, H, I1, ru, ⟨rfl, fun ys hy => by rw [I.tuple_inj hy hq]; exact hx⟩, st', fun b hb => (hf b hb).1⟩⟩
  done := by
    intro X hP hw hK hc i pins s σ H E I hf st hg
    subst hP hw hK
    obtain ⟨xs, hq, hx⟩ := hg
    obtain ⟨its, rv, p, hz⟩ := I.tuple hq
    obtain ⟨f0, f1, f2, f3, f4, f5⟩ := hf it (by simp)
    have hl := rv.length
    exact wpAny_pyNext_tuple_end (I.ok.hd hc) st (show s.heap.IsTuple a its.toArray from p) (by simp; omega) fun h' eb => ⟨rfl, I.turned (t' := s.toks) (fun b o hb e => eb b o hb e) f0 f1 f3 f4 f5⟩
  self := fun _ _ _ _ _ st h => wpAny_pyIter_tupleiter st h
theorem turn_range {P : Program} {w : World} {K : PySem.W.Frag} {tg : Expr} (it : Addr) (lo : Int) (n : Nat) : Turn P w K tg (Itr lo n) [it] it (fun i h => IsRangeIter h it (lo + (i : Nat) * 1) ((n : Int) - (i : Nat)) 1) where
  mem := by simp
  obj := fun i h st b hb => by
    have e : b = it := by simpa using hb
    subst e
    exact ⟨_, st, fun v z => by
      have z' : Data.fields _ = Data.cell v := z
      cases z'⟩
  keep := fun i h h' st k => k it (by simp) _ st
  item := by
    intro X hP hw hK hc i pins s σ H E I hf st hg
    subst hP hw hK
    obtain ⟨f0, f1, f2, f3, f4, f5⟩ := hf it (by simp)
    have W := Walks.range (prog := X.prog) (w := X.w) (I.ok.hd hc) it lo 1 n
    refine W.item i s _ _ hg st fun v h' tk hv st' kk => ?_
    obtain ⟨t, rfl⟩ := hv
    have I1 : Inv X pins σ H { s with heap := h', toks := tk } := I.turned (fun b o hb e => kk b o (by simpa using hb) e) f0 f1 f3 f4 f5
    refine ⟨_, rfl, go_of (s := { s with heap := h', toks := tk }) (n := "range_iterator") st' rfl rfl (by decide) ⟨.int (lo + i), H, I1, ⟨t, ?_⟩, ⟨rfl, rfl⟩, st', fun b hb => (hf b hb).1⟩⟩
    rw [Int.mul_one]
  done := by
    intro X hP hw hK hc i pins s σ H E I hf st hg
    subst hP hw hK
    obtain ⟨f0, f1, f2, f3, f4, f5⟩ := hf it (by simp)
    exact wpAny_pyNext_range_end (I.ok.hd hc) st (by have : n ≤ i := hg; omega) fun h' eb => ⟨rfl, I.turned (t' := s.toks) (fun b o hb e => eb b o hb e) f0 f1 f3 f4 f5⟩
  self := fun _ _ _ _ _ st h => wpAny_pyIter_rangeiter st h
end L2
namespace L2
open PySem PySem.Spec PyProof.Rows
section
variable {X : Cx} {tg : Expr}
def iList (K : PySem.W.Frag) (tl : TE) : TI := fun σ H R => tl σ H fun x H1 => ∃ a, x = .ref a ∧ (∃ xs, SqL K H1 a xs) ∧ R (Itl K a) H1
def iTup (K : PySem.W.Frag) (tl : TE) : TI := fun σ H R => tl σ H fun x H1 => ∃ a, x = .ref a ∧ (∃ xs, SqT K H1 a xs) ∧ R (Itt K a) H1
theorem pi_list {l : Expr} {tl : TE} (hl : PE X l tl) : PI X tg l (iList X.K tl) := by
  intro pins s σ H R I h
  refine thn (hl pins s σ H _ I h) fun v s1 ⟨x, H1, I1, r1, q1⟩ => ?_
  obtain ⟨a, e, ⟨xs, hq⟩, q⟩ := q1
  subst e
  cases r1
  obtain ⟨its, rv, p, hz⟩ := I1.list hq
  refine wpAny_pyIter_list p.isList ?_
  refine ⟨s1.heap.objs.size, [s1.heap.objs.size], _, _, H1, rfl, I1.kept (t' := s1.toks) fun b o e => Heap.get?_push_of_some _ e, turn_list a _, ⟨_, Heap.get?_push_size _ rfl, rfl, rfl⟩, fun b hb => ?_, q⟩
  have e : b = s1.heap.objs.size := by simpa using hb
  subst e
  exact I1.fpOk (Nat.le_refl _) (I1.hok.fresh (Nat.le_refl _))
theorem pi_tup {l : Expr} {tl : TE} (hl : PE X l tl) : PI X tg l (iTup X.K tl) := by
  intro pins s σ H R I h
  refine thn (hl pins s σ H _ I h) fun v s1 ⟨x, H1, I1, r1, q1⟩ => ?_
  obtain ⟨a, e, ⟨xs, hq⟩, q⟩ := q1
  subst e
  cases r1
  obtain ⟨its, rv, p, hz⟩ := I1.tuple hq
  refine wpAny_pyIter_tuple (show s1.heap.IsTuple a its.toArray from p) ?_
  refine ⟨s1.heap.objs.size, [s1.heap.objs.size], _, _, H1, rfl, I1.kept (t' := s1.toks) fun b o e => Heap.get?_push_of_some _ e, turn_tuple a _, ⟨_, Heap.get?_push_size _ rfl, rfl, rfl⟩, fun b hb => ?_, q⟩
  have e : b = s1.heap.objs.size := by simpa using hb
  subst e
  exact I1.fpOk (Nat.le_refl _) (I1.hok.fresh (Nat.le_refl _))
theorem range_it {pins : List (Addr × Obj)} {σ : St} {H : Hp} {s : Shared} {R : It → Hp → Prop} {E : Value → Shared → Prop} {lo hi : Int} {t u v : Tok} {tk : Nat} (I : Inv X pins σ H s) (h1 : -(2 ^ 62) ≤ lo) (h2 : lo < 2 ^ 62) (h3 : -(2 ^ 62) ≤ hi) (h4 : hi < 2 ^ 62)
    (q : R (Itr lo (hi - lo).toNat) H) : wpAny (model X.prog X.w) X.A (pyIter (.ref s.heap.objs.size)) (PIE X pins σ tg R) E { s with heap := s.heap.push { cls := .type "range", data := .fields #[.int lo t, .int hi u, .int 1 v] }, toks := tk } := by
  refine wpAny_pyIter_range (IsRange.new ..) (small_one h1 h2 h3 h4) ?_
  have I1 : Inv X pins σ H { s with heap := s.heap.push { cls := .type "range", data := .fields #[.int lo t, .int hi u, .int 1 v] }, toks := tk } := I.kept fun b o e => Heap.get?_push_of_some _ e
  refine ⟨(s.heap.push { cls := .type "range", data := .fields #[.int lo t, .int hi u, .int 1 v] }).objs.size, [(s.heap.push { cls := .type "range", data := .fields #[.int lo t, .int hi u, .int 1 v] }).objs.size], _, _, H, rfl,
    I1.kept (t' := tk) fun b o e => Heap.get?_push_of_some _ e, turn_range _ lo (hi - lo).toNat, ?_, fun b hb => ?_, q⟩
  · have e1 : lo + ((0 : Nat) : Int) * 1 = lo := by simp
    have e2 : (((hi - lo).toNat : Nat) : Int) - ((0 : Nat) : Int) = Builtin.Range.rangeSize lo hi 1 := by rw [rangeSize_one]; split <;> omega
    show IsRangeIter _ _ (lo + ((0 : Nat) : Int) * 1) ((((hi - lo).toNat : Nat) : Int) - ((0 : Nat) : Int)) 1
    rw [e1, e2]
    exact Heap.get?_push_size _ rfl
  · have e : b = (s.heap.push { cls := .type "range", data := .fields #[.int lo t, .int hi u, .int 1 v] }).objs.size := by simpa using hb
    subst e
    exact I1.fpOk (Nat.le_refl _) (I1.hok.fresh (Nat.le_refl _))
def iRng1 (ta : TA) : TI := fun σ H R => ta σ H fun vs H1 => ∃ j : Int, vs = [.int j] ∧ -(2 ^ 62) ≤ j ∧ j < 2 ^ 62 ∧ R (Itr 0 j.toNat) H1
def iRng2 (ta : TA) : TI := fun σ H R => ta σ H fun vs H1 => ∃ i j : Int, vs = [.int i, .int j] ∧ (-(2 ^ 62) ≤ i ∧ i < 2 ^ 62 ∧ -(2 ^ 62) ≤ j ∧ j < 2 ^ 62) ∧ R (Itr i (j - i).toNat) H1
theorem pi_range1 {a : Expr} {ta : TA} {p pos : Pos} (hg : Gl X "range") (hm : X.mg "range" = none) (ha : PA X [a] ta) (hs : starEach [a] X.env = [(false, eval a X.env)] := by rfl) : PI X tg (.Call (.Name "range" p) [a] [] pos) (iRng1 ta) := by
  intro pins s σ H R I h
  refine Call_ (ld_blt I hg hm boot_range (PyProof.Rows.callWith_type1 (thn (ha pos pins s σ H _ I h) fun us s1 ⟨vs, H1, I1, r1, q1⟩ => ?_) hs rfl))
  obtain ⟨j, e, q1, q2, q⟩ := q1
  subst e
  cases r1 with
  | cons r rr =>
    cases rr
    obtain ⟨t, rfl⟩ := r
    exact call_range_1 (range_it I1 (by omega) (by omega) q1 q2 (by simpa using q))
theorem pi_range2 {a b : Expr} {ta : TA} {p pos : Pos} (hg : Gl X "range") (hm : X.mg "range" = none) (ha : PA X [a, b] ta) (hs : starEach [a, b] X.env = [(false, eval a X.env), (false, eval b X.env)] := by rfl) (hs2 : starEach [b] X.env = [(false, eval b X.env)] := by rfl) :
    PI X tg (.Call (.Name "range" p) [a, b] [] pos) (iRng2 ta) := by
  intro pins s σ H R I h
  refine Call_ (ld_blt I hg hm boot_range (PyProof.Rows.callWith_type1 (thn (ha pos pins s σ H _ I h) fun us s1 ⟨vs, H1, I1, r1, q1⟩ => ?_) (by rw [hs, hs2]) (by rw [hs2]; rfl)))
  obtain ⟨i, j, e, ⟨q1, q2, q3, q4⟩, q⟩ := q1
  subst e
  cases r1 with
  | cons r rr =>
    cases rr with
    | cons r' rr =>
      cases rr
      obtain ⟨t, rfl⟩ := r
      obtain ⟨t', rfl⟩ := r'
      exact call_range_2 (range_it I1 q1 q2 q3 q4 q)
def tFor (wi : TI) (g : TG) (tb : TS) : TS := fun D σ H => wi σ H fun J H1 => ∃ W : Nat → Nat → St → Hp → Prop, (∃ m, W 0 m σ H1) ∧ ∀ i m σ H, W i m σ H →
  (J.stop i H ∧ D.nx σ H) ∨ (J.go i H ∧ ∃ N : St → Hp → Prop, (∀ σ' H', N σ' H' → ∃ m', m' < m ∧ W (i + 1) m' σ' H') ∧ ∀ x H', J.yld i H x H' → g x σ H' fun σ2 H2 => tb { D with nx := N, ct := N, bk := D.nx } σ2 H2)
def pinsAt (fp : List Addr) (h : Heap) : List (Addr × Obj) := fp.filterMap fun b => (h.get? b).map fun o => (b, o)
theorem mem_pinsAt {fp : List Addr} {h : Heap} {b : Addr} {o : Obj} (hb : b ∈ fp) (e : h.get? b = some o) : (b, o) ∈ pinsAt fp h := List.mem_filterMap.mpr ⟨b, hb, by rw [e]; rfl⟩
theorem of_pinsAt {fp : List Addr} {h : Heap} {p : Addr × Obj} (hp : p ∈ pinsAt fp h) : p.1 ∈ fp ∧ h.get? p.1 = some p.2 := by
  obtain ⟨b, hb, e⟩ := List.mem_filterMap.mp hp
  cases q : h.get? b with
  | none => rw [q] at e; cases e
  | some o =>
    rw [q] at e
    have e' : (b, o) = p := Option.some.inj e
    subst e'
    exact ⟨hb, q⟩
theorem Inv.pinned {pins : List (Addr × Obj)} {σ : St} {H : Hp} {s : Shared} {fp : List Addr} (I : Inv X pins σ H s) (hf : ∀ b ∈ fp, FpOk X pins H b) (ho : ∀ b ∈ fp, ∃ o, s.heap.get? b = some o ∧ ∀ v, o.data ≠ .cell v) : Inv X (pins ++ pinsAt fp s.heap) σ H s :=
  I.pins_of fun p hp => (List.mem_append.mp hp).elim (fun z => I.pin p (List.mem_append_right _ z)) fun z => by
    obtain ⟨hb, e⟩ := of_pinsAt z
    obtain ⟨f0, f1, f2, _⟩ := hf p.1 hb
    obtain ⟨o, e', d⟩ := ho p.1 hb
    rw [e] at e'; cases e'
    exact ⟨e, f0, f1, f2, d⟩
theorem Inv.unpinned {pins pl : List (Addr × Obj)} {σ : St} {H : Hp} {s : Shared} (I : Inv X (pins ++ pl) σ H s) : Inv X pins σ H s := I.pins_of fun p hp => I.pin p (List.mem_append_right _ (List.mem_append_left _ hp))
theorem ps_for {iter : Expr} {body : List Stmt} {wi : TI} {g : TG} {tb : TS} {pos : Pos} (hp : PassesOwn (model X.prog X.w) X.A X.env X.xe) (hc : X.calm = true) (hi : PI X tg iter wi) (hg : PG X tg g) (hb : PSs X body tb)
    (hs : ∀ x, foldedSetIterable iter X.env x = pure x := by intro _; rfl) : PS X (.For tg iter body [] pos) (tFor wi g tb) := by
  intro pins s σ H D I h
  refine wpAny_For (thn (hi pins s σ H _ I h) fun v s1 h1 => thn h1 fun itv s2 h2 => ?_) hs
  obtain ⟨it, fp, tn, J, H2, e, I2, T, st2, f2, W, ⟨m0, w0⟩, turn⟩ := h2
  subst e
  -- what stays true of the iterator's objects through the loop
  have stat : ∀ {H' : Hp}, (∀ b ∈ fp, H' b = none) → ∀ b ∈ fp, FpOk X pins H' b := fun hn b hb => ⟨hn b hb, (f2 b hb).2⟩
  refine codeAny_forLoop_any (fun n s' => ∃ i σ' H', Inv X pins σ' H' s' ∧ tn i s'.heap ∧ (∀ b ∈ fp, H' b = none) ∧ W i n σ' H') ?_ m0 ⟨0, σ, H2, I2, st2, fun b hb => (f2 b hb).1, w0⟩
  rintro n s3 ⟨i, σ3, H3, I3, st3, fr3, w3⟩
  rcases turn i n σ3 H3 w3 with ⟨stop, qn⟩ | ⟨go, N, hN, step⟩
  · refine wpAny_passesOwn hp (thn (T.done X rfl rfl rfl hc i pins s3 σ3 H3 X.xe I3 (stat fr3) st3 stop) fun r s4 ⟨hr, I4⟩ => ?_)
    subst hr
    exact wpAny_execs_nil ⟨σ3, H3, I4, qn⟩
  · refine wpAny_passesOwn hp (thn (T.item X rfl rfl rfl hc i pins s3 σ3 H3 X.xe I3 (stat fr3) st3 go) fun r s4 ⟨u, hr, h4⟩ => ?_)
    subst hr
    refine wpAny_passesOwn hp (thn h4 fun _ s5 ⟨x, H5, I5, r5, y5, st5, fr5⟩ => ?_)
    have I5' := I5.pinned (stat fr5) (T.obj _ _ st5)
    refine wpAny_passesOwn hp (thn (hg _ s5 σ3 H5 x u _ I5' r5 (step x H5 y5)) fun _ s6 ⟨σ6, H6, I6, q6⟩ => ?_)
    refine wpAny_passesOwn hp (thn (hb _ s6 σ6 H6 _ I6 q6) fun f s7 q7 => ?_)
    have again : ∀ {σ7 : St} {H7 : Hp}, Inv X (pins ++ pinsAt fp s5.heap) σ7 H7 s7 → N σ7 H7 → ∃ m, m < n ∧ ∃ i σ' H', Inv X pins σ' H' s7 ∧ tn i s7.heap ∧ (∀ b ∈ fp, H' b = none) ∧ W i m σ' H' := fun {σ7 H7} I7 n7 => by
      obtain ⟨m', hm, w7⟩ := hN σ7 H7 n7
      refine ⟨m', hm, i + 1, σ7, H7, I7.unpinned, T.keep _ _ _ st5 fun b hb o e => (I7.pin (b, o) (List.mem_append_right _ (List.mem_append_right _ (mem_pinsAt hb e)))).1, fun b hb => ?_, w7⟩
      obtain ⟨o, e, d⟩ := T.obj _ _ st5 b hb
      exact (I7.pin (b, o) (List.mem_append_right _ (List.mem_append_right _ (mem_pinsAt hb e)))).2.1
    cases f with
    | next => obtain ⟨σ7, H7, I7, n7⟩ := q7; exact again I7 n7
    | cont => obtain ⟨σ7, H7, I7, n7⟩ := q7; exact again I7 n7
    | brk => obtain ⟨σ7, H7, I7, q7⟩ := q7; exact ⟨σ7, H7, I7.unpinned, q7⟩
    | ret v => obtain ⟨x7, σ7, H7, I7, r7, q7⟩ := q7; exact ⟨x7, σ7, H7, I7.unpinned, r7, q7⟩
end
theorem for_list {K : PySem.W.Frag} {a : Addr} {xs : List V} {g : TG} {tb : TS} {D : Ends} {σ : St} {H : Hp} (Pv : Nat → St → Hp → Prop) (h0 : Pv 0 σ H) (hl : ∀ i σ H, i ≤ xs.length → Pv i σ H → SqL K H a xs)
    (hs : ∀ i x σ H, xs[i]? = some x → Pv i σ H → g x σ H fun σ2 H2 => tb { D with nx := Pv (i + 1), ct := Pv (i + 1), bk := D.nx } σ2 H2) (hd : ∀ σ H, Pv xs.length σ H → D.nx σ H) :
    ∃ W : Nat → Nat → St → Hp → Prop, (∃ m, W 0 m σ H) ∧ ∀ i m σ H, W i m σ H →
      ((Itl K a).stop i H ∧ D.nx σ H) ∨ ((Itl K a).go i H ∧ ∃ N : St → Hp → Prop, (∀ σ' H', N σ' H' → ∃ m', m' < m ∧ W (i + 1) m' σ' H') ∧ ∀ x H', (Itl K a).yld i H x H' → g x σ H' fun σ2 H2 => tb { D with nx := N, ct := N, bk := D.nx } σ2 H2) := by
  refine ⟨fun i m σ H => m = xs.length - i ∧ i ≤ xs.length ∧ Pv i σ H, ⟨xs.length, by simp, Nat.zero_le _, h0⟩, ?_⟩
  rintro i m σ H ⟨rfl, hi, p⟩
  have q := hl i σ H hi p
  by_cases hlt : i < xs.length
  · refine .inr ⟨⟨xs, xs[i], q, by simp [hlt]⟩, Pv (i + 1), fun σ' H' p' => ⟨xs.length - (i + 1), by omega, rfl, hlt, p'⟩, fun x H' y => ?_⟩
    obtain ⟨e, y⟩ := y
    subst e
    exact hs i x σ _ (y xs q) p
  · have e : i = xs.length := by omega
    subst e
    exact .inl ⟨⟨xs, q, Nat.le_refl _⟩, hd σ H p⟩
theorem for_tup {K : PySem.W.Frag} {a : Addr} {xs : List V} {g : TG} {tb : TS} {D : Ends} {σ : St} {H : Hp} (Pv : Nat → St → Hp → Prop) (h0 : Pv 0 σ H) (hl : ∀ i σ H, i ≤ xs.length → Pv i σ H → SqT K H a xs)
    (hs : ∀ i x σ H, xs[i]? = some x → Pv i σ H → g x σ H fun σ2 H2 => tb { D with nx := Pv (i + 1), ct := Pv (i + 1), bk := D.nx } σ2 H2) (hd : ∀ σ H, Pv xs.length σ H → D.nx σ H) :
    ∃ W : Nat → Nat → St → Hp → Prop, (∃ m, W 0 m σ H) ∧ ∀ i m σ H, W i m σ H →
      ((Itt K a).stop i H ∧ D.nx σ H) ∨ ((Itt K a).go i H ∧ ∃ N : St → Hp → Prop, (∀ σ' H', N σ' H' → ∃ m', m' < m ∧ W (i + 1) m' σ' H') ∧ ∀ x H', (Itt K a).yld i H x H' → g x σ H' fun σ2 H2 => tb { D with nx := N, ct := N, bk := D.nx } σ2 H2) := by
  refine ⟨fun i m σ H => m = xs.length - i ∧ i ≤ xs.length ∧ Pv i σ H, ⟨xs.length, by simp, Nat.zero_le _, h0⟩, ?_⟩
  rintro i m σ H ⟨rfl, hi, p⟩
  have q := hl i σ H hi p
  by_cases hlt : i < xs.length
  · refine .inr ⟨⟨xs, xs[i], q, by simp [hlt]⟩, Pv (i + 1), fun σ' H' p' => ⟨xs.length - (i + 1), by omega, rfl, hlt, p'⟩, fun x H' y => ?_⟩
    obtain ⟨e, y⟩ := y
    subst e
    exact hs i x σ _ (y xs q) p
  · have e : i = xs.length := by omega
    subst e
    exact .inl ⟨⟨xs, q, Nat.le_refl _⟩, hd σ H p⟩
theorem for_range {lo : Int} {n : Nat} {g : TG} {tb : TS} {D : Ends} {σ : St} {H : Hp} (Pv : Nat → St → Hp → Prop) (h0 : Pv 0 σ H)
    (hs : ∀ i σ H, i < n → Pv i σ H → g (.int (lo + i)) σ H fun σ2 H2 => tb { D with nx := Pv (i + 1), ct := Pv (i + 1), bk := D.nx } σ2 H2) (hd : ∀ σ H, Pv n σ H → D.nx σ H) :
    ∃ W : Nat → Nat → St → Hp → Prop, (∃ m, W 0 m σ H) ∧ ∀ i m σ H, W i m σ H →
      ((Itr lo n).stop i H ∧ D.nx σ H) ∨ ((Itr lo n).go i H ∧ ∃ N : St → Hp → Prop, (∀ σ' H', N σ' H' → ∃ m', m' < m ∧ W (i + 1) m' σ' H') ∧ ∀ x H', (Itr lo n).yld i H x H' → g x σ H' fun σ2 H2 => tb { D with nx := N, ct := N, bk := D.nx } σ2 H2) := by
  refine ⟨fun i m σ H => m = n - i ∧ i ≤ n ∧ Pv i σ H, ⟨n, by simp, Nat.zero_le _, h0⟩, ?_⟩
  rintro i m σ H ⟨rfl, hi, p⟩
  by_cases hlt : i < n
  · refine .inr ⟨hlt, Pv (i + 1), fun σ' H' p' => ⟨n - (i + 1), by omega, rfl, hlt, p'⟩, fun x H' y => ?_⟩
    obtain ⟨e, y⟩ := y
    subst e y
    exact hs i σ _ hlt p
  · have e : i = n := by omega
    subst e
    exact .inl ⟨Nat.le_refl _, hd σ H p⟩
end L2
namespace L2
open PySem PySem.Spec PyProof.Rows
abbrev R2 := V → V → Hp → VK → Prop
def OpR (X : Cx) (f : Value → Value → Sem Value) (r : R2) : Prop :=
  ∀ (pins : List (Addr × Obj)) (s : Shared) (σ : St) (H : Hp) (x y : V) (v u : Value) (Q : VK), Inv X pins σ H s → RelV x v → RelV y u → r x y H Q →
    wpAny (model X.prog X.w) X.A (f v u) (EP X pins σ Q) X.xe s
def UnR (X : Cx) (f : Value → Sem Value) (r : V → Hp → VK → Prop) : Prop :=
  ∀ (pins : List (Addr × Obj)) (s : Shared) (σ : St) (H : Hp) (x : V) (v : Value) (Q : VK), Inv X pins σ H s → RelV x v → r x H Q →
    wpAny (model X.prog X.w) X.A (f v) (EP X pins σ Q) X.xe s
def CallR (X : Cx) (f : Value) (r : List V → Hp → VK → Prop) : Prop :=
  ∀ (pins : List (Addr × Obj)) (s : Shared) (σ : St) (H : Hp) (xs : List V) (us : List Value) (Q : VK), Inv X pins σ H s → Vals xs us → r xs H Q →
    wpAny (model X.prog X.w) X.A (call f us) (EP X pins σ Q) X.xe s
def TruR (X : Cx) (r : V → Hp → (Bool → Hp → Prop) → Prop) : Prop :=
  ∀ (pins : List (Addr × Obj)) (s : Shared) (σ : St) (H : Hp) (x : V) (v : Value) (Q : Bool → Hp → Prop), Inv X pins σ H s → RelV x v → r x H Q →
    wpAny (model X.prog X.w) X.A (truthy v) (TP X pins σ Q) X.xe s
def tOp (r : R2) (ta tb : TE) : TE := fun σ H Q => ta σ H fun x H1 => tb σ H1 fun y H2 => r x y H2 Q
def tUn (r : V → Hp → VK → Prop) (ta : TE) : TE := fun σ H Q => ta σ H fun x H1 => r x H1 Q
def rI (C : Int → Int → Prop) (g : Int → Int → V) : R2 := fun x y H Q => ∃ i j, x = .int i ∧ y = .int j ∧ C i j ∧ Q (g i j) H
def rI0 (g : Int → Int → V) : R2 := fun x y H Q => ∃ i j, x = .int i ∧ y = .int j ∧ Q (g i j) H
def rU (g : Int → V) : V → Hp → VK → Prop := fun x H Q => ∃ i, x = .int i ∧ Q (g i) H
section
variable {X : Cx} {a b c : Expr} {ta tb tc : TE} {pos : Pos}
theorem binT (ha : PE X a ta) (hb : PE X b tb) {pins : List (Addr × Obj)} {s : Shared} {σ : St} {H : Hp} {R : V → V → Hp → Prop} (I : Inv X pins σ H s)
    (h : ta σ H fun x H1 => tb σ H1 fun y H2 => R x y H2) {Q : Value → Shared → Prop} {f : Value → Value → Sem Value}
    (hf : ∀ v u s2 x y H2, Inv X pins σ H2 s2 → RelV x v → RelV y u → R x y H2 → wpAny (model X.prog X.w) X.A (f v u) Q X.xe s2) :
    wpAny (model X.prog X.w) X.A (eval a X.env) (fun v s₁ => wpAny (model X.prog X.w) X.A (eval b X.env) (fun u s₂ => wpAny (model X.prog X.w) X.A (f v u) Q X.xe s₂) X.xe s₁) X.xe s := by
  refine thn (ha pins s σ H _ I h) fun v s1 ⟨x, H1, I1, r1, q1⟩ => ?_
  refine thn (hb pins s1 σ H1 _ I1 q1) fun u s2 ⟨y, H2, I2, r2, q2⟩ => ?_
  exact hf v u s2 x y H2 I2 r1 r2 q2
theorem pe_op {op : Operator} {r : R2} (ho : OpR X (binaryOp op) r) (ha : PE X a ta) (hb : PE X b tb) : PE X (.BinOp a op b pos) (tOp r ta tb) := by
  intro pins s σ H Q I h
  exact wpAny_BinOp (binT ha hb I h fun v u s2 x y H2 I2 rx ry q => ho pins s2 σ H2 x y v u Q I2 rx ry q)
theorem pe_un {op : UnaryOp} {r : V → Hp → VK → Prop} (ho : UnR X (unaryOp op) r) (ha : PE X a ta) : PE X (.UnaryOp op a pos) (tUn r ta) := by
  intro pins s σ H Q I h
  exact UnaryOp_ (thn (ha pins s σ H _ I h) fun v s1 ⟨x, H1, I1, r1, q1⟩ => ho pins s1 σ H1 x v Q I1 r1 q1)
theorem opI {f : Value → Value → Sem Value} {C : Int → Int → Prop} {g : Int → Int → Int}
    (rule : ∀ (i j : Int) (t u : Tok) (s : Shared) (Q : Value → Shared → Prop) (E : Value → Shared → Prop), C i j → Q (.int (g i j) s.toks) { s with toks := s.toks + 1 } → wpAny (model X.prog X.w) X.A (f (.int i t) (.int j u)) Q E s) :
    OpR X f (rI C fun i j => .int (g i j)) := by
  intro pins s σ H x y v u Q I rx ry h
  obtain ⟨i, j, rfl, rfl, hc, q⟩ := h
  obtain ⟨t, rfl⟩ := rx
  obtain ⟨t', rfl⟩ := ry
  exact rule i j t t' s _ _ hc ⟨.int (g i j), H, I.tok _, ⟨_, rfl⟩, q⟩
theorem opI0 {f : Value → Value → Sem Value} {g : Int → Int → Int}
    (rule : ∀ (i j : Int) (t u : Tok) (s : Shared) (Q : Value → Shared → Prop) (E : Value → Shared → Prop), Q (.int (g i j) s.toks) { s with toks := s.toks + 1 } → wpAny (model X.prog X.w) X.A (f (.int i t) (.int j u)) Q E s) :
    OpR X f (rI0 fun i j => .int (g i j)) := by
  intro pins s σ H x y v u Q I rx ry h
  obtain ⟨i, j, rfl, rfl, q⟩ := h
  obtain ⟨t, rfl⟩ := rx
  obtain ⟨t', rfl⟩ := ry
  exact rule i j t t' s _ _ ⟨.int (g i j), H, I.tok _, ⟨_, rfl⟩, q⟩
theorem opB0 {f : Value → Value → Sem Value} {g : Int → Int → Bool}
    (rule : ∀ (i j : Int) (t u : Tok) (s : Shared) (Q : Value → Shared → Prop) (E : Value → Shared → Prop), Q (.bool (g i j)) s → wpAny (model X.prog X.w) X.A (f (.int i t) (.int j u)) Q E s) :
    OpR X f (rI0 fun i j => .bl (g i j)) := by
  intro pins s σ H x y v u Q I rx ry h
  obtain ⟨i, j, rfl, rfl, q⟩ := h
  obtain ⟨t, rfl⟩ := rx
  obtain ⟨t', rfl⟩ := ry
  exact rule i j t t' s _ _ ⟨.bl (g i j), H, I, rfl, q⟩
def CDiv (i j : Int) : Prop := 0 < j ∧ j < 1073741824
def CMul (i j : Int) : Prop := (-(2 ^ 64) < i ∧ i < 2 ^ 64) ∨ (-(2 ^ 64) < j ∧ j < 2 ^ 64)
theorem CMul.ok {i j : Int} (h : CMul i j) : IntMulOk i j := by
  rcases h with ⟨h1, h2⟩ | ⟨h1, h2⟩
  · exact .of_left (intBits_le_64 h1 h2)
  · exact .of_right (intBits_le_64 h1 h2)
theorem op_add : OpR X (binaryOp .Add) (rI0 fun i j => .int (i + j)) := opI0 fun _ _ _ _ _ _ _ q => add_int q
theorem op_sub : OpR X (binaryOp .Sub) (rI0 fun i j => .int (i - j)) := opI0 fun _ _ _ _ _ _ _ q => sub_int q
theorem op_mul : OpR X (binaryOp .Mult) (rI CMul fun i j => .int (i * j)) := opI fun _ _ _ _ _ _ _ hc q => mul_int q hc.ok
theorem op_fdiv : OpR X (binaryOp .FloorDiv) (rI CDiv fun i j => .int (i / j)) := opI fun i j _ _ _ _ _ hc q => by
  have h1 : (0 : Int) < j := hc.1
  have h2 : j < 1073741824 := hc.2
  exact floordiv_int (by omega) (by rw [Int.fdiv_eq_ediv_of_nonneg i (by omega)]; exact q) (.inl (PyProof.noPylong_small (by omega)))
theorem op_mod : OpR X (binaryOp .Mod) (rI (fun _ j => 0 < j) fun i j => .int (i % j)) := opI fun i j _ _ _ _ _ hc q => by
  have h1 : (0 : Int) < j := hc
  exact mod_int' (by omega) (by rw [Int.fmod_eq_emod_of_nonneg i (by omega)]; exact q)
theorem unI {f : Value → Sem Value} {g : Int → Int}
    (rule : ∀ (i : Int) (t : Tok) (s : Shared) (Q : Value → Shared → Prop) (E : Value → Shared → Prop), Q (.int (g i) s.toks) { s with toks := s.toks + 1 } → wpAny (model X.prog X.w) X.A (f (.int i t)) Q E s) :
    UnR X f (rU fun i => .int (g i)) := by
  intro pins s σ H x v Q I rx h
  obtain ⟨i, rfl, q⟩ := h
  obtain ⟨t, rfl⟩ := rx
  exact rule i t s _ _ ⟨.int (g i), H, I.tok _, ⟨_, rfl⟩, q⟩
theorem un_neg : UnR X (unaryOp .USub) (rU fun i => .int (-i)) := unI fun _ _ _ _ _ q => neg_int q
end
def scal : V → V → Bool
  | .non, .non => true | .non, .int _ => true | .int _, .non => true | .non, .bl _ => true | .bl _, .non => true | .non, .str _ => true | .str _, .non => true
  | .int _, .int _ => true | .bl _, .bl _ => true | .str _, .str _ => true | .byt _, .byt _ => true
  | .int _, .str _ => true | .str _, .int _ => true | .bl _, .str _ => true | .str _, .bl _ => true
  | _, _ => false
def rEq : R2 := fun x y H Q => scal x y = true ∧ Q (.bl (decide (x = y))) H
def rNe : R2 := fun x y H Q => scal x y = true ∧ Q (.bl (!decide (x = y))) H
theorem dec_int {i j : Int} : decide (V.int i = V.int j) = (i == j) := by
  rw [Bool.eq_iff_iff]
  simp
theorem dec_bl {i j : Bool} : decide (V.bl i = V.bl j) = (i == j) := by
  rw [Bool.eq_iff_iff]
  simp
theorem dec_str {i j : Str} : decide (V.str i = V.str j) = (i == j) := by
  rw [Bool.eq_iff_iff]
  simp
theorem dec_byt {i j : Array UInt8} : decide (V.byt i = V.byt j) = (i.toList == j.toList) := by
  rw [Bool.eq_iff_iff]
  cases i
  cases j
  simp
section
variable {X : Cx} {a b c : Expr} {ta tb tc : TE} {pos : Pos}
theorem fin_bl {pins : List (Addr × Obj)} {σ : St} {H : Hp} {s : Shared} {Q : VK} {k k' : Bool} (I : Inv X pins σ H s) (q : Q (.bl k) H) (e : k = k') : EP X pins σ Q (.bool k') s := by
  subst e
  exact ⟨.bl k, H, I, rfl, q⟩
theorem op_eq : OpR X (compareOp .Eq) rEq := by
  intro pins s σ H x y v u Q I rx ry h
  obtain ⟨hs, q⟩ := h
  cases x with
  | non =>
    cases rx
    cases y with
    | non => cases ry; exact PySem.EqNone.eq_none_none (fin_bl I q (by simp))
    | bl j => cases ry; exact PySem.EqNone.eq_none_bool (fin_bl I q (by simp))
    | int j => obtain ⟨t', rfl⟩ := ry; exact PySem.EqNone.eq_none_int (fin_bl I q (by simp))
    | str j => obtain ⟨t', rfl⟩ := ry; exact PySem.EqNone.eq_none_str (fin_bl I q (by simp))
    | _ => exact absurd (show false = true from hs) Bool.false_ne_true
  | bl i =>
    cases rx
    cases y with
    | non => cases ry; exact PySem.EqNone.eq_bool_none (fin_bl I q (by simp))
    | bl j => cases ry; exact eq_bool (fin_bl I q dec_bl)
    | str j => obtain ⟨t', rfl⟩ := ry; exact PySem.EqMixed.eq_bool_str (fin_bl I q (by simp))
    | _ => exact absurd (show false = true from hs) Bool.false_ne_true
  | int i =>
    obtain ⟨t, rfl⟩ := rx
    cases y with
    | non => cases ry; exact PySem.EqNone.eq_int_none (fin_bl I q (by simp))
    | int j => obtain ⟨t', rfl⟩ := ry; exact eq_int (fin_bl I q dec_int)
    | str j => obtain ⟨t', rfl⟩ := ry; exact PySem.EqMixed.eq_int_str (fin_bl I q (by simp))
    | _ => exact absurd (show false = true from hs) Bool.false_ne_true
  | str i =>
    obtain ⟨t, rfl⟩ := rx
    cases y with
    | non => cases ry; exact PySem.EqNone.eq_str_none (fin_bl I q (by simp))
    | bl j => cases ry; exact PySem.EqMixed.eq_str_bool (fin_bl I q (by simp))
    | int j => obtain ⟨t', rfl⟩ := ry; exact PySem.EqMixed.eq_str_int (fin_bl I q (by simp))
    | str j => obtain ⟨t', rfl⟩ := ry; exact eq_str (fin_bl I q dec_str)
    | _ => exact absurd (show false = true from hs) Bool.false_ne_true
  | byt i =>
    obtain ⟨t, rfl⟩ := rx
    cases y with
    | byt j => obtain ⟨t', rfl⟩ := ry; exact PySem.W.eq_bytes (fin_bl I q dec_byt)
    | _ => exact absurd (show false = true from hs) Bool.false_ne_true
  | _ => cases y <;> exact absurd (show false = true from hs) Bool.false_ne_true
theorem op_ne : OpR X (compareOp .NotEq) rNe := by
  intro pins s σ H x y v u Q I rx ry h
  obtain ⟨hs, q⟩ := h
  cases x with
  | non =>
    cases rx
    cases y with
    | non => cases ry; exact PySem.EqNone.ne_none_none (fin_bl I q (by simp))
    | bl j => cases ry; exact PySem.EqNone.ne_none_bool (fin_bl I q (by simp))
    | int j => obtain ⟨t', rfl⟩ := ry; exact PySem.EqNone.ne_none_int (fin_bl I q (by simp))
    | str j => obtain ⟨t', rfl⟩ := ry; exact PySem.EqNone.ne_none_str (fin_bl I q (by simp))
    | _ => exact absurd (show false = true from hs) Bool.false_ne_true
  | bl i =>
    cases rx
    cases y with
    | non => cases ry; exact PySem.EqNone.ne_bool_none (fin_bl I q (by simp))
    | bl j => cases ry; exact ne_bool (fin_bl I q (congrArg not dec_bl))
    | str j => obtain ⟨t', rfl⟩ := ry; exact PySem.EqMixed.ne_bool_str (fin_bl I q (by simp))
    | _ => exact absurd (show false = true from hs) Bool.false_ne_true
  | int i =>
    obtain ⟨t, rfl⟩ := rx
    cases y with
    | non => cases ry; exact PySem.EqNone.ne_int_none (fin_bl I q (by simp))
    | int j => obtain ⟨t', rfl⟩ := ry; exact ne_int (fin_bl I q (congrArg not dec_int))
    | str j => obtain ⟨t', rfl⟩ := ry; exact PySem.EqMixed.ne_int_str (fin_bl I q (by simp))
    | _ => exact absurd (show false = true from hs) Bool.false_ne_true
  | str i =>
    obtain ⟨t, rfl⟩ := rx
    cases y with
    | non => cases ry; exact PySem.EqNone.ne_str_none (fin_bl I q (by simp))
    | bl j => cases ry; exact PySem.EqMixed.ne_str_bool (fin_bl I q (by simp))
    | int j => obtain ⟨t', rfl⟩ := ry; exact PySem.EqMixed.ne_str_int (fin_bl I q (by simp))
    | str j => obtain ⟨t', rfl⟩ := ry; exact ne_str (fin_bl I q (congrArg not dec_str))
    | _ => exact absurd (show false = true from hs) Bool.false_ne_true
  | byt i =>
    obtain ⟨t, rfl⟩ := rx
    cases y with
    | byt j => obtain ⟨t', rfl⟩ := ry; exact PySem.W.ne_bytes (fin_bl I q (congrArg not dec_byt))
    | _ => exact absurd (show false = true from hs) Bool.false_ne_true
  | _ => cases y <;> exact absurd (show false = true from hs) Bool.false_ne_true
theorem op_lt : OpR X (compareOp .Lt) (rI0 fun i j => .bl (decide (i < j))) := opB0 fun _ _ _ _ _ _ _ q => lt_int q
theorem op_gt : OpR X (compareOp .Gt) (rI0 fun i j => .bl (decide (j < i))) := opB0 fun _ _ _ _ _ _ _ q => gt_int q
theorem op_notN : OpR X (compareOp .IsNot) (fun x y H Q => y = .non ∧ Q (.bl (!decide (x = .non))) H) := by
  intro pins s σ H x y v u Q I rx ry h
  obtain ⟨rfl, q⟩ := h
  cases ry
  refine isnot_none_gen (fin_bl I q ?_)
  cases x <;> first
    | (cases rx; rfl)
    | (obtain ⟨t, rfl⟩ := rx; rfl)
theorem nomark (b : Expr) {op : CmpOp} (h : op ≠ .In := by decide) (h2 : op ≠ .NotIn := by decide) : behindInMarks op b = false := by
  have e1 : (op == CmpOp.In) = false := by cases op <;> first | rfl | exact absurd rfl h
  have e2 : (op == CmpOp.NotIn) = false := by cases op <;> first | rfl | exact absurd rfl h2
  cases b <;> simp [behindInMarks, e1, e2]
theorem pe_cmpR {op : CmpOp} {r : R2} (ho : OpR X (compareOp op) r) (ha : PE X a ta) (hb : PE X b tb) (hm : behindInMarks op b = false) : PE X (.Compare a [op] [b] pos) (tOp r ta tb) := by
  intro pins s σ H Q I h
  exact wpAny_Compare1 (binT ha hb I h fun v u s2 x y H2 I2 rx ry q => ho pins s2 σ H2 x y v u Q I2 rx ry q) hm
def tTest (t : TE) : TT := fun σ H Q => t σ H fun x H' => ∃ k, x = .bl k ∧ Q k H'
theorem pt_cmpR {op : CmpOp} {r : R2} (ho : OpR X (compareOp op) r) (ha : PE X a ta) (hb : PE X b tb) (hm : behindInMarks op b = false) : PT X (.Compare a [op] [b] pos) (tTest (tOp r ta tb)) := by
  intro pins s σ H Q I h
  refine wpAny_isTrue_Compare1 (thn (ha pins s σ H _ I h) fun v s1 ⟨x, H1, I1, r1, q1⟩ => thn (hb pins s1 σ H1 _ I1 q1) fun u s2 ⟨y, H2, I2, r2, q2⟩ =>
    thn (ho pins s2 σ H2 x y v u _ I2 r1 r2 q2) fun c s3 ⟨z, H3, I3, r3, k, e, q3⟩ => ?_) hm
  subst e
  cases r3
  exact wpAny_truthy_bool ⟨H3, I3, q3⟩
def TruV (K : PySem.W.Frag) (x : V) (H : Hp) (k : Bool) : Prop :=
  match x with
  | .non => k = false
  | .bl b => k = b
  | .int i => k = (i != 0)
  | .str y => y.length ≤ sizeLine ∧ k = ((y.length : Int) != 0)
  | .byt y => y.size ≤ sizeLine ∧ k = ((y.size : Int) != 0)
  | .ref p => (∃ xs, SqL K H p xs ∧ k = !xs.isEmpty) ∨ (∃ xs, SqT K H p xs ∧ k = !xs.isEmpty) ∨ ∃ kvs, H p = some (.dK kvs) ∧ k = !kvs.isEmpty
  | _ => False
theorem isEmpty_kv {κ : Type} {kvs : List (κ × V)} {vs : List (κ × Value)} (r : KV kvs vs) : (!vs.isEmpty) = !kvs.isEmpty := by
  cases r <;> rfl
theorem isEmpty_of {xs : List V} {its : List Value} (r : Vals xs its) : (!its.toArray.isEmpty) = !xs.isEmpty := by
  cases r <;> simp
theorem line63 : (sizeLine : Nat) < 2 ^ 63 := by rw [sizeLine_eq]; decide
theorem tru_ok : TruR X (fun x H Q => ∃ k, TruV X.K x H k ∧ Q k H) := by
  intro pins s σ H x v Q I rx h
  obtain ⟨k, e, q⟩ := h
  have hl := line63
  have hs : sizeLine = 16777216 := sizeLine_eq
  cases x with
  | non =>
    cases rx
    have e' : k = false := e
    subst e'
    exact truthy_none ⟨H, I, q⟩
  | bl b =>
    cases rx
    have e' : k = b := e
    subst e'
    exact wpAny_truthy_bool ⟨H, I, q⟩
  | int i =>
    obtain ⟨t, rfl⟩ := rx
    have e' : k = (i != 0) := e
    subst e'
    exact PySem.P.truthy_int ⟨H, I, q⟩
  | str y =>
    obtain ⟨t, rfl⟩ := rx
    obtain ⟨hy, e'⟩ : y.length ≤ sizeLine ∧ k = ((y.length : Int) != 0) := e
    subst e'
    exact PySem.P.truthy_str (by omega) ⟨H, I.tok _, q⟩
  | byt y =>
    obtain ⟨t, rfl⟩ := rx
    obtain ⟨hy, e'⟩ : y.size ≤ sizeLine ∧ k = ((y.size : Int) != 0) := e
    subst e'
    exact PySem.W.truthy_bytes (by omega) ⟨H, I.tok _, q⟩
  | ref p =>
    cases rx
    have e' : (∃ xs, SqL X.K H p xs ∧ k = !xs.isEmpty) ∨ (∃ xs, SqT X.K H p xs ∧ k = !xs.isEmpty) ∨ ∃ kvs, H p = some (.dK kvs) ∧ k = !kvs.isEmpty := e
    rcases e' with ⟨xs, hx, e'⟩ | ⟨xs, hx, e'⟩ | ⟨kvs, hx, e'⟩
    · subst e'
      obtain ⟨its, r, pl, hz⟩ := I.list hx
      have hlen := r.length
      exact wpAny_truthy_list pl.isList (by simp only [List.size_toArray]; omega) ⟨H, I.tok _, by rw [isEmpty_of r]; exact q⟩
    · subst e'
      obtain ⟨its, r, pl, hz⟩ := I.tuple hx
      have hlen := r.length
      exact truthy_tuple pl (by simp only [List.size_toArray]; omega) ⟨H, I.tok _, by rw [isEmpty_of r]; exact q⟩
    · subst e'
      obtain ⟨hz, hS, vs, r, m⟩ : kvs.length ≤ sizeLine ∧ (p == sysModules) = false ∧ ∃ vs, KV kvs vs ∧ s.heap.DictOf (mixKind X.prog X.w) p vs := I.hok p _ hx
      have hlen : kvs.length = vs.length := Paired.length r
      exact wpAny_truthy_dict hS m (by omega) ⟨H, I.tok _, by rw [isEmpty_kv r]; exact q⟩
  | _ => exact (show False from e).elim
theorem pt_truth (ha : PE X a ta) (he : ∀ whole, isTrue a X.env whole = (do let v ← whole; standAt a.pos; holding [v] (truthy v))) :
    PT X a (fun σ H Q => ta σ H fun x H' => ∃ k, TruV X.K x H' k ∧ Q k H') := by
  intro pins s σ H Q I h
  exact isTrue_plain (thn (ha pins s σ H _ I h) fun v s1 ⟨x, H1, I1, r1, q1⟩ => tru_ok pins s1 σ H1 x v Q I1 r1 q1) (he _)
theorem vals1 {x : V} {us : List Value} (r : Vals [x] us) : ∃ u, us = [u] ∧ RelV x u := by
  cases r with
  | cons r1 r2 => cases r2; exact ⟨_, rfl, r1⟩
theorem vals2 {x y : V} {us : List Value} (r : Vals [x, y] us) : ∃ u w', us = [u, w'] ∧ RelV x u ∧ RelV y w' := by
  cases r with
  | cons r1 r2 =>
    cases r2 with
    | cons r3 r4 => cases r4; exact ⟨_, _, rfl, r1, r3⟩
theorem call_max2 (hc : X.calm = true) : CallR X (.builtin "max") (fun xs H Q => ∃ i j, xs = [.int i, .int j] ∧ Q (.int (if j > i then j else i)) H) := by
  intro pins s σ H xs us Q I r h
  obtain ⟨i, j, rfl, q⟩ := h
  obtain ⟨u, w', rfl, ⟨t, rfl⟩, ⟨t', rfl⟩⟩ := vals2 r
  refine max_two_ints (I.ok.hd hc) fun h' tk k => ⟨_, H, I.kept k, ?_, q⟩
  by_cases hj : j > i
  · rw [if_pos hj, if_pos hj]; exact ⟨_, rfl⟩
  · rw [if_neg hj, if_neg hj]; exact ⟨_, rfl⟩
theorem call_min2 (hc : X.calm = true) : CallR X (.builtin "min") (fun xs H Q => ∃ i j, xs = [.int i, .int j] ∧ Q (.int (if j < i then j else i)) H) := by
  intro pins s σ H xs us Q I r h
  obtain ⟨i, j, rfl, q⟩ := h
  obtain ⟨u, w', rfl, ⟨t, rfl⟩, ⟨t', rfl⟩⟩ := vals2 r
  refine min_two_ints (I.ok.hd hc) fun h' tk k => ⟨_, H, I.kept k, ?_, q⟩
  by_cases hj : j < i
  · rw [if_pos hj, if_pos hj]; exact ⟨_, rfl⟩
  · rw [if_neg hj, if_neg hj]; exact ⟨_, rfl⟩
end
end L2
namespace L2
open PySem PySem.Spec PyProof.Rows
structure ObjM (h : Heap) (x dx C : Addr) (mA : Str → Option Value) : Prop where
  obj : h.get? x = some (PySem.W.instObj C dx)
  ns : h.Ns1 dx mA
  ne : dx ≠ x
theorem lookIn_ns {h : Heap} {dx : Addr} {mA : Str → Option Value} (n : h.Ns1 dx mA) : ∃ od, h.get? dx = some od ∧ ∀ name, PySem.W.lookIn name od = some (mA name) := by
  obtain ⟨o, es, ep, ho, hd, hk, _, hm⟩ := n
  refine ⟨o, ho, fun name => ?_⟩
  have e := hm name
  unfold nsFind findBy at e
  rw [← Array.find?_toList] at e
  unfold PySem.W.lookIn
  rw [hd]
  dsimp only
  split
  · rename_i y q
    rw [q] at e
    exact congrArg some e
  · rename_i q
    rw [q] at e
    have a : es.toList.any (·.refKey) = false := by
      rw [List.any_eq_false]
      intro y hy
      obtain ⟨z, t, hkey⟩ := hk y (Array.mem_toList_iff.mp hy)
      simp [DictEntry.refKey, hkey]
    have a' : ¬ es.toList.any (·.refKey) = true := by rw [a]; exact Bool.false_ne_true
    rw [if_neg a']
    exact congrArg some e
theorem ObjM.look {h : Heap} {x dx C : Addr} {mA : Str → Option Value} (I : ObjM h x dx C mA) : ∃ od, PySem.W.InstAt h x (PySem.W.instObj C dx) C (some od) ∧ ∀ name, PySem.W.lookIn name od = some (mA name) :=
  let ⟨od, ho, hl⟩ := lookIn_ns I.ns
  ⟨od, ⟨I.obj, rfl, rfl, ho⟩, hl⟩
section
variable {prog : Program} {w : World} {A : Around} {E : Value → Shared → Prop} {s : Shared} {K : PySem.W.Frag} {x dx C f : Addr} {mA : Str → Option Value} {name : Str} {v : Value}
theorem get_map {expr : Bool} {Q : Value → Shared → Prop} (X : K.In s.heap) (I : ObjM s.heap x dx C mA) (hg : PySem.W.plainGet K C name = true) (hh : PySem.W.hasDictIn K C = true)
    (ha : PySem.W.findIn K (.ref C) name = some none) (hv : mA name = some v) (hv' : PySem.W.handedIn v = true) (h : Q v { s with toks := s.toks + 1 }) :
    wpAny (model prog w) A (getAttr (.ref x) name expr) Q E s := by
  obtain ⟨od, J, hl⟩ := I.look
  exact PySem.W.get_value X J (PySem.W.plainGet_of hg).1 (PySem.W.findObj_own hh ha rfl (by rw [hl, hv])) hv' h
theorem get_meth {pl : Sem Bool} {Q : Value × List Value → Shared → Prop} (X : K.In s.heap) (I : ObjM s.heap x dx C mA) (hg : PySem.W.plainGet K C name = true)
    (hf : PySem.W.findIn K (.ref C) name = some (some (.ref f))) (ht : PySem.W.isFn K (.ref f) = true) (hv : mA name = none) (h : Q (.ref f, [.ref x]) s) :
    wpAny (model prog w) A (getMethod (.ref x) name pl) Q E s := by
  obtain ⟨od, J, hl⟩ := I.look
  exact PySem.W.method_fn X J (PySem.W.plainGet_of hg).1 (PySem.W.plainGet_of hg).2 hf (beq_iff_eq.mp ht) (by show (PySem.W.lookIn name od).map (·.isSome) = some false; rw [hl, hv]; rfl) h
theorem set_map {ns : List Str} {Q : Unit → Shared → Prop} (X : K.In s.heap) (I : ObjM s.heap x dx C mA)
    (hs : PySem.W.findIn K (.ref C) "__setattr__" = some (some (.builtin "object.__setattr__"))) (hp : PySem.W.plainOver K C = true) (ht : PySem.W.takerIn K C name = some none) (hh : PySem.W.hasDictIn K C = true)
    (hw : PySem.Within mA ns) (hsz : ns.length ≤ sizeLine)
    (h : ∀ h', ObjM h' x dx C (fun y => if y = name then some v else mA y) → Heap.SameBut dx s.heap h' → Q () { s with heap := h', toks := s.toks + 2 }) :
    wpAny (model prog w) A (setAttr (.ref x) name v) Q E s := by
  obtain ⟨od, J, hl⟩ := I.look
  refine PySem.W.set_plain X J hs (PySem.W.osa_open (s := { s with toks := s.toks + 1 }) (r := none) X J hp ht fun b => ?_)
  obtain ⟨cd, hc, hd'⟩ := PySem.W.any_some hh
  have hx : s.heap.get? x = some ⟨.ref C, some dx, .plain, #[]⟩ := I.obj
  refine wpAny_bind (wpAny_pure (wpAny_bind (wpAny_bind (wpAny_loadPart hx (wpAny_bind (PySem.W.Looks.here (s := { s with toks := s.toks + 1 }) (PySem.W.looks_clsIn X hc) ?_))))))
  rw [hd']
  refine wpAny_pure (a := some dx) (wpAny_bind (wpAny_pure (wpAny_bind ?_)))
  refine wpAny_nsSet1 (s := { s with toks := s.toks + 1 }) I.ns fun h' hn2 hs2 => ?_
  obtain ⟨oD, esD, epD, hoD, hdD, hcD⟩ := hn2.count (PySem.Within.cons name v hw)
  refine wpAny_bind (wpAny_lookBehind hoD (by rw [hdD]; exact pastItsLine_dict (Nat.le_trans hcD (by rw [List.length_cons]; omega))) ?_)
  exact wpAny_pure (h _ ⟨(hs2.2 _ (Ne.symm I.ne)).trans I.obj, hn2, I.ne⟩ hs2)
theorem make_map {R : Result → Shared → Prop} {vs : List Value} {kw : List (Str × Value)} (X : K.In s.heap) (hm : PySem.W.makesIn K C = true)
    (hi : PySem.W.findIn K (.ref C) "__init__" = some (some (.ref f))) (hf : PySem.W.typeIn K (.ref f) = some (.type "function"))
    (h : codeAny (model prog w) (A.under (.builtin "type.__call__" ⟨.ref C :: vs, kw⟩)) (.call (.ref f) ⟨.ref (s.heap.objs.size + 1) :: vs, kw⟩) (PySem.W.InitBack (s.heap.objs.size + 1) R)
      { s with heap := (s.heap.push PySem.W.emptyDict).push (PySem.W.instObj C s.heap.objs.size) }) :
    codeAny (model prog w) A (.call (.ref C) ⟨vs, kw⟩) R s := by
  obtain ⟨hh, g, d, t, os⟩ := s
  exact PySem.W.make_core (PySem.W.makes_of X hm) (PySem.W.looks_findIn X hi) (fun self => PySem.W.bind_fn X self hf) (.inl rfl) h
end
def putF (f : Str) (v : V) : List (Str × V) → List (Str × V)
  | [] => [(f, v)]
  | (g, x) :: r => if g = f then (g, v) :: r else (g, x) :: putF f v r
theorem lookup_putF (f g : Str) (v : V) : ∀ fs : List (Str × V), (putF f v fs).lookup g = if g = f then some v else fs.lookup g
  | [] => by
    show List.lookup g [(f, v)] = _
    by_cases h : g = f
    · have hb : (g == f) = true := beq_iff_eq.mpr h
      simp only [List.lookup, hb, if_pos h]
    · have hb : (g == f) = false := beq_eq_false_iff_ne.mpr h
      simp only [List.lookup, hb, if_neg h]
  | (k, x) :: r => by
    have ih := lookup_putF f g v r
    rw [show putF f v ((k, x) :: r) = (if k = f then (k, v) :: r else (k, x) :: putF f v r) from rfl]
    by_cases hk : k = f
    · rw [if_pos hk]
      by_cases h : g = k
      · have hb : (g == k) = true := beq_iff_eq.mpr h
        simp only [List.lookup, hb, if_pos (h.trans hk)]
      · have hb : (g == k) = false := beq_eq_false_iff_ne.mpr h
        simp only [List.lookup, hb, if_neg (fun e : g = f => h (e.trans hk.symm))]
    · rw [if_neg hk]
      by_cases h : g = k
      · have hb : (g == k) = true := beq_iff_eq.mpr h
        simp only [List.lookup, hb, if_neg (fun e : g = f => hk (h.symm.trans e))]
      · have hb : (g == k) = false := beq_eq_false_iff_ne.mpr h
        simp only [List.lookup, hb]
        exact ih
theorem keys_putF (f : Str) (v : V) : ∀ fs : List (Str × V), f ∈ (putF f v fs).map (·.1) ∧ ∀ g, g ∈ fs.map (·.1) → g ∈ (putF f v fs).map (·.1)
  | [] => ⟨by simp [putF], fun g h => by simp at h⟩
  | (k, x) :: r => by
    obtain ⟨i1, i2⟩ := keys_putF f v r
    rw [show putF f v ((k, x) :: r) = (if k = f then (k, v) :: r else (k, x) :: putF f v r) from rfl]
    by_cases hk : k = f
    · rw [if_pos hk]
      subst hk
      exact ⟨by simp, fun g h => by simpa using h⟩
    · rw [if_neg hk]
      refine ⟨?_, fun g h => ?_⟩
      · rw [List.map_cons]
        exact List.mem_cons_of_mem _ i1
      · rw [List.map_cons] at h ⊢
        rcases List.mem_cons.mp h with e | e
        · exact List.mem_cons.mpr (.inl e)
        · exact List.mem_cons_of_mem _ (i2 g e)
theorem length_putF (f : Str) (v : V) : ∀ fs : List (Str × V), (putF f v fs).length ≤ fs.length + 1
  | [] => by simp [putF]
  | (k, x) :: r => by
    have ih := length_putF f v r
    rw [show putF f v ((k, x) :: r) = (if k = f then (k, v) :: r else (k, x) :: putF f v r) from rfl]
    by_cases hk : k = f
    · rw [if_pos hk, List.length_cons, List.length_cons]; omega
    · rw [if_neg hk, List.length_cons, List.length_cons]; omega
theorem RelO.some_of {v : V} {o : Option Value} (r : RelO (some v) o) : ∃ u, o = some u ∧ RelV v u := by
  cases o with
  | none => exact (show False from r).elim
  | some u => exact ⟨u, rfl, r⟩
theorem RelO.none_of {o : Option Value} (r : RelO none o) : o = none := by
  cases o with
  | none => rfl
  | some u => exact (show False from r).elim
theorem handed_of {v : V} {u : Value} (r : RelV v u) : PySem.W.handedIn u = true := by
  cases v with
  | non => cases (show u = Value.none from r); rfl
  | bl b => cases (show u = Value.bool b from r); rfl
  | int i => obtain ⟨t, e⟩ := (show ∃ t, u = Value.int i t from r); cases e; rfl
  | str x => obtain ⟨t, e⟩ := (show ∃ t, u = Value.str x t from r); cases e; rfl
  | byt b => obtain ⟨t, e⟩ := (show ∃ t, u = Value.bytes b t from r); cases e; rfl
  | flt b => obtain ⟨t, e⟩ := (show ∃ t, u = Value.float b t from r); cases e; rfl
  | ref a => cases (show u = Value.ref a from r); rfl
  | ty n => cases (show u = Value.type n from r); rfl
section
variable {P : Program} {w : World} {H H' : Hp} {h h' : Heap} {a C dx : Addr} {fs fs' : List (Str × V)}
theorem ins_get (hok : HOk P w H h) (e : H a = some (.ins C dx fs)) : ∃ mA, ObjM h a dx C mA ∧ (∀ f, RelO (fs.lookup f) (mA f)) ∧ PySem.Within mA (fs.map (·.1)) ∧ fs.length ≤ 1000 ∧ H dx = some (.own a) := by
  obtain ⟨d, z, ne, ob, mA, n, r, q⟩ := (show ObjOk P w H h a (.ins C dx fs) from hok a _ e)
  exact ⟨mA, ⟨ob, n, ne⟩, r, q, z, d⟩
end
structure Cls (K : PySem.W.Frag) (C : Addr) : Prop where
  pg : PySem.W.plainGet K C Str.empty = true
  hd : PySem.W.hasDictIn K C = true
  po : PySem.W.plainOver K C = true
  sa : PySem.W.findIn K (.ref C) "__setattr__" = some (some (.builtin "object.__setattr__"))
theorem Cls.get {K : PySem.W.Frag} {C : Addr} (c : Cls K C) (f : Str) : PySem.W.plainGet K C f = true := c.pg
def NoAttr (K : PySem.W.Frag) (C : Addr) (f : Str) : Prop := PySem.W.findIn K (.ref C) f = some none
theorem NoAttr.taker {K : PySem.W.Frag} {C : Addr} {f : Str} (n : NoAttr K C f) : PySem.W.takerIn K C f = some none := by
  unfold PySem.W.takerIn
  rw [show PySem.W.findIn K (.ref C) f = some none from n]
  rfl
structure Con (K : PySem.W.Frag) (C : Addr) (f : Str) (v : V) (u : Value) : Prop where
  at_ : PySem.W.findIn K (.ref C) f = some (some u)
  rel : RelV v u
  get : PySem.W.specialIn K u "__get__" = some none
  cp : PySem.W.copiedNames.contains f = false
structure Meth (K : PySem.W.Frag) (C : Addr) (m : Str) (f : Addr) : Prop where
  at_ : PySem.W.findIn K (.ref C) m = some (some (.ref f))
  fn : PySem.W.isFn K (.ref f) = true
  kp : PySem.W.keepIn K (.ref f) = true
section
variable {X : Cx} {pins : List (Addr × Obj)} {σ : St} {H : Hp} {s : Shared} {a C dx : Addr} {fs : List (Str × V)} {f : Str} {v : V} {A : Around} {E : Value → Shared → Prop}
theorem getattr_ok {b : Bool} {Q : Value → Shared → Prop} (I : Inv X pins σ H s) (e : H a = some (.ins C dx fs)) (c : Cls X.K C) (n : NoAttr X.K C f) (l : fs.lookup f = some v)
    (h : ∀ u s', Inv X pins σ H s' → RelV v u → Q u s') : wpAny (model X.prog X.w) A (getAttr (.ref a) f b) Q E s := by
  obtain ⟨mA, O, r, _, _, _⟩ := ins_get I.hok e
  obtain ⟨u, hu, ru⟩ := RelO.some_of (v := v) (o := mA f) (by rw [← l]; exact r f)
  exact get_map I.kIn O (c.get f) c.hd n hu (handed_of ru) (h u _ (I.tok _) ru)
theorem getmeth_ok {m : Str} {g : Addr} {pl : Sem Bool} {Q : Value × List Value → Shared → Prop} (I : Inv X pins σ H s) (e : H a = some (.ins C dx fs)) (c : Cls X.K C) (k : Meth X.K C m g) (l : fs.lookup m = none)
    (h : Q (.ref g, [.ref a]) s) : wpAny (model X.prog X.w) A (getMethod (.ref a) m pl) Q E s := by
  obtain ⟨mA, O, r, _, _, _⟩ := ins_get I.hok e
  have hn : mA m = none := RelO.none_of (by rw [← l]; exact r m)
  exact get_meth I.kIn O (c.get m) k.at_ k.fn hn h
theorem setattr_ok {y : V} {u : Value} {Q : Unit → Shared → Prop} (I : Inv X pins σ H s) (e : H a = some (.ins C dx fs)) (c : Cls X.K C) (n : NoAttr X.K C f) (hl : fs.length < 1000) (ry : RelV y u)
    (h : ∀ s', Inv X pins σ (upd H a (.ins C dx (putF f y fs))) s' → Q () s') : wpAny (model X.prog X.w) A (setAttr (.ref a) f u) Q E s := by
  obtain ⟨mA, O, r, wi, _, ho⟩ := ins_get I.hok e
  have hz : (fs.map (·.1)).length ≤ sizeLine := by rw [List.length_map, sizeLine_eq]; omega
  refine set_map I.kIn O c.sa c.po n.taker c.hd wi hz fun h' O' sb => h _ ?_
  have hd : ∃ o, h'.get? dx = some o := let ⟨o, _, _, e', _⟩ := O'.ns; ⟨o, e'⟩
  refine I.write (x := a) (e := dx) (by rw [e]; exact True.intro) (.inr ho) (fun b q hb z => (sb.2 b hb).trans z) hd ?_
  refine ⟨by rw [upd_ne O.ne]; exact ho, ?_, O.ne, O'.obj, _, O'.ns, fun g => ?_, fun g hg => ?_⟩
  · have := length_putF f y fs; omega
  · show RelO ((putF f y fs).lookup g) (if g = f then some u else mA g)
    rw [lookup_putF]
    by_cases q : g = f
    · rw [if_pos q, if_pos q]; exact ry
    · rw [if_neg q, if_neg q]; exact r g
  · by_cases q : g = f
    · rw [q]; exact (keys_putF f y fs).1
    · refine (keys_putF f y fs).2 g (wi g fun z => hg ?_)
      show (if g = f then some u else mA g) = none
      rw [if_neg q]; exact z
theorem Inv.made (I : Inv X pins σ H s) : Inv X pins σ (upd (upd H s.heap.objs.size (.own (s.heap.objs.size + 1))) (s.heap.objs.size + 1) (.ins C s.heap.objs.size []))
    { s with heap := (s.heap.push PySem.W.emptyDict).push (PySem.W.instObj C s.heap.objs.size) } := by
  have e1 : (s.heap.push PySem.W.emptyDict).get? s.heap.objs.size = some PySem.W.emptyDict := Heap.get?_push_size s.heap rfl
  have e2 : ((s.heap.push PySem.W.emptyDict).push (PySem.W.instObj C s.heap.objs.size)).get? (s.heap.objs.size + 1) = some (PySem.W.instObj C s.heap.objs.size) := by
    have := Heap.get?_push_size (s.heap.push PySem.W.emptyDict) (o := PySem.W.instObj C s.heap.objs.size) rfl
    rwa [Heap.size_push] at this
  have e3 : (s.heap.push PySem.W.emptyDict).Ns s.heap.objs.size (fun _ => none) := ⟨PySem.W.emptyDict, #[], _, e1, rfl, (fun e he => absurd he (by simp)), fun _ => rfl⟩
  have I1 := I.laid (a := s.heap.objs.size) (o := .own (s.heap.objs.size + 1)) (h' := s.heap.push PySem.W.emptyDict) (t' := s.toks) (fun b u q => Heap.get?_push_of_some _ q) (Nat.le_refl _) ⟨_, e1⟩
  refine I1.laid (a := s.heap.objs.size + 1) (o := .ins C s.heap.objs.size []) (t' := s.toks) (fun b u q => Heap.get?_push_of_some _ q) (Nat.le_of_eq (Heap.size_push _ _)) ?_
  have ne : s.heap.objs.size ≠ s.heap.objs.size + 1 := Nat.ne_of_lt (Nat.lt_succ_self _)
  refine ⟨by rw [upd_ne ne, upd_same], Nat.zero_le _, ne, e2, fun _ => none, (Heap.Ns1.of_empty e3).at fun o q => Heap.get?_push_of_some _ q, fun _ => True.intro, fun y hy => absurd rfl hy⟩
theorem attr_of {prog : Program} {w : World} {env : Env} {e : Expr} {f : Str} {pos : Pos} {s : Shared} {Q : Value → Shared → Prop} (hb : attributeBase e f env (eval e env) = eval e env)
    (h : wpAny (model prog w) A (eval e env) (fun o s₁ => wpAny (model prog w) A (getAttr o f true) Q E s₁) E s) : wpAny (model prog w) A (eval (.Attribute e f pos) env) Q E s :=
  Attribute_any_ h (by rw [arm_eval_Attribute, hb])
end
def tFld (K : PySem.W.Frag) (ta : TE) (f : Str) : TE := fun σ H Q => ta σ H fun x H1 => ∃ a C dx fs v, x = .ref a ∧ H1 a = some (.ins C dx fs) ∧ Cls K C ∧ NoAttr K C f ∧ fs.lookup f = some v ∧ Q v H1
def sFld (K : PySem.W.Frag) (ta tv : TE) (f : Str) : TS := fun D σ H => tv σ H fun y H1 => ta σ H1 fun x H2 => ∃ a C dx fs, x = .ref a ∧ H2 a = some (.ins C dx fs) ∧ Cls K C ∧ NoAttr K C f ∧ fs.length < 1000 ∧
  D.nx σ (upd H2 a (.ins C dx (putF f y fs)))
section
variable {X : Cx} {o e value : Expr} {f : Str} {pos pos' tpos : Pos} {ta tv : TE}
theorem pe_fld (he : PE X e ta) (hb : attributeBase e f X.env (eval e X.env) = eval e X.env) : PE X (.Attribute e f pos) (tFld X.K ta f) := by
  intro pins s σ H Q I h
  refine attr_of hb (thn (he pins s σ H _ I h) fun u s1 ⟨x, H1, I1, rx, a, C, dx, fs, v, ex, ea, c, n, l, q⟩ => ?_)
  subst ex
  obtain rfl : u = Value.ref a := rx
  exact getattr_ok I1 ea c n l fun u' s2 I2 ru => ⟨v, H1, I2, ru, q⟩
theorem ps_fld (ha : PE X o ta) (hv : PE X value tv) (hs : swapsWith value (some (.Attribute o f pos')) pos.line X.env = pure false) : PS X (.Assign [.Attribute o f pos'] value pos) (sFld X.K ta tv f) := by
  intro pins s σ H D I h
  refine plainObj_wpAny_Assign_Attribute (thn (hv pins s σ H _ I h) fun u s1 ⟨y, H1, I1, ry, q⟩ => thn (ha pins s1 σ H1 _ I1 q) fun ov s2 ⟨x, H2, I2, rx, a, C, dx, fs, ex, ea, c, n, l, q2⟩ => ?_) hs
  subst ex
  obtain rfl : ov = Value.ref a := rx
  exact setattr_ok I2 ea c n l ry fun s3 I3 => ⟨σ, _, I3, q2⟩
end
section
variable {X : Cx} {pins : List (Addr × Obj)} {σ : St} {H : Hp} {s : Shared} {A : Around} {E : Value → Shared → Prop} {Q : Value → Shared → Prop} {c : Value} {b : Bool}
inductive TyOf (K : PySem.W.Frag) (H : Hp) : V → Value → Prop where
  | non : TyOf K H .non (.type "NoneType")
  | bl (x : Bool) : TyOf K H (.bl x) (.type "bool")
  | int (i : Int) : TyOf K H (.int i) (.type "int")
  | str (x : Str) : TyOf K H (.str x) (.type "str")
  | flt (x : UInt64) : TyOf K H (.flt x) (.type "float")
  | lst {a : Addr} {xs : List V} (e : H a = some (.lst xs)) : TyOf K H (.ref a) (.type "list")
  | frz {a : Addr} {o : Obj} {xs : List V} (e : H a = some (.frz o (.lst xs))) : TyOf K H (.ref a) (.type "list")
  | tup {a : Addr} {xs : List V} (e : H a = some (.tup xs)) : TyOf K H (.ref a) (.type "tuple")
  | dK {a : Addr} {kvs : List (Key × V)} (e : H a = some (.dK kvs)) : TyOf K H (.ref a) (.type "dict")
  | dT {a : Addr} {kvs : List (List Key × V)} (e : H a = some (.dT kvs)) : TyOf K H (.ref a) (.type "dict")
  | ins {a C dx : Addr} {fs : List (Str × V)} (e : H a = some (.ins C dx fs)) (cl : Cls K C) (ha : PySem.W.findIn K (.ref C) "__class__" = some (some (.builtin "object.__class__")))
      (hn : PySem.W.specialIn K (.builtin "object.__class__") "__get__" = some (some (.builtin "getset_descriptor.__get__"))) (htk : PySem.W.takesIn K (.builtin "object.__class__") = some true)
      (hm : PySem.W.mroIn K C (.type "object") = some true) : TyOf K H (.ref a) (.ref C)
theorem isinst_ok {x : V} {u t : Value} (I : Inv X pins σ H s) (rx : RelV x u) (ty : TyOf X.K H x t) (e : PySem.W.kitOne X.K t c = some b) (h : ∀ tk, Q (.bool b) { s with toks := tk }) :
    wpAny (model X.prog X.w) A (call (.builtin "isinstance") [u, c]) Q E s := by
  cases ty with
  | non => cases (show u = Value.none from rx); exact PySem.W.kia_one PySem.W.kitx_none I.kIn True.intro e (fun z => nomatch z) h
  | bl y => cases (show u = Value.bool y from rx); exact PySem.W.kia_one PySem.W.kitx_bool I.kIn True.intro e (fun z => nomatch z) h
  | int i => obtain ⟨t, q⟩ := (show ∃ t, u = Value.int i t from rx); cases q; exact PySem.W.kia_one PySem.W.kitx_int I.kIn True.intro e (fun z => nomatch z) h
  | str y => obtain ⟨t, q⟩ := (show ∃ t, u = Value.str y t from rx); cases q; exact PySem.W.kia_one PySem.W.kitx_str I.kIn True.intro e (fun z => nomatch z) h
  | flt y => obtain ⟨t, q⟩ := (show ∃ t, u = Value.float y t from rx); cases q; exact PySem.W.kia_one PySem.W.kitx_float I.kIn True.intro e (fun z => nomatch z) h
  | @lst a xs ea =>
    cases (show u = Value.ref a from rx)
    obtain ⟨_, _, n, _, h1⟩ := (show ObjOk X.prog X.w H s.heap a (.lst xs) from I.hok a _ ea)
    exact PySem.W.kia_one PySem.W.kitx_list I.kIn ⟨_, h1, rfl⟩ e (fun z => nomatch z) h
  | @frz a ob xs ea =>
    cases (show u = Value.ref a from rx)
    obtain ⟨_, _, _, n, _, h1⟩ := (show ObjOk X.prog X.w H s.heap a (.frz ob (.lst xs)) from I.hok a _ ea)
    exact PySem.W.kia_one PySem.W.kitx_list I.kIn ⟨_, h1, rfl⟩ e (fun z => nomatch z) h
  | @tup a xs ea =>
    cases (show u = Value.ref a from rx)
    obtain ⟨_, _, _, p⟩ := (show ObjOk X.prog X.w H s.heap a (.tup xs) from I.hok a _ ea)
    obtain ⟨o, h1, h2, _⟩ := p
    exact PySem.W.kia_one PySem.W.kitx_tuple I.kIn ⟨o, h1, h2⟩ e (fun z => nomatch z) h
  | @dK a kvs ea =>
    cases (show u = Value.ref a from rx)
    obtain ⟨_, _, vs, _, p⟩ := (show ObjOk X.prog X.w H s.heap a (.dK kvs) from I.hok a _ ea)
    obtain ⟨o, es, ep, h1, h2, _⟩ := p
    exact PySem.W.kia_one PySem.W.kitx_dict I.kIn ⟨o, h1, h2.1⟩ e (fun z => nomatch z) h
  | @dT a kvs ea =>
    cases (show u = Value.ref a from rx)
    obtain ⟨_, _, xs, _, o, es, ep, h1, h2, _⟩ := (show ObjOk X.prog X.w H s.heap a (.dT kvs) from I.hok a _ ea)
    exact PySem.W.kia_one PySem.W.kitx_dict I.kIn ⟨o, h1, h2.1⟩ e (fun z => nomatch z) h
  | @ins a C dx fs ea cl ha hn htk hm =>
    cases (show u = Value.ref a from rx)
    obtain ⟨mA, O, _⟩ := ins_get I.hok ea
    obtain ⟨od, J, _⟩ := O.look
    exact PySem.W.kia_one (PySem.W.kitx_own (cl.get _) cl.hd ha hn htk hm) I.kIn J e (fun z => nomatch z) h
end
end L2
namespace L2
open PySem PySem.Spec PyProof.Rows
structure Room (k : Nat) (A : Around) : Prop where
  hd : A.handled = none
  dp : A.depth + 3 * k + 5 < recursionLimit
  un : A.units + 16 * k + 200 < cLine
theorem Room.mono {j k : Nat} {A : Around} (r : Room k A) (h : j ≤ k) : Room j A := ⟨r.hd, by have := r.dp; omega, by have := r.un; omega⟩
theorem Room.deeper {k : Nat} {A : Around} (r : Room (k + 1) A) (env : Env) : Room k (A.deeper env) :=
  ⟨r.hd, by have := r.dp; show A.depth + 1 + 3 * k + 5 < _; omega, by have := r.un; show A.units + 3 + 16 * k + 200 < _; omega⟩
theorem make_depth {A : Around} {C : Addr} {us : List Value} {kw : List (Str × Value)} : (A.under (.builtin "type.__call__" ⟨.ref C :: us, kw⟩)).depth = A.depth + 1 := by
  first | rfl | simp [Around.under, Code.weight, Code.isCreation, Code.isGuard, Code.isCaller, Code.frames, Code.isFrame, guardIds]
theorem make_units {A : Around} {C : Addr} {us : List Value} {kw : List (Str × Value)} : (A.under (.builtin "type.__call__" ⟨.ref C :: us, kw⟩)).units = A.units + 1 := by
  first | rfl | simp [Around.under, Code.cUnits, Code.frames, Code.isFrame]
theorem Room.make {k : Nat} {A : Around} (r : Room (k + 1) A) (C : Addr) (us : List Value) (kw : List (Str × Value)) : Room k (A.under (.builtin "type.__call__" ⟨.ref C :: us, kw⟩)) :=
  ⟨r.hd, by have := r.dp; rw [make_depth]; omega, by have := r.un; rw [make_units]; omega⟩
theorem Room.depth {k : Nat} {A : Around} (r : Room k A) : A.depth < recursionLimit := by have := r.dp; omega
theorem Room.units {k : Nat} {A : Around} (r : Room k A) : A.units + 64 < cLine := by have := r.un; omega
def tNil : TA := fun _ H Q => Q [] H
def tCons (ta : TE) (tr : TA) : TA := fun σ H Q => ta σ H fun x H1 => tr σ H1 fun xs H2 => Q (x :: xs) H2
section
variable {X : Cx} {e : Expr} {es : List Expr} {te : TE} {t : TA} {pos : Pos}
theorem pa_nil : PA X [] tNil := fun _ _ _ _ H Q I h => Calls.spliced_nil ⟨[], H, I, .nil, h⟩
theorem pa_cons (ha : PE X e te) (hr : PA X es t) (hs : starEach (e :: es) X.env = (false, eval e X.env) :: starEach es X.env := by rfl) : PA X (e :: es) (tCons te t) := by
  intro pos pins s σ H Q I h
  rw [hs]
  show wpAny _ _ (spliced ((false, eval e X.env) :: backTo pos (starEach es X.env))) _ _ s
  refine Calls.spliced_cons (thn (ha pins s σ H _ I h) fun u s1 ⟨x, H1, I1, r1, q1⟩ => ?_)
  exact thn (hr pos pins s1 σ H1 _ I1 q1) fun us s2 ⟨xs, H2, I2, r2, q2⟩ => ⟨x :: xs, H2, I2, .cons r1 r2, q2⟩
def tTup (t : TA) : TE := fun σ H Q => t σ H fun xs H1 => xs.length ≤ sizeLine ∧ ∀ p, H1 p = none → Q (.ref p) (upd H1 p (.tup xs))
def tLst (t : TA) : TE := fun σ H Q => t σ H fun xs H1 => xs.length ≤ sizeLine ∧ ∀ p, H1 p = none → Q (.ref p) (upd H1 p (.lst xs))
theorem pe_tup {x1} (h : PA X es t) : PE X (.Tuple es x1 pos) (tTup t) := by
  intro pins s σ H Q I hq
  refine wpAny_Tuple_spliced (thn (h pos pins s σ H _ I hq) fun us s1 ⟨xs, H1, I1, r, z, q⟩ => ⟨by rw [← r.length]; exact z, ?_⟩)
  have hf : H1 s1.heap.objs.size = none := I1.hok.fresh (Nat.le_refl _)
  refine ⟨.ref s1.heap.objs.size, upd H1 s1.heap.objs.size (.tup xs), I1.laid (t' := s1.toks) (fun b u e => Heap.get?_push_of_some _ e) (Nat.le_refl _) ?_, rfl, q _ hf⟩
  exact ⟨z, us, r, ⟨_, Heap.get?_push_size _ rfl, rfl, _, rfl⟩⟩
theorem pe_lst (h : PA X es t) : PE X (.List es pos) (tLst t) := by
  intro pins s σ H Q I hq
  refine wpAny_List_spliced (thn (h pos pins s σ H _ I hq) fun us s1 ⟨xs, H1, I1, r, z, q⟩ => ⟨by rw [← r.length]; exact z, ?_⟩)
  have hf : H1 s1.heap.objs.size = none := I1.hok.fresh (Nat.le_refl _)
  refine ⟨.ref s1.heap.objs.size, upd H1 s1.heap.objs.size (.lst xs), I1.laid (t' := s1.toks) (fun b u e => Heap.get?_push_of_some _ e) (Nat.le_refl _) ?_, rfl, q _ hf⟩
  exact ⟨z, us, 0, r, Heap.get?_push_size _ rfl⟩
end
abbrev Sp := List V → Hp → VK → XK → Prop
abbrev CXT := List Env → Hp → Shared → XK → Value → Shared → Prop
structure Env0 (P : Program) (w : World) (K : PySem.W.Frag) (mg : Str → Option Value) (base : Heap) (A : Around) (outer : List Env) (s : Shared) (H : Hp) : Prop where
  frames : A.frames = some outer
  mod : Mod K mg base
  bs : ∀ b o, base.get? b = some o → s.heap.get? b = some o ∧ H b = none
  bsz : base.objs.size ≤ s.heap.objs.size
  funs : s.heap.FunFrames base outer
  frf : ∀ b ∈ frs outer, H b = none
  hok : HOk P w H s.heap
  bare : AllBare s.gens
def CE (outer : List Env) (P : Program) (w : World) (H : Hp) (s : Shared) (Q : VK) (u : Value) (s' : Shared) : Prop :=
  ∃ v H', s'.os = s.os ∧ AllBare s'.gens ∧ Un (frs outer) [] H H' s.heap s'.heap ∧ HOk P w H' s'.heap ∧ RelV v u ∧ Q v H'
def CR (CX : CXT) (outer : List Env) (P : Program) (w : World) (H : Hp) (s : Shared) (Q : VK) (E : XK) (r : Result) (s' : Shared) : Prop :=
  match r with
  | .ok (.ret u) => CE outer P w H s Q u s'
  | .ok _ => False
  | .error e => CX outer H s E e s'
structure FnOk (P : Program) (w : World) (K : PySem.W.Frag) (mg : Str → Option Value) (base : Heap) (CX : CXT) (k : Nat) (f : Addr) (fd : FuncData) (ps : List Str) (sp : Sp) : Prop where
  len : ∀ vs H Q E, sp vs H Q E → vs.length = ps.length
  run : ∀ (A : Around) (outer : List Env) (s : Shared) (H : Hp) (args : Args) (us : List Value) (vs : List V) (Q : VK) (E : XK), Room k A → Env0 P w K mg base A outer s H → BindsTo s fd args (ps.zip us) → Vals vs us → sp vs H Q E →
    codeAny (model P w) A (.call (.ref f) args) (CR CX outer P w H s Q E) s
theorem Env0.make {P : Program} {w : World} {K : PySem.W.Frag} {mg : Str → Option Value} {base : Heap} {A : Around} {outer : List Env} {s : Shared} {H : Hp} (e : Env0 P w K mg base A outer s H) (C : Addr) (us : List Value) (kw : List (Str × Value)) :
    Env0 P w K mg base (A.under (.builtin "type.__call__" ⟨.ref C :: us, kw⟩)) outer s H := ⟨by first | exact e.frames | (simpa [Around.under, Code.envs, Code.isFrame, pushEnvs] using e.frames), e.mod, e.bs, e.bsz, e.funs, e.frf, e.hok, e.bare⟩
section
variable {X : Cx} {pins : List (Addr × Obj)} {σ : St} {H : Hp} {s s' : Shared}
theorem Inv.env0 (I : Inv X pins σ H s) : Env0 X.prog X.w X.K X.mg X.base X.A X.stack s H :=
  ⟨I.ok.frames, I.ok.mod, I.bs, Nat.le_trans I.ok.bsz I.sz, I.stack, I.stkFree, I.hok, I.bare⟩
theorem Inv.after {Q : VK} {u : Value} (I : Inv X pins σ H s) (h : CE X.stack X.prog X.w H s Q u s') : EP X pins σ Q u s' := by
  obtain ⟨v, H', os, bare, un, hok, r, q⟩ := h
  obtain ⟨hh, g, d, t, os'⟩ := s'
  obtain rfl : os' = s.os := os
  exact ⟨v, H', I.call (h' := hh) (g' := g) (d' := d) (t' := t) (ch := []) un hok bare (fun b z => absurd z (by simp)), r, q⟩
end
def tCall (sp : Sp) (dvs : List V) (E : XK) (t : TA) : TE := fun σ H Q => t σ H fun vs H1 => sp (vs ++ dvs) H1 Q E
def tMeth (C : Addr) (m : Str) (sp : Sp) (dvs : List V) (E : XK) (ta : TE) (t : TA) : TE := fun σ H Q => ta σ H fun x H1 => ∃ a dx fs, x = .ref a ∧ H1 a = some (.ins C dx fs) ∧ fs.lookup m = none ∧
  t σ H1 fun vs H2 => sp (x :: (vs ++ dvs)) H2 Q E
def tMake (C : Addr) (sp : Sp) (dvs : List V) (E : XK) (t : TA) : TE := fun σ H Q => t σ H fun vs H1 => ∀ x dx, H1 x = none → H1 dx = none → dx ≠ x →
  sp (.ref x :: (vs ++ dvs)) (upd (upd H1 dx (.own x)) x (.ins C dx [])) (fun v H2 => v = .non ∧ Q (.ref x) H2) E
def Binds (K : PySem.W.Frag) (fd : FuncData) (ps : List Str) (ds : List Value) : Prop :=
  ∀ (s : Shared) (us : List Value), K.In s.heap → (us ++ ds).length = ps.length → BindsTo s fd ⟨us, []⟩ (ps.zip (us ++ ds))
theorem Binds.all {K : PySem.W.Frag} {fd : FuncData} {ps : List Str} (h : ∀ us : List Value, us.length = ps.length → bindArgs fd ⟨us, []⟩ = pure (ps.zip us)) : Binds K fd ps [] := fun s us _ hl => by
  rw [List.append_nil] at hl ⊢
  exact .of_eq (h us hl)
def Passes (CX : CXT) (X : Cx) (E : XK) : Prop := ∀ (pins : List (Addr × Obj)) (σ : St) (H : Hp) (s : Shared) (e : Value) (s' : Shared), Inv X pins σ H s → CX X.stack H s E e s' → X.xe e s'
section
variable {X : Cx} {CX : CXT} {k : Nat} {f C : Addr} {fd : FuncData} {ps : List Str} {sp : Sp} {dvs : List V} {ds : List Value} {E : XK} {x m : Str} {p pos apos : Pos} {e o : Expr} {es : List Expr} {ta : TE} {t : TA}
theorem run_fn {pins : List (Addr × Obj)} {σ : St} {H : Hp} {s : Shared} {Q : VK} {us : List Value} {vs : List V} (F : FnOk X.prog X.w X.K X.mg X.base CX k f fd ps sp) (hr : Room k X.A) (hb : Binds X.K fd ps ds) (hd : Vals dvs ds) (hx : Passes CX X E)
    (I : Inv X pins σ H s) (r : Vals vs us) (h : sp (vs ++ dvs) H Q E) : wpAny (model X.prog X.w) X.A (call (.ref f) us) (EP X pins σ Q) X.xe s := by
  have r2 : Vals (vs ++ dvs) (us ++ ds) := r.append hd
  have hl : (us ++ ds).length = ps.length := by rw [← r2.length]; exact F.len _ _ _ _ h
  refine wpAny_call (codeAny_mono (F.run X.A X.stack s H ⟨us, []⟩ (us ++ ds) (vs ++ dvs) Q E hr I.env0 (hb s us I.kIn hl) r2 h) fun r s' hq => ?_)
  cases r with
  | error e => exact hx pins σ H s e s' I hq
  | ok fl =>
    cases fl with
    | ret u => exact I.after hq
    | next => exact False.elim hq
    | brk => exact False.elim hq
    | cont => exact False.elim hq
theorem pe_call (F : FnOk X.prog X.w X.K X.mg X.base CX k f fd ps sp) (hr : Room k X.A) (hg : Gl X x) (hm : X.mg x = some (.ref f)) (hk : PySem.W.keepIn X.K (.ref f) = true) (hb : Binds X.K fd ps ds) (hd : Vals dvs ds) (hx : Passes CX X E)
    (ha : PA X (e :: es) t) (hdb : (x == ("__debug__" : Str)) = false := by decide) (he : starEach (e :: es) X.env = (false, eval e X.env) :: starEach es X.env := by rfl) (hpl : (backTo pos (starEach es X.env)).any (·.1) = false := by rfl) :
    PE X (.Call (.Name x p) (e :: es) [] pos) (tCall sp dvs E t) := by
  intro pins s σ H Q I h
  refine wpAny_Call_Name_kw (ld_glob I hg hm ?_ hdb)
  refine PySem.W.callWith_K (h₀ := X.base) I.ok.mod.kin hk (thn (ha pos pins s σ H _ I h) fun us s1 ⟨vs, H1, I1, r, q⟩ => ⟨I1.kIn, ?_⟩) he hpl
  exact run_fn F hr hb hd hx I1 r q
theorem pe_meth {pl : Sem Bool} (he : PE X o ta) (c : Cls X.K C) (hm : Meth X.K C m f) (F : FnOk X.prog X.w X.K X.mg X.base CX k f fd ps sp) (hr : Room k X.A) (hb : Binds X.K fd ps ds) (hd : Vals dvs ds) (hx : Passes CX X E) (ha : PA X (e :: es) t)
    (hst : starEach (e :: es) X.env = (false, eval e X.env) :: starEach es X.env := by rfl) (hpl : (backTo pos (starEach es X.env)).any (·.1) = false := by rfl)
    (ht : eval (.Call (.Attribute o m apos) (e :: es) [] pos) X.env = (do
      let ov ← eval o X.env
      standAt apos.atName
      let (f, first) ← holding [ov] (getMethod ov m pl)
      callWith pos f first (backTo pos (starEach (e :: es) X.env)) (backToKw pos (keywordEach [] X.env))) := by rfl) :
    PE X (.Call (.Attribute o m apos) (e :: es) [] pos) (tMeth C m sp dvs E ta t) := by
  intro pins s σ H Q I h
  refine PySem.W.methodCall_KW (pl := pl) (thn (he pins s σ H _ I h) fun u s1 ⟨x, H1, I1, rx, a, dx, fs, ex, ea, l, q⟩ => ?_) ht
  subst ex
  obtain rfl : u = Value.ref a := rx
  refine getmeth_ok I1 ea c hm l ?_
  refine PySem.W.callWith_K (first := [.ref a]) (h₀ := X.base) I.ok.mod.kin hm.kp (thn (ha pos pins s1 σ H1 _ I1 q) fun us s2 ⟨vs, H2, I2, r, q2⟩ => ⟨I2.kIn, ?_⟩) hst hpl
  exact run_fn (us := .ref a :: us) (vs := .ref a :: vs) F hr hb hd hx I2 (.cons rfl r) q2
theorem pe_meth0 {pl : Sem Bool} (he : PE X o ta) (c : Cls X.K C) (hm : Meth X.K C m f) (F : FnOk X.prog X.w X.K X.mg X.base CX k f fd ps sp) (hr : Room k X.A) (hb : Binds X.K fd ps ds) (hd : Vals dvs ds) (hx : Passes CX X E)
    (ht : eval (.Call (.Attribute o m apos) [] [] pos) X.env = (do
      let ov ← eval o X.env
      standAt apos.atName
      let (f, first) ← holding [ov] (getMethod ov m pl)
      callWith pos f first (backTo pos (starEach [] X.env)) (backToKw pos (keywordEach [] X.env))) := by rfl) :
    PE X (.Call (.Attribute o m apos) [] [] pos) (tMeth C m sp dvs E ta tNil) := by
  intro pins s σ H Q I h
  refine PySem.W.methodCall_KW (pl := pl) (thn (he pins s σ H _ I h) fun u s1 ⟨x, H1, I1, rx, a, dx, fs, ex, ea, l, q⟩ => ?_) ht
  subst ex
  obtain rfl : u = Value.ref a := rx
  refine getmeth_ok I1 ea c hm l ?_
  exact PySem.W.callWith_K0 (first := [.ref a]) I1.kIn hm.kp (run_fn (us := [.ref a]) (vs := [.ref a]) F hr hb hd hx I1 (.cons rfl .nil) q)
structure Mk (K : PySem.W.Frag) (C f : Addr) : Prop where
  makes : PySem.W.makesIn K C = true
  init : PySem.W.findIn K (.ref C) "__init__" = some (some (.ref f))
  fn : PySem.W.isFn K (.ref f) = true
  kp : PySem.W.keepIn K (.ref C) = true
theorem run_make {pins : List (Addr × Obj)} {σ : St} {H : Hp} {s : Shared} {Q : VK} {us : List Value} {vs : List V} (M : Mk X.K C f) (F : FnOk X.prog X.w X.K X.mg X.base CX k f fd ps sp) (hr : Room (k + 1) X.A) (hb : Binds X.K fd ps ds) (hd : Vals dvs ds)
    (hx : Passes CX X E) (I : Inv X pins σ H s) (r : Vals vs us)
    (h : ∀ x dx, H x = none → H dx = none → dx ≠ x → sp (.ref x :: (vs ++ dvs)) (upd (upd H dx (.own x)) x (.ins C dx [])) (fun v H2 => v = .non ∧ Q (.ref x) H2) E) :
    wpAny (model X.prog X.w) X.A (call (.ref C) us) (EP X pins σ Q) X.xe s := by
  have hq := h (s.heap.objs.size + 1) s.heap.objs.size (I.hok.fresh (Nat.le_succ _)) (I.hok.fresh (Nat.le_refl _)) (Nat.ne_of_lt (Nat.lt_succ_self _))
  have I2 := Inv.made (C := C) I
  have r2 : Vals (V.ref (s.heap.objs.size + 1) :: (vs ++ dvs)) (Value.ref (s.heap.objs.size + 1) :: (us ++ ds)) := .cons rfl (r.append hd)
  have hl : (Value.ref (s.heap.objs.size + 1) :: us ++ ds).length = ps.length := by
    have e := r2.length
    rw [F.len _ _ _ _ hq] at e
    exact e.symm
  refine wpAny_call (make_map (f := f) I.kIn M.makes M.init (beq_iff_eq.mp M.fn) (codeAny_mono (F.run _ X.stack _ _ ⟨Value.ref (s.heap.objs.size + 1) :: us, []⟩ (Value.ref (s.heap.objs.size + 1) :: (us ++ ds)) _ _ E (hr.make C us [])
    (I2.env0.make C us []) (hb _ (Value.ref (s.heap.objs.size + 1) :: us) I2.kIn hl) r2 hq) fun r s' hq' => ?_))
  cases r with
  | error e => exact hx pins σ _ _ e s' I2 hq'
  | ok fl =>
    cases fl with
    | ret u =>
      obtain ⟨v, H', I3, rv, ev, q3⟩ := I2.after hq'
      subst ev
      exact ⟨rv, ⟨V.ref (s.heap.objs.size + 1), H', I3, rfl, q3⟩⟩
    | next => exact False.elim hq'
    | brk => exact False.elim hq'
    | cont => exact False.elim hq'
theorem pe_make (M : Mk X.K C f) (F : FnOk X.prog X.w X.K X.mg X.base CX k f fd ps sp) (hr : Room (k + 1) X.A) (hg : Gl X x) (hm : X.mg x = some (.ref C)) (hb : Binds X.K fd ps ds) (hd : Vals dvs ds) (hx : Passes CX X E)
    (ha : PA X (e :: es) t) (hdb : (x == ("__debug__" : Str)) = false := by decide) (he : starEach (e :: es) X.env = (false, eval e X.env) :: starEach es X.env := by rfl) (hpl : (backTo pos (starEach es X.env)).any (·.1) = false := by rfl) :
    PE X (.Call (.Name x p) (e :: es) [] pos) (tMake C sp dvs E t) := by
  intro pins s σ H Q I h
  refine wpAny_Call_Name_kw (ld_glob I hg hm ?_ hdb)
  refine PySem.W.callWith_K (h₀ := X.base) I.ok.mod.kin M.kp (thn (ha pos pins s σ H _ I h) fun us s1 ⟨vs, H1, I1, r, q⟩ => ⟨I1.kIn, ?_⟩) he hpl
  exact run_make M F hr hb hd hx I1 r q
end
section
variable {X : Cx} {CX : CXT} {k : Nat} {f C : Addr} {fd : FuncData} {ps ks : List Str} {sp : Sp} {E : XK} {x m : Str} {p pos apos kpos : Pos} {e o : Expr} {es : List Expr} {kws : List Keyword} {te ta : TE} {t tk : TA} {nm : Option Str}
structure KBinds (K : PySem.W.Frag) (fd : FuncData) (ps ks : List Str) (g : List Value → List Value → List Value) (gV : List V → List V → List V) : Prop where
  to : ∀ (s : Shared) (us ws : List Value), K.In s.heap → (g us ws).length = ps.length → BindsTo s fd ⟨us, ks.zip ws⟩ (ps.zip (g us ws))
  rel : ∀ {vs : List V} {us : List Value} {zs : List V} {ws : List Value}, Vals vs us → Vals zs ws → Vals (gV vs zs) (g us ws)
variable {g : List Value → List Value → List Value} {gV : List V → List V → List V}
end
structure FnScope (N P : List Str) (sc : Scope) : Prop where
  kind : sc.kind = .function
  co : sc.isCoroutine = false
  gen : sc.isGenerator = false
  nd : N.Nodup
  pre : N.take P.length = P
  par : ∀ x ∈ P, sc.names.lookup x = some .local ∨ sc.names.lookup x = some .cell
  nofree : ∀ y ∈ sc.names, y.2 ≠ .free
theorem bindL_out {kindOf : Str → Option NameKind} {x : Str} : ∀ {binds : List (Str × Value)} {m : Str → Option Value}, (∀ v, (x, v) ∉ binds) → bindL kindOf binds m x = m x
  | [], _, _ => rfl
  | (n, v) :: r, m, h => by
    unfold bindL
    rw [bindL_out fun w hw => h w (List.mem_cons_of_mem _ hw)]
    split
    · have : x ≠ n := by rintro rfl; exact h v List.mem_cons_self
      simp [this]
    · rfl
theorem bindC_out {kindOf : Str → Option NameKind} {x : Str} : ∀ {binds : List (Str × Value)} {m : Str → Option Value}, (∀ v, (x, v) ∉ binds) → bindC kindOf binds m x = m x
  | [], _, _ => rfl
  | (n, v) :: r, m, h => by
    unfold bindC
    rw [bindC_out fun w hw => h w (List.mem_cons_of_mem _ hw)]
    split
    · rfl
    · have : x ≠ n := by rintro rfl; exact h v List.mem_cons_self
      simp [this]
theorem bindL_get {kindOf : Str → Option NameKind} {x : Str} {v : Value} : ∀ {P : List Str} {vs : List Value} {i : Nat} {m : Str → Option Value}, P.Nodup → P[i]? = some x → vs[i]? = some v → kindOf x = some .local →
    bindL kindOf (P.zip vs) m x = some v
  | [], _, _, _, _, h, _, _ => by simp at h
  | _ :: _, [], _, _, _, _, h, _ => by simp at h
  | p :: P, w :: vs, 0, m, nd, h1, h2, hk => by
    simp at h1 h2; subst h1; subst h2
    show bindL kindOf ((p, w) :: P.zip vs) m p = _
    unfold bindL
    rw [bindL_out fun v hv => (List.nodup_cons.mp nd).1 (List.of_mem_zip hv).1, if_pos hk]
    simp
  | p :: P, w :: vs, i + 1, m, nd, h1, h2, hk => by
    show bindL kindOf ((p, w) :: P.zip vs) m x = _
    unfold bindL
    exact bindL_get (i := i) (List.nodup_cons.mp nd).2 (by simpa using h1) (by simpa using h2) hk
theorem bindC_get {kindOf : Str → Option NameKind} {x : Str} {v : Value} : ∀ {P : List Str} {vs : List Value} {i : Nat} {m : Str → Option Value}, P.Nodup → P[i]? = some x → vs[i]? = some v → kindOf x ≠ some .local →
    bindC kindOf (P.zip vs) m x = some v
  | [], _, _, _, _, h, _, _ => by simp at h
  | _ :: _, [], _, _, _, _, h, _ => by simp at h
  | p :: P, w :: vs, 0, m, nd, h1, h2, hk => by
    simp at h1 h2; subst h1; subst h2
    show bindC kindOf ((p, w) :: P.zip vs) m p = _
    unfold bindC
    rw [bindC_out fun v hv => (List.nodup_cons.mp nd).1 (List.of_mem_zip hv).1, if_neg hk]
    simp
  | p :: P, w :: vs, i + 1, m, nd, h1, h2, hk => by
    show bindC kindOf ((p, w) :: P.zip vs) m x = _
    unfold bindC
    exact bindC_get (i := i) (List.nodup_cons.mp nd).2 (by simpa using h1) (by simpa using h2) hk
def start (N : List Str) (vs : List V) : St := vs.map some ++ List.replicate (N.length - vs.length) none
def cxOf (CX : CXT) (P : Program) (w : World) (K : PySem.W.Frag) (mg : Str → Option Value) (base : Heap) (N : List Str) (qual : Str) (scope : Scope) (f : Addr) (cd : Value) (A : Around) (outer : List Env) (s : Shared) (H : Hp) (E : XK) : Cx where
  prog := P
  w := w
  K := K
  mg := mg
  base := base
  A := A.deeper (envOfC qual scope s.heap.objs.size f cd)
  N := N
  s₀ := s
  H₀ := H
  env := envOfC qual scope s.heap.objs.size f cd
  outer := outer
  stack := envOfC qual scope s.heap.objs.size f cd :: outer
  ex := []
  calm := true
  fn := fun _ => true
  pn := []
  xe := fun e s' => wpAny (model P w) (A.deeper (envOfC qual scope s.heap.objs.size f cd)) (leaving (envOfC qual scope s.heap.objs.size f cd) e) (fun _ s'' => CX outer H s E e s'') (fun e' s'' => CX outer H s E e' s'') s'
theorem cell_has {sc : Scope} {n : Nat} {x : Str} (h : sc.names.lookup x = some .cell) : ∃ c, (cellsFrom n sc.names []).lookup x = some c := by
  have q := PySem.W.cellsFrom_some sc.names n [] (.inl h)
  exact Option.isSome_iff_exists.mp q
theorem inv_start {CX : CXT} {P : Program} {w : World} {K : PySem.W.Frag} {mg : Str → Option Value} {base : Heap} {N ps : List Str} {qual : Str} {scope : Scope} {f : Addr} {cd : Value} {A : Around} {outer : List Env} {s s1 : Shared} {H : Hp} {E : XK} {us : List Value} {vs : List V}
    (S : FnScope N ps scope) (hd : A.handled = none) (e0 : Env0 P w K mg base A outer s H) (hl : vs.length = ps.length) (r : Vals vs us)
    (x : InCallC s s.heap.objs.size (bindL (envOfC qual scope s.heap.objs.size f cd).kindOf (ps.zip us) fun _ => none) (cellsFrom (s.heap.objs.size + 1) scope.names []) (bindC (envOfC qual scope s.heap.objs.size f cd).kindOf (ps.zip us) fun _ => none) s1) :
    Inv (cxOf CX P w K mg base N qual scope f cd A outer s H E) [] (start N vs) H s1 := by
  have hpl : ps.length ≤ N.length := by have := congrArg List.length S.pre; rw [List.length_take] at this; omega
  obtain ⟨h1, tk, rfl, hk⟩ := x.done
  have noA : ∀ b : Addr, b ∉ (cxOf CX P w K mg base N qual scope f cd A outer s H E).ex := fun b z => absurd (show b ∈ ([] : List Addr) from z) (by simp)
  refine ⟨⟨e0.mod, S.kind, rfl, rfl, Nat.le_refl _, fun y z c h1 h2 => ?_, fun y hy => ?_, fun y c _ h => ?_, fun _ => hd, Around.frames_deeper e0.frames, .inr ⟨rfl, rfl⟩, fun b z => absurd z (noA b), e0.bs, e0.bsz, fun b _ _ => noA b, fun b z => absurd z (noA b), e0.funs, e0.frf⟩,
    rfl, e0.bare, Un.kept hk, ⟨_, x.toInCall.ns, fun i y v h1 h2 h3 => ?_⟩, fun y c h => ⟨_, x.cell y c h⟩, e0.hok.fresh (Nat.le_refl _), fun y c h => ?_, fun p hp => absurd (show p ∈ ([] : List (Addr × Obj)) from hp) (by simp), e0.hok.kept hk, ?_⟩
  · exact name_of_addr x.apart (PySem.mem_of_lookup h1) (PySem.mem_of_lookup h2)
  · have hy : scope.names.lookup y = some .cell ∨ scope.names.lookup y = some .free := hy
    rcases hy with hy | hy
    · exact cell_has hy
    · exact absurd rfl (S.nofree _ (PySem.mem_of_lookup hy))
  · exact Nat.le_of_lt (x.above y c (PySem.mem_of_lookup h))
  · have hi : i < vs.length := by
      unfold start at h2
      by_cases hi : i < vs.length
      · exact hi
      · rw [List.getElem?_append_right (by simpa using hi)] at h2
        rw [List.getElem?_replicate] at h2
        split at h2 <;> cases h2
    have ha : vs[i]? = some v := by
      unfold start at h2
      rw [List.getElem?_append_left (by simpa using hi), List.getElem?_map] at h2
      cases e : vs[i]? with
      | none => rw [e] at h2; cases h2
      | some a => rw [e] at h2; cases h2; rfl
    obtain ⟨u, hu, rv⟩ := r.get ha
    have hp : ps[i]? = some y := by
      rw [← S.pre, List.getElem?_take_of_lt (by omega)]; exact h1
    have ndP : ps.Nodup := by rw [← S.pre]; exact S.nd.sublist (List.take_sublist _ _)
    refine ⟨u, rv, ?_⟩
    rcases S.par y (List.mem_of_getElem? hp) with k | k
    · exact .inl ⟨k, bindL_get ndP hp hu k⟩
    · obtain ⟨c, e⟩ := cell_has (n := s.heap.objs.size + 1) k
      refine .inr ⟨.inl k, c, e, ?_⟩
      have q := x.cell y c e
      rw [bindC_get ndP hp hu (by show scope.names.lookup y ≠ _; rw [k]; decide)] at q
      exact q
  · exact e0.hok.fresh (Nat.le_of_lt (x.above y c (PySem.mem_of_lookup h)))
  · unfold start
    show _ = N.length
    rw [List.length_append, List.length_map, List.length_replicate]
    omega
theorem fn_of {CX : CXT} {P : Program} {w : World} {K : PySem.W.Frag} {mg : Str → Option Value} {base : Heap} {k : Nat} {f : Addr} {name qual : Str} {params : Arguments} {body : List Stmt} {scope : Scope} {dV kV doc pm cdv ct oc : Value} {an od : Option Addr}
    {osl : Array (Option Value)} {N ps : List Str} {sp : Sp} (lk : K.lookup f = some ⟨oc, od, .func (PySem.W.fnOf name qual params body scope dV kV doc pm an cdv ct), osl⟩) (hcd : PySem.W.codeIn K cdv qual = true) (S : FnScope N ps scope)
    (len : ∀ vs H Q E, sp vs H Q E → vs.length = ps.length)
    (hbody : ∀ (A : Around) (outer : List Env) (s : Shared) (H : Hp) (vs : List V) (Q : VK) (E : XK), Room k (A.deeper (envOfC qual scope s.heap.objs.size f cdv)) → sp vs H Q E →
      ∃ t, PSs (cxOf CX P w K mg base N qual scope f cdv A outer s H E) body t ∧ t { nx := fun _ H' => Q .non H', rt := Q } (start N vs) H) :
    FnOk P w K mg base CX (k + 1) f (PySem.W.fnOf name qual params body scope dV kV doc pm an cdv ct) ps sp := by
  refine ⟨len, fun A outer s H args us vs Q E hr e0 hb r hsp => ?_⟩
  have hl := len _ _ _ _ hsp
  have KX : K.In s.heap := e0.mod.kin.keeps fun b o e => (e0.bs b o e).1
  have lim : s.heap.NoLimit := e0.mod.nolimit.keeps fun b o e => (e0.bs b o e).1
  have hkind : ∀ y ∈ ps.zip us, scope.names.lookup y.1 = some .local ∨ (scope.names.lookup y.1 = some .cell ∧ ((cellsFrom (s.heap.objs.size + 1) scope.names []).lookup y.1).isSome = true) := fun ⟨n, v⟩ hy => by
    rcases S.par n (List.of_mem_zip hy).1 with q | q
    · exact .inl q
    · exact .inr ⟨q, PySem.W.cellsFrom_some _ _ _ (.inl q)⟩
  refine codeAny_call_function hr.depth (KX _ _ lk) rfl S.co S.gen rfl (PySem.W.codeRec_of KX hcd) (hb _ _ _ _ ?_)
  refine wpAny_newFunctionEnv_cells S.kind hkind fun env he s1 x => ?_
  subst he
  refine ⟨lim.keeps x.toInCall.keep, codeAny_func ?_⟩
  obtain ⟨t, ht, hq⟩ := hbody A outer s H vs Q E (hr.deeper _) hsp
  have I : Inv (cxOf CX P w K mg base N qual scope f cdv A outer s H E) [] (start N vs) H s1 := inv_start S hr.hd e0 hl r x
  refine wpAny_mono (ht [] s1 (start N vs) H _ I hq) (fun fl s' hs => ?_) fun e s' hs => hs
  have fin : ∀ {σ' : St} {H' : Hp} {v : V} {u : Value}, Inv (cxOf CX P w K mg base N qual scope f cdv A outer s H E) [] σ' H' s' → RelV v u → Q v H' → CE outer P w H s Q u s' :=
    fun {σ' H' v u} J rv q => ⟨v, H', J.os, J.bare, J.base, J.hok, rv, q⟩
  cases fl with
  | ret u =>
    obtain ⟨v, σ', H', J, rv, q⟩ := hs
    exact fin J rv q
  | next =>
    obtain ⟨σ', H', J, q⟩ := hs
    exact fin (v := V.non) (u := Value.none) J rfl q
  | brk =>
    obtain ⟨_, _, _, q⟩ := hs
    exact False.elim q
  | cont =>
    obtain ⟨_, _, _, q⟩ := hs
    exact False.elim q
end L2
namespace L2
open PySem PySem.Spec PyProof.Rows
section
variable {X : Cx} {x : Str} {p pos : Pos} {e : Expr} {es : List Expr} {t : TA} {id T : String} {r : List V → Hp → VK → Prop}
def tCB (r : List V → Hp → VK → Prop) (t : TA) : TE := fun σ H Q => t σ H fun vs H1 => r vs H1 Q
theorem pe_callB (hc : CallR X (.builtin id) r) (hg : Gl X x) (hm : X.mg x = none) (hv : bootBuiltins x = some (.builtin id)) (ha : PA X (e :: es) t) (hn : x ≠ "__name__" := by decide) (hdb : (x == ("__debug__" : Str)) = false := by decide)
    (he : starEach (e :: es) X.env = (false, eval e X.env) :: starEach es X.env := by rfl) (hpl : (backTo pos (starEach es X.env)).any (·.1) = false := by rfl) : PE X (.Call (.Name x p) (e :: es) [] pos) (tCB r t) := by
  intro pins s σ H Q I h
  refine wpAny_Call_Name_kw (ld_blt I hg hm hv ?_ hn hdb)
  exact PyProof.Rows.callWith_builtin1 (thn (ha pos pins s σ H _ I h) fun us s1 ⟨vs, H1, I1, r1, q1⟩ => hc pins s1 σ H1 vs us Q I1 r1 q1) he hpl
theorem pe_callTy (hc : CallR X (.type T) r) (hg : Gl X x) (hm : X.mg x = none) (hv : bootBuiltins x = some (.type T)) (ha : PA X (e :: es) t) (hn : x ≠ "__name__" := by decide) (hdb : (x == ("__debug__" : Str)) = false := by decide)
    (he : starEach (e :: es) X.env = (false, eval e X.env) :: starEach es X.env := by rfl) (hpl : (backTo pos (starEach es X.env)).any (·.1) = false := by rfl) : PE X (.Call (.Name x p) (e :: es) [] pos) (tCB r t) := by
  intro pins s σ H Q I h
  refine wpAny_Call_Name_kw (ld_blt I hg hm hv ?_ hn hdb)
  exact PyProof.Rows.callWith_type1 (thn (ha pos pins s σ H _ I h) fun us s1 ⟨vs, H1, I1, r1, q1⟩ => hc pins s1 σ H1 vs us Q I1 r1 q1) he hpl
end
end L2
namespace HT
open PySem PyProof.Rows
section
open PySem.SeqAt
open PySem.AutoSeq1 (wpAny_loadPart')
open PySem.MeetsSeq PySem.MeetsSeq2 PySem.MeetsSeq3
end
section
variable {prog : Program} {w : World} {A : Around} {E : Value → Shared → Prop} {s : Shared}
theorem cat_tup {t b : Addr} {vs ws : List Value} {Q : Value → Shared → Prop} (ht : IsTup s.heap t vs.toArray) (hb : IsTup s.heap b ws.toArray) (hv : vs ≠ [])
    (h1 : ws = [] → Q (.ref t) s) (h2 : ws ≠ [] → Q (.ref s.heap.objs.size) { s with heap := s.heap.push { cls := .type "tuple", data := .seq (vs ++ ws).toArray } })
    (hsz : vs.length + ws.length ≤ sizeLine) : wpAny (model prog w) A (binaryOp .Add (.ref t) (.ref b)) Q E s := by
  obtain ⟨⟨cls, dd, data, sl⟩, ho, hc, n, hd⟩ := id ht
  obtain ⟨⟨cls2, dd2, data2, sl2⟩, ho2, hc2, n2, hd2⟩ := id hb
  simp only at hc hd hc2 hd2
  subst hc hd hc2 hd2
  have e : vs.toArray ++ ws.toArray = (vs ++ ws).toArray := by simp
  by_cases hw : ws = []
  · exact concat_meets ⟨_, ho, rfl⟩ ⟨_, ho2, rfl⟩ noFill_tuple_add seq_tuple_add PySem.F.slot_tuple_add PySem.F.entry_tuple_add (PySem.F.args_tuple_add_2 _ _)
      (tuple_addW1 t b vs.toArray ws.toArray n n2 dd dd2 sl sl2 (by simpa using hv) (by simp [hw])) ⟨ho, ho2, h1 hw⟩
  · refine concat_meets ⟨_, ho, rfl⟩ ⟨_, ho2, rfl⟩ noFill_tuple_add seq_tuple_add PySem.F.slot_tuple_add PySem.F.entry_tuple_add (PySem.F.args_tuple_add_2 _ _)
      (tuple_addW2 t b vs.toArray ws.toArray n n2 dd dd2 sl sl2 (by simpa using hv) (by simpa using hw) (by rw [List.size_toArray, List.size_toArray]; exact hsz)) ⟨ho, ho2, ?_⟩
    rw [e]
    exact h2 hw
def sIx (n d : Nat) : Option Int → Nat
  | none => d
  | some v => if v < 0 then (v + (n : Int)).toNat else min v.toNat n
theorem sIx_none (n d : Nat) : sIx n d none = d := rfl
theorem sIx_nat (n d k : Nat) : sIx n d (some (k : Int)) = min k n := by
  show (if (k : Int) < 0 then ((k : Int) + (n : Int)).toNat else min (k : Int).toNat n) = min k n
  rw [if_neg (by omega), Int.toNat_natCast]
end
end HT
namespace L2
open PySem PySem.Spec PyProof.Rows
abbrev TO := St → Hp → (Option Int → Hp → Prop) → Prop
def PO (X : Cx) (e : Option Expr) (t : TO) : Prop :=
  ∀ (pins : List (Addr × Obj)) (s : Shared) (σ : St) (H : Hp) (Q : Option Int → Hp → Prop), Inv X pins σ H s → t σ H Q →
    wpAny (model X.prog X.w) X.A (evalPart e X.env) (fun u s' => ∃ o H', Inv X pins σ H' s' ∧ IsPart u o ∧ Q o H') X.xe s
def tNoPart : TO := fun _ H Q => Q none H
def tPart (t : TE) : TO := fun σ H Q => t σ H fun x H1 => ∃ i, x = .int i ∧ Q (some i) H1
section
variable {X : Cx} {e : Expr} {te : TE} {lo hi : Option Expr} {tl th : TO} {pos p2 : Pos}
theorem po_none : PO X none tNoPart := by
  intro pins s σ H Q I h
  rw [evalPart_none]
  exact wpAny_pure ⟨none, H, I, .none, h⟩
theorem po_some (h : PE X e te) : PO X (some e) (tPart te) := by
  intro pins s σ H Q I hw
  rw [evalPart_some]
  refine thn (h pins s σ H _ I hw) fun u s1 ⟨x, H1, I1, r1, q1⟩ => ?_
  obtain ⟨i, rfl, q⟩ := q1
  obtain ⟨t, rfl⟩ := r1
  exact ⟨some i, H1, I1, .int i t, q⟩
def SlR (X : Cx) (r : V → Option Int → Option Int → Hp → VK → Prop) : Prop :=
  ∀ (pins : List (Addr × Obj)) (s : Shared) (σ : St) (H : Hp) (x : V) (v vl vu : Value) (lo hi : Option Int) (sl : Addr) (Q : VK), Inv X pins σ H s → RelV x v → s.heap.IsSliceOf sl vl vu .none → IsPart vl lo → IsPart vu hi → r x lo hi H Q →
    ∃ T id, typeLookup (.type T) "__getitem__" = pure (some (.builtin id)) ∧ s.TypeIs v T ∧ wpAny (model X.prog X.w) X.A (getItem v (.ref sl)) (EP X pins σ Q) X.xe s
def tSl (r : V → Option Int → Option Int → Hp → VK → Prop) (te : TE) (tl th : TO) : TE := fun σ H Q => te σ H fun x H1 => tl σ H1 fun l H2 => th σ H2 fun u H3 => r x l u H3 Q
theorem pe_slice {r : V → Option Int → Option Int → Hp → VK → Prop} (hr : SlR X r) (he : PE X e te) (hl : PO X lo tl) (hu : PO X hi th) : PE X (.Subscript e (.Slice lo hi none p2) pos) (tSl r te tl th) := by
  intro pins s σ H Q I h
  refine Subscript_ (thn (he pins s σ H _ I h) fun v s1 ⟨x, H1, I1, r1, q1⟩ => ?_)
  refine wpAny_Slice (thn (hl pins s1 σ H1 _ I1 q1) fun vl s2 ⟨l, H2, I2, pl, q2⟩ => thn (hu pins s2 σ H2 _ I2 q2) fun vu s3 ⟨u, H3, I3, pu, q3⟩ => ?_)
  rw [evalPart_none]
  refine wpAny_pure ?_
  have I4 : Inv X pins σ H3 { s3 with heap := s3.heap.push { cls := .type "slice", data := .fields #[vl, vu, .none] } } := I3.kept (t' := s3.toks) fun b ob q => Heap.get?_push_of_some _ q
  obtain ⟨T, id, hT, ht, hg⟩ := hr pins { s3 with heap := s3.heap.push { cls := .type "slice", data := .fields #[vl, vu, .none] } } σ H3 x v vl vu l u s3.heap.objs.size Q I4 r1 (Heap.IsSliceOf.new ..) pl pu q3
  show wpAny (model X.prog X.w) X.A (subscriptTail e (.Slice lo hi none p2) v (.ref s3.heap.objs.size)) (EP X pins σ Q) X.xe { s3 with heap := s3.heap.push { cls := .type "slice", data := .fields #[vl, vu, .none] } }
  exact tail_any (ops := [.ref s3.heap.objs.size, v]) ht hT hg (by with_unfolding_all rfl)
def cutV (xs : List V) (lo hi : Option Int) : List V := (xs.drop (HT.sIx xs.length 0 lo)).take (HT.sIx xs.length xs.length hi - HT.sIx xs.length 0 lo)
theorem cutV_length (xs : List V) (lo hi : Option Int) : (cutV xs lo hi).length ≤ xs.length := by
  unfold cutV
  rw [List.length_take, List.length_drop]
  omega
def rCatT (K : PySem.W.Frag) : R2 := fun x y H Q => ∃ a b xs ys, x = .ref a ∧ y = .ref b ∧ SqT K H a xs ∧ SqT K H b ys ∧ xs ≠ [] ∧ xs.length + ys.length ≤ sizeLine ∧
  (ys = [] → Q (.ref a) H) ∧ (ys ≠ [] → ∀ p, H p = none → Q (.ref p) (upd H p (.tup (xs ++ ys))))
theorem Vals.nil_iff {xs : List V} {us : List Value} (r : Vals xs us) : us = [] ↔ xs = [] := by
  cases r with
  | nil => simp
  | cons _ _ => simp
theorem op_catT : OpR X (binaryOp .Add) (rCatT X.K) := by
  intro pins s σ H x y v u Q I rx ry h
  obtain ⟨a, b, xs, ys, rfl, rfl, ha, hb, hx, hz, q1, q2⟩ := h
  cases rx
  cases ry
  obtain ⟨its, r1, p1, _⟩ := I.tuple ha
  obtain ⟨its2, r2, p2, _⟩ := I.tuple hb
  refine HT.cat_tup p1 p2 (fun z => hx (r1.nil_iff.mp z)) (fun z => ⟨.ref a, H, I, rfl, q1 (r2.nil_iff.mp z)⟩) (fun z => ?_) (by rw [← r1.length, ← r2.length]; exact hz)
  refine ⟨.ref s.heap.objs.size, _, I.laid (t' := s.toks) (o := .tup (xs ++ ys)) (fun b ob q => Heap.get?_push_of_some _ q) (Nat.le_refl _) ?_, rfl, q2 (fun w => z (r2.nil_iff.mpr w)) _ (I.hok.fresh (Nat.le_refl _))⟩
  exact ⟨by rw [List.length_append]; exact hz, _, r1.append r2, IsTup.new _ _⟩
end
end L2
namespace L2
open PySem PySem.Spec PyProof.Rows
def ixN (n : Nat) (i : Int) : Option Nat := if 0 ≤ i then (if i < n then some i.toNat else none) else if -(n : Int) ≤ i then some (i + n).toNat else none
def atI {α : Type} (xs : List α) (i : Int) : Option α := (ixN xs.length i).bind fun j => xs[j]?
theorem ixN_seq {n : Nat} {i : Int} {j : Nat} (h : ixN n i = some j) : seqIndex? i n = some j ∧ j < n ∧ -(n : Int) ≤ i ∧ i < n := by
  unfold ixN at h
  by_cases h0 : 0 ≤ i
  · rw [if_pos h0] at h
    by_cases h1 : i < n
    · rw [if_pos h1] at h
      have e : i.toNat = j := Option.some.inj h
      exact ⟨by rw [seqIndex_of h0 h1, e], by omega, by omega, h1⟩
    · rw [if_neg h1] at h; cases h
  · rw [if_neg h0] at h
    by_cases h1 : -(n : Int) ≤ i
    · rw [if_pos h1] at h
      have e : (i + n).toNat = j := Option.some.inj h
      exact ⟨by rw [seqIndex_neg (by omega) h1, e], by omega, h1, by omega⟩
    · rw [if_neg h1] at h; cases h
theorem atI_get {α : Type} {xs : List α} {i : Int} {v : α} (h : atI xs i = some v) : ∃ j, seqIndex? i xs.length = some j ∧ xs[j]? = some v ∧ j < xs.length ∧ -(xs.length : Int) ≤ i ∧ i < xs.length := by
  unfold atI at h
  cases e : ixN xs.length i with
  | none => rw [e] at h; cases h
  | some j =>
    rw [e] at h
    obtain ⟨h1, h2, h3, h4⟩ := ixN_seq e
    exact ⟨j, h1, h, h2, h3, h4⟩
theorem atI_nat {α : Type} {xs : List α} {j : Nat} {v : α} (h : xs[j]? = some v) : atI xs (j : Int) = some v := by
  have hj : j < xs.length := (List.getElem?_eq_some_iff.mp h).1
  have e : ixN xs.length (j : Int) = some j := by
    unfold ixN
    rw [if_pos (by omega), if_pos (by omega)]; simp
  unfold atI; rw [e]; exact h
def PlainIx (b : Expr) : Prop := ∀ o i, subscripted b false o i = operate [o, i] (getItem o i)
def IxR (X : Cx) (r : R2) : Prop :=
  ∀ (value slice : Expr) (pins : List (Addr × Obj)) (s : Shared) (σ : St) (H : Hp) (x y : V) (v u : Value) (Q : VK), Inv X pins σ H s → RelV x v → RelV y u → r x y H Q →
    subscripted slice false v u = operate [v, u] (getItem v u) → wpAny (model X.prog X.w) X.A (subscriptTail value slice v u) (EP X pins σ Q) X.xe s
def MtR (X : Cx) (id : String) (r : V → List V → Hp → VK → Prop) : Prop :=
  ∀ (pins : List (Addr × Obj)) (s : Shared) (σ : St) (H : Hp) (x : V) (xs : List V) (v : Value) (us : List Value) (Q : VK), Inv X pins σ H s → RelV x v → Vals xs us → r x xs H Q →
    wpAny (model X.prog X.w) X.A (call (.builtin id) (v :: us)) (EP X pins σ Q) X.xe s
section
variable {X : Cx} {a b : Expr} {ta tb : TE} {pos : Pos}
theorem pe_ix {r : R2} (hr : IxR X r) (ha : PE X a ta) (hb : PE X b tb) (hs : PlainIx b) : PE X (.Subscript a b pos) (tOp r ta tb) := by
  intro pins s σ H Q I h
  exact Subscript_ (binT ha hb I h fun v u s2 x y H2 I2 rx ry q => hr a b pins s2 σ H2 x y v u Q I2 rx ry q (hs _ _))
def rIxL (K : PySem.W.Frag) : R2 := fun x y H Q => ∃ p xs i v, x = .ref p ∧ y = .int i ∧ SqL K H p xs ∧ atI xs i = some v ∧ Q v H
def rIxT (K : PySem.W.Frag) : R2 := fun x y H Q => ∃ p xs i v, x = .ref p ∧ y = .int i ∧ SqT K H p xs ∧ atI xs i = some v ∧ Q v H
theorem ix_list : IxR X (rIxL X.K) := by
  intro value slice pins s σ H x y v u Q I rx ry h hs
  obtain ⟨p, xs, i, z, rfl, rfl, hq, he, q⟩ := h
  cases rx
  obtain ⟨t, rfl⟩ := ry
  obtain ⟨its, r, pl, hz⟩ := I.list hq
  obtain ⟨j, h1, h2, h3, h4, h5⟩ := atI_get he
  obtain ⟨w, ew, rw'⟩ := r.get h2
  have hl := r.length
  have hn := line63
  have fin : EP X pins σ Q w s := ⟨z, H, I, rw', q⟩
  by_cases h0 : 0 ≤ i
  · have hj : i.toNat = j := by
      rw [seqIndex_of h0 h5] at h1
      exact Option.some.inj h1
    exact item_listR pl.isList h0 (by omega) (by rw [hj]; simpa using ew) fin hs
  · have hj : (i + (its.toArray.size : Int)).toNat = j := by
      rw [seqIndex_neg (by omega) h4] at h1
      rw [List.size_toArray, ← hl]
      exact Option.some.inj h1
    exact subscriptTail_builtinR (x := w) pl.isList.typeIs slot_list_getitem.lookup
      (wpAny_getItem_list_neg (Q := fun r s' => r = w ∧ EP X pins σ Q r s') pl.isList (by omega) (by rw [List.size_toArray] <;> omega) (by omega) (by rw [hj]; simpa using ew) ⟨rfl, fin⟩) hs
theorem ix_tup : IxR X (rIxT X.K) := by
  intro value slice pins s σ H x y v u Q I rx ry h hs
  obtain ⟨p, xs, i, z, rfl, rfl, hq, he, q⟩ := h
  cases rx
  obtain ⟨t, rfl⟩ := ry
  obtain ⟨its, r, pl, hz⟩ := I.tuple hq
  obtain ⟨j, h1, h2, h3, h4, h5⟩ := atI_get he
  obtain ⟨w, ew, rw'⟩ := r.get h2
  have hl := r.length
  have hn := line63
  have fin : EP X pins σ Q w s := ⟨z, H, I, rw', q⟩
  exact subscriptTail_builtinR (x := w) pl.typeIs slot_tuple_getitem.lookup
    (getItem_tuple (j := j) (Q := fun r s' => r = w ∧ EP X pins σ Q r s') pl (by omega) (by omega) (by rw [List.size_toArray, ← hl]; exact h1) (by simpa using ew) ⟨rfl, fin⟩) hs
theorem mapSeq_set (its : List Value) (n j : Nat) (u : Value) : Obj.mapSeq (·.setIfInBounds j u) { cls := .type "list", data := .seq its.toArray n } = { cls := .type "list", data := .seq (its.set j u).toArray n } := by
  simp [Obj.mapSeq]
theorem Inv.lst {pins : List (Addr × Obj)} {σ : St} {H : Hp} {s : Shared} {p : Addr} {xs : List V} (I : Inv X pins σ H s) (h : H p = some (.lst xs)) :
    ∃ (its : List Value) (n : Nat), Vals xs its ∧ s.heap.get? p = some { cls := .type "list", data := .seq its.toArray n } ∧ xs.length ≤ sizeLine := by
  obtain ⟨z, its, n, r, e⟩ := I.hok p _ h
  exact ⟨its, n, r, e, z⟩
theorem Inv.lstUpd {pins : List (Addr × Obj)} {σ : St} {H : Hp} {s : Shared} {p : Addr} {xs ys : List V} {its its' : List Value} {n n' : Nat} {f : Obj → Obj} (I : Inv X pins σ H s) (h : H p = some (.lst xs))
    (ho : s.heap.get? p = some { cls := .type "list", data := .seq its.toArray n }) (hf : f { cls := .type "list", data := .seq its.toArray n } = { cls := .type "list", data := .seq its'.toArray n' }) (r : Vals ys its') (hz : ys.length ≤ sizeLine) (t : Nat) :
    Inv X pins σ (upd H p (.lst ys)) { s with heap := s.heap.update p f, toks := t } := by
  have e : (s.heap.update p f).get? p = some { cls := .type "list", data := .seq its'.toArray n' } := by
    rw [Heap.get?_update_self f ho (by rw [hf] <;> rfl), hf]
  refine I.write (x := p) (e := p) (by rw [h]; trivial) (.inl rfl) (fun b u hb q => (Heap.get?_update_other _ _ (Ne.symm hb)).trans q) ⟨_, e⟩ ?_
  exact ⟨hz, its', n', r, e⟩
def rSetL : V → V → V → Hp → (Hp → Prop) → Prop := fun o i v H Q => ∃ p xs k j, o = .ref p ∧ i = .int k ∧ H p = some (.lst xs) ∧ ixN xs.length k = some j ∧ Q (upd H p (.lst (xs.set j v)))
theorem set_list : PSet X rSetL := by
  intro pins s σ H o i v ov iv u Q I ro ri rv h
  obtain ⟨p, xs, k, j, rfl, rfl, hp, hj, q⟩ := h
  cases ro
  obtain ⟨t, rfl⟩ := ri
  obtain ⟨its, n, r, ho, hz⟩ := I.lst hp
  obtain ⟨h1, h2, h3, h4⟩ := ixN_seq hj
  have hl := r.length
  have hn := line63
  have I' : Inv X pins σ (upd H p (.lst (xs.set j v))) { s with heap := s.heap.update p (Obj.mapSeq (·.setIfInBounds j u)) } :=
    I.lstUpd hp ho (mapSeq_set its n j u) (r.set rv j) (by rw [List.length_set]; exact hz) s.toks
  by_cases h0 : 0 ≤ k
  · have hk : k.toNat = j := by
      rw [seqIndex_of h0 h4] at h1
      exact Option.some.inj h1
    exact PySem.W.ki_setAt ho h0 (by omega) (by rw [List.size_toArray, ← hl]; exact h4) (by rw [hk]; exact ⟨_, I', q⟩)
  · have hk : (k + (its.toArray.size : Int)).toNat = j := by
      rw [seqIndex_neg (by omega) h3] at h1
      rw [List.size_toArray, ← hl]
      exact Option.some.inj h1
    exact PySem.W.ki_setBack ho (by omega) (by rw [List.size_toArray, ← hl]; exact h3) (by omega) (by rw [hk]; exact ⟨_, I', q⟩)
theorem slice_bounds (lo hi : Option Int) (n : Nat) : (sliceBounds lo hi none n).1 = ((HT.sIx n 0 lo : Nat) : Int) ∧ (sliceBounds lo hi none n).2.1 = ((HT.sIx n n hi : Nat) : Int) ∧ (sliceBounds lo hi none n).2.2 = 1 := by
  refine ⟨?_, ?_, rfl⟩
  · cases lo with
    | none => simp [sliceBounds, HT.sIx]
    | some i =>
      simp only [sliceBounds, HT.sIx, Option.getD_none, show (1 : Int) > 0 by decide, if_true]
      by_cases h : i < 0
      · simp only [h, if_true] <;> omega
      · simp only [h, if_false] <;> omega
  · cases hi with
    | none => simp [sliceBounds, HT.sIx]
    | some i =>
      simp only [sliceBounds, HT.sIx, Option.getD_none, show (1 : Int) > 0 by decide, if_true]
      by_cases h : i < 0
      · simp only [h, if_true] <;> omega
      · simp only [h, if_false] <;> omega
theorem slicePick_cut (its : List Value) (lo hi : Option Int) : slicePick its.toArray lo hi none = ((its.drop (HT.sIx its.length 0 lo)).take (HT.sIx its.length its.length hi - HT.sIx its.length 0 lo)).toArray := by
  obtain ⟨h1, h2, h3⟩ := slice_bounds lo hi its.toArray.size
  unfold slicePick
  rw [h1, h2, h3]
  simp only [sliceRange_one, pick_run, List.size_toArray] <;> rfl
def rSlL (K : PySem.W.Frag) : V → Option Int → Option Int → Hp → VK → Prop := fun x lo hi H Q => ∃ a xs, x = .ref a ∧ SqL K H a xs ∧ ∀ p, H p = none → Q (.ref p) (upd H p (.lst (cutV xs lo hi)))
theorem sl_list : SlR X (rSlL X.K) := by
  intro pins s σ H x v vl vu lo hi sl Q I rx hs pl pu h
  obtain ⟨a, xs, rfl, hx, q⟩ := h
  cases rx
  obtain ⟨its, r, ht, hz⟩ := I.list hx
  have hlen := r.length
  refine ⟨"list", _, slot_list_getitem.lookup, ht.isList.typeIs, ?_⟩
  refine wpAny_getItem_list_slice ht.isList hs pl pu .none (by simp) ?_ (by rw [List.size_toArray] <;> omega)
  rw [slicePick_cut, ← hlen]
  refine ⟨.ref s.heap.objs.size, _, I.laid (t' := s.toks) (o := .lst (cutV xs lo hi)) (fun b ob q => Heap.get?_push_of_some _ q) (Nat.le_refl _) ?_, rfl, q _ (I.hok.fresh (Nat.le_refl _))⟩
  exact ⟨Nat.le_trans (cutV_length xs lo hi) hz, _, 0, (r.drop (HT.sIx xs.length 0 lo)).take (HT.sIx xs.length xs.length hi - HT.sIx xs.length 0 lo), Heap.get?_push_size _ rfl⟩
theorem call_len_seq : CallR X (.builtin "len") (fun xs H Q => ∃ p ys, xs = [.ref p] ∧ (SqL X.K H p ys ∨ SqT X.K H p ys) ∧ Q (.int ys.length) H) := by
  intro pins s σ H xs us Q I r h
  obtain ⟨p, ys, rfl, hq, q⟩ := h
  obtain ⟨u, rfl, rx⟩ := vals1 r
  cases rx
  have hn := line63
  rcases hq with hq | hq
  · obtain ⟨its, r', pl, hz⟩ := I.list hq
    have hlen := r'.length
    exact Calls.call_len_list pl.isList (by simp only [List.size_toArray] <;> omega) ⟨.int ys.length, H, I.tok _, ⟨s.toks + 1, by rw [List.size_toArray, hlen]⟩, q⟩
  · obtain ⟨its, r', pl, hz⟩ := I.tuple hq
    have hlen := r'.length
    exact len_tuple pl (by simp only [List.size_toArray] <;> omega) ⟨.int ys.length, H, I.tok _, ⟨s.toks + 1, by rw [List.size_toArray, hlen]⟩, q⟩
theorem call_tuple_of : CallR X (.type "tuple") (fun xs H Q => ∃ p ys, xs = [.ref p] ∧ ((SqL X.K H p ys ∧ ∀ l, H l = none → Q (.ref l) (upd H l (.tup ys))) ∨ (SqT X.K H p ys ∧ Q (.ref p) H))) := by
  intro pins s σ H xs us Q I r h
  obtain ⟨p, ys, rfl, h⟩ := h
  obtain ⟨u, rfl, rx⟩ := vals1 r
  cases rx
  rcases h with ⟨hq, q⟩ | ⟨hq, q⟩
  · obtain ⟨its, r', pl, hz⟩ := I.list hq
    have hlen := r'.length
    refine call_tuple_list pl.isList (fun h' kp => ?_) (by simp only [List.size_toArray] <;> omega)
    have I1 : Inv X pins σ H { s with heap := h' } := I.kept (t' := s.toks) kp
    have I2 : Inv X pins σ (upd H h'.objs.size (.tup ys)) { s with heap := h'.push { cls := .type "tuple", data := .seq its.toArray } } :=
      I1.laid (t' := s.toks) (fun b o e => Heap.get?_push_of_some _ e) (Nat.le_refl _) (show ObjOk X.prog X.w _ _ _ (.tup ys) from ⟨hz, its, r', IsTup.new _ _⟩)
    exact ⟨.ref h'.objs.size, _, I2, rfl, q _ (I1.hok.fresh (Nat.le_refl _))⟩
  · obtain ⟨its, r', pl, hz⟩ := I.tuple hq
    exact call_tuple_same pl ⟨.ref p, H, I, rfl, q⟩
def tyV (K : PySem.W.Frag) (T : String) (x : V) (H : Hp) : Prop := match x with
  | .str _ => T = "str"
  | .int _ => T = "int"
  | .ref p => (T = "list" ∧ ∃ xs, SqL K H p xs) ∨ (T = "tuple" ∧ ∃ o, K.lookup p = some o ∧ o.cls = .type "tuple" ∧ o.dict = none) ∨
      (T = "dict" ∧ ((∃ kvs, H p = some (.dK kvs)) ∨ ∃ kvs, H p = some (.dT kvs))) ∨ (T = "set" ∧ ∃ S n, H p = some (.set S n))
  | _ => False
theorem tyV_is {pins : List (Addr × Obj)} {σ : St} {H : Hp} {s : Shared} {T : String} {x : V} {v : Value} (I : Inv X pins σ H s) (r : RelV x v) (ty : tyV X.K T x H) :
    s.TypeIs v T ∧ ∀ a, v = .ref a → ∃ ob, s.heap.get? a = some ob ∧ ob.dict = none := by
  cases x with
  | str z =>
    obtain ⟨t, rfl⟩ := r
    cases (show T = "str" from ty)
    exact ⟨typeIs_str s z t, fun _ e => nomatch e⟩
  | int i =>
    obtain ⟨t, rfl⟩ := r
    cases (show T = "int" from ty)
    exact ⟨typeIs_int s i t, fun _ e => nomatch e⟩
  | ref p =>
    cases r
    rcases ty with ⟨rfl, xs, hq⟩ | ⟨rfl, o, hk, hc, hd⟩ | ⟨rfl, hk⟩ | ⟨rfl, S, n, hk⟩
    · obtain ⟨its, _, pl, _⟩ := I.list hq
      refine ⟨pl.isList.typeIs, fun a e => ?_⟩
      cases e
      obtain ⟨o, n, e, c, hd, _⟩ := pl
      exact ⟨o, e, hd⟩
    · refine ⟨⟨o, I.kIn p o hk, hc⟩, fun a e => ?_⟩
      cases e
      exact ⟨o, I.kIn _ o hk, hd⟩
    · have z : ∃ o, s.heap.get? p = some o ∧ o.ExactDict := by
        rcases hk with ⟨kvs, hk⟩ | ⟨kvs, hk⟩
        · obtain ⟨_, _, _, _, o, _, _, e, ex, _⟩ := I.hok p _ hk
          exact ⟨o, e, ex⟩
        · obtain ⟨_, _, _, _, o, _, _, e, ex, _⟩ := I.hok p _ hk
          exact ⟨o, e, ex⟩
      obtain ⟨o, e, ex⟩ := z
      refine ⟨⟨o, e, ex.1⟩, fun a e2 => ?_⟩
      cases e2
      exact ⟨o, e, ex.2.1⟩
    · obtain ⟨o, _, _, _, e, ex, _⟩ := I.hok p _ hk
      refine ⟨⟨o, e, ex.1⟩, fun a e2 => ?_⟩
      cases e2
      exact ⟨o, e, ex.2.1⟩
  | _ => exact False.elim ty
def tBM0 (K : PySem.W.Frag) (T : String) (r : V → List V → Hp → VK → Prop) (to : TE) : TE := fun σ H Q => to σ H fun x H1 => tyV K T x H1 ∧ r x [] H1 Q
def tBM (K : PySem.W.Frag) (T : String) (r : V → List V → Hp → VK → Prop) (to : TE) (t : TA) : TE := fun σ H Q => to σ H fun x H1 => tyV K T x H1 ∧ t σ H1 fun xs H2 => r x xs H2 Q
variable {o e : Expr} {es : List Expr} {to : TE} {t : TA} {name : Str} {apos cpos : Pos} {T id : String} {r : V → List V → Hp → VK → Prop}
theorem pe_bm0 (pa : PlainAttrs T) (slot : Slot T name id) (hty : typeOf (.builtin id) = pure (.type "method_descriptor")) (hm : MtR X id r) (ho : PE X o to)
    (hbase : attributeBase o name X.env (eval o X.env) = eval o X.env := by rfl) (hline : (apos.endLine == cpos.line) = true := by rfl) : PE X (.Call (.Attribute o name apos) [] [] cpos) (tBM0 X.K T r to) := by
  intro pins s σ H Q I h
  refine wpAny_Call_method0_late hbase hline (thn (ho pins s σ H _ I h) fun v s1 ⟨x, H1, I1, r1, ty, q1⟩ => ?_)
  obtain ⟨h1, h2⟩ := tyV_is I1 r1 ty
  exact ⟨T, id, pa, slot, hty, h1, h2, Calls.callWith_builtin rfl (PySem.evalArgs_none (hm pins s1 σ H1 x [] v [] Q I1 r1 .nil q1))⟩
theorem pe_bm (pa : PlainAttrs T) (slot : Slot T name id) (hty : typeOf (.builtin id) = pure (.type "method_descriptor")) (hm : MtR X id r) (ho : PE X o to) (ha : PA X (e :: es) t)
    (hbase : attributeBase o name X.env (eval o X.env) = eval o X.env := by rfl)
    (hfew : ((backTo cpos (starEach (e :: es) X.env)).all (fun x => !x.1) && (backToKw cpos (keywordEach [] X.env)).all (fun x => x.1.isSome)
      && decide ((e :: es).length + ([] : List Keyword).length + (if ([] : List Keyword).isEmpty then 0 else 1) < 30)) = true := by rfl)
    (hline : (apos.endLine == cpos.line) = true := by rfl) (hs : starEach (e :: es) X.env = (false, eval e X.env) :: starEach es X.env := by rfl) (hplain : (backTo cpos (starEach es X.env)).any (·.1) = false := by rfl) :
    PE X (.Call (.Attribute o name apos) (e :: es) [] cpos) (tBM X.K T r to t) := by
  intro pins s σ H Q I h
  refine wpAny_Call_method_late hbase hfew hline rfl (thn (ho pins s σ H _ I h) fun v s1 ⟨x, H1, I1, r1, ty, q1⟩ => ?_)
  obtain ⟨h1, h2⟩ := tyV_is I1 r1 ty
  refine ⟨T, id, pa, slot, hty, h1, h2, ?_⟩
  have hA := ha cpos pins s1 σ H1 _ I1 q1
  rw [hs] at hA ⊢
  refine Calls.callWith_builtin (by show (false || (backTo cpos (starEach es X.env)).any (·.1)) = false; rw [hplain] <;> rfl) (Calls.evalArgs_plain ?_)
  exact thn hA fun us s2 ⟨vs, H2, I2, r2, q2⟩ => hm pins s2 σ H2 x vs v us Q I2 r1 r2 q2
/- xs.append(e), list.index on a module's tuple .. are MtR facts of 06m -/
end
end L2
namespace L2
open PySem PySem.Spec PyProof.Rows
def MtM (X : Cx) (id : String) (r : V → List V → Hp → VK → Prop) : Prop :=
  ∀ (pins : List (Addr × Obj)) (s : Shared) (σ : St) (H : Hp) (x : V) (xs : List V) (v : Value) (us : List Value) (Q : VK), Inv X pins σ H s → RelV x v → Vals xs us → r x xs H Q →
    wpAny (model X.prog X.w) X.A (call (.builtin id) (v :: us)) (EP X pins σ Q) X.xe s
theorem Vals.one : ∀ {x : V} {us : List Value}, Vals [x] us → ∃ u, us = [u] ∧ RelV x u
  | _, _, .cons r .nil => ⟨_, rfl, r⟩
theorem Vals.zero : ∀ {us : List Value}, Vals [] us → us = []
  | _, .nil => rfl
theorem Vals.dropLast {xs : List V} {us : List Value} (h : Vals xs us) : Vals xs.dropLast us.dropLast := by
  induction h with
  | nil => exact .nil
  | cons r t ih =>
    cases t with
    | nil => exact .nil
    | cons q t' => exact .cons r ih
theorem Vals.eraseIdx : ∀ {xs : List V} {us : List Value} (i : Nat), Vals xs us → Vals (xs.eraseIdx i) (us.eraseIdx i)
  | _, _, _, .nil => .nil
  | _, _, 0, .cons _ t => t
  | _, _, i + 1, .cons r t => .cons r (Vals.eraseIdx i t)
theorem Vals.reverse {xs : List V} {us : List Value} (h : Vals xs us) : Vals xs.reverse us.reverse := by
  induction h with
  | nil => exact .nil
  | cons r t ih => rw [List.reverse_cons, List.reverse_cons]; exact Vals.append ih (.cons r .nil)
theorem erase_last {α : Type} (l : List α) : l.eraseIdx (l.length - 1) = l.dropLast := by
  induction l with
  | nil => rfl
  | cons a r ih =>
    cases r with
    | nil => rfl
    | cons b r =>
      have e : (a :: b :: r).length - 1 = ((b :: r).length - 1) + 1 := by
        have h1 : (a :: b :: r).length = r.length + 2 := rfl
        have h2 : (b :: r).length = r.length + 1 := rfl
        omega
      rw [e, List.eraseIdx_cons_succ, ih]
      all_goals rfl
theorem len_erase {α : Type} : ∀ (l : List α) (i : Nat), (l.eraseIdx i).length ≤ l.length
  | [], _ => Nat.le_refl _
  | _ :: _, 0 => Nat.le_succ _
  | _ :: r, i + 1 => Nat.succ_le_succ (len_erase r i)
section
variable {X : Cx} {pins : List (Addr × Obj)} {σ : St} {H : Hp} {s : Shared} {l b : Addr} {xs ys zs : List V}
theorem Inv.lset {its its' : List Value} {n : Nat} {f : Array Value → Array Value} {t' : Nat} (I : Inv X pins σ H s) (hH : H l = some (.lst xs))
    (e : s.heap.get? l = some { cls := .type "list", data := .seq its.toArray n }) (hf : f its.toArray = its'.toArray) (hv : Vals ys its') (hz : ys.length ≤ sizeLine) :
    Inv X pins σ (upd H l (.lst ys)) { s with heap := s.heap.update l (Obj.mapSeq f), toks := t' } := by
  have q := PySem.IsL.update e f
  rw [hf] at q
  refine I.write (x := l) (e := l) (by rw [hH]; exact trivial) (.inl rfl) (fun b' u hb hu => (Heap.get?_update_other s.heap (Obj.mapSeq f) (Ne.symm hb)).trans hu) ⟨_, q⟩ ?_
  exact ⟨hz, its', _, hv, q⟩
theorem Inv.lnew {its : List Value} {t' : Nat} (I : Inv X pins σ H s) (hv : Vals ys its) (hz : ys.length ≤ sizeLine) :
    Inv X pins σ (upd H s.heap.objs.size (.lst ys)) { s with heap := s.heap.push { cls := .type "list", data := .seq its.toArray }, toks := t' } :=
  I.laid (fun _ _ q => Heap.get?_push_of_some _ q) (Nat.le_refl _) ⟨hz, its, 0, hv, Heap.get?_push_size _ rfl⟩
theorem Inv.fresh (I : Inv X pins σ H s) : H s.heap.objs.size = none := I.hok.fresh (Nat.le_refl _)
theorem Inv.lstM (I : Inv X pins σ H s) (hH : H l = some (.lst xs)) : xs.length ≤ sizeLine ∧ ∃ (its : List Value) (n : Nat), Vals xs its ∧ xs.length = its.length ∧ s.heap.get? l = some { cls := .type "list", data := .seq its.toArray n } := by
  obtain ⟨z, its, n, r, e⟩ := I.hok l _ hH
  exact ⟨z, its, n, r, r.length, e⟩
theorem notLongL {n : Nat} (h : n ≤ sizeLine) : Builtin.List.listTooLong n = false := by
  unfold Builtin.List.listTooLong
  exact decide_eq_false (by omega)
end
section
variable {X : Cx}
def rAppend : V → List V → Hp → VK → Prop := fun x vs H Q => ∃ l xs y, x = .ref l ∧ vs = [y] ∧ H l = some (.lst xs) ∧ xs.length < sizeLine ∧ Q .non (upd H l (.lst (xs ++ [y])))
theorem mt_append : MtM X "list.append" rAppend := by
  intro pins s σ H x vs v us Q I rx rv h
  obtain ⟨l, xs, y, rfl, rfl, hH, hz, q⟩ := h
  cases rx
  obtain ⟨u, rfl, ru⟩ := rv.one
  obtain ⟨z, its, n, r, hl, e⟩ := I.lstM hH
  refine call_meets F.slot_list_append ⟨_, e, rfl⟩ F.entry_list_append (F.args_list_append_2 _ _) (PySem.list_append l its.toArray n u (by rw [List.size_toArray]; omega)) ⟨e, ?_⟩
  refine ⟨.non, _, I.lset (its' := its ++ [u]) hH e (by simp) (r.append (.cons ru .nil)) ?_, rfl, q⟩
  rw [List.length_append, List.length_singleton]
  omega
def rExtend : V → List V → Hp → VK → Prop := fun x vs H Q => ∃ l b xs zs, x = .ref l ∧ vs = [.ref b] ∧ H l = some (.lst xs) ∧ H b = some (.lst zs) ∧ xs.length + zs.length ≤ sizeLine ∧ Q .non (upd H l (.lst (xs ++ zs)))
theorem mt_extend : MtM X "list.extend" rExtend := by
  intro pins s σ H x vs v us Q I rx rv h
  obtain ⟨l, b, xs, zs, rfl, rfl, hH, hB, hz, q⟩ := h
  cases rx
  obtain ⟨u, rfl, ru⟩ := rv.one
  cases ru
  obtain ⟨z, its, n, r, hl, e⟩ := I.lstM hH
  obtain ⟨z2, its2, n2, r2, hl2, e2⟩ := I.lstM hB
  have hsz : its.toArray.size + its2.toArray.size ≤ sizeLine := by rw [List.size_toArray, List.size_toArray]; omega
  have hlong : ¬ (!its.toArray.isEmpty && Builtin.List.listTooLong (its.toArray.size + its2.toArray.size)) = true := by
    rw [notLongL hsz, Bool.and_false]
    exact Bool.false_ne_true
  refine call_meets F.slot_list_extend ⟨_, e, rfl⟩ F.entry_list_extend (F.args_list_extend_2 _ _)
    (AutoSeq1.list_extend_list_list_0 l its.toArray n b its2.toArray n2 hlong (by rw [List.size_toArray]; omega) (by omega)) ⟨e, e2, ?_⟩
  refine ⟨.non, _, I.lset (its' := its ++ its2) hH e (by simp) (r.append r2) ?_, rfl, q⟩
  rw [List.length_append]
  omega
def rPop : V → List V → Hp → VK → Prop := fun x vs H Q => ∃ l xs y, x = .ref l ∧ vs = [] ∧ H l = some (.lst xs) ∧ xs[xs.length - 1]? = some y ∧ Q y (upd H l (.lst xs.dropLast))
theorem mt_pop : MtM X "list.pop" rPop := by
  intro pins s σ H x vs v us Q I rx rv h
  obtain ⟨l, xs, y, rfl, rfl, hH, hy, q⟩ := h
  cases rx
  have hus := rv.zero
  subst hus
  obtain ⟨z, its, n, r, hl, e⟩ := I.lstM hH
  obtain ⟨u, hu, ru⟩ := r.get hy
  have hy' : its.toArray[its.toArray.size - 1]? = some u := by
    show its.toArray[its.length - 1]? = some u
    rw [← Array.getElem?_toList, ← hl]
    exact hu
  refine call_meets F.slot_list_pop ⟨_, e, rfl⟩ F.entry_list_pop (F.args_list_pop_1 _) (MeetsSeq.list_pop_last l its.toArray n u hy' (by rw [List.size_toArray]; omega)) ⟨e, ?_⟩
  refine ⟨y, _, I.lset (its' := its.dropLast) hH e ?_ r.dropLast ?_, ru, q⟩
  · show its.toArray.eraseIdxIfInBounds (its.toArray.size - 1) = its.dropLast.toArray
    rw [List.size_toArray, List.eraseIdxIfInBounds_toArray, erase_last]
  · rw [List.length_dropLast]
    omega
def rPopAt : V → List V → Hp → VK → Prop := fun x vs H Q => ∃ l xs i k y, x = .ref l ∧ vs = [.int i] ∧ H l = some (.lst xs) ∧ -(2 ^ 63) ≤ i ∧ i < 2 ^ 63 ∧ seqIndex? i xs.length = some k ∧ xs[k]? = some y ∧ Q y (upd H l (.lst (xs.eraseIdx k)))
theorem mt_popAt : MtM X "list.pop" rPopAt := by
  intro pins s σ H x vs v us Q I rx rv h
  obtain ⟨l, xs, i, k, y, rfl, rfl, hH, h1, h2, hk, hy, q⟩ := h
  cases rx
  obtain ⟨u, rfl, ru⟩ := rv.one
  obtain ⟨t, rfl⟩ := ru
  obtain ⟨z, its, n, r, hl, e⟩ := I.lstM hH
  obtain ⟨w, hw, rw'⟩ := r.get hy
  refine call_meets F.slot_list_pop ⟨_, e, rfl⟩ F.entry_list_pop (F.args_list_pop_2 _ _)
    (MeetsSeq.list_pop_at l its.toArray n i t k w (fitsIndex_both h1 h2) (by rw [List.size_toArray, ← hl]; exact hk) (by rw [← Array.getElem?_toList]; exact hw) (by rw [List.size_toArray]; omega)) ⟨e, ?_⟩
  refine ⟨y, _, I.lset (its' := its.eraseIdx k) hH e ?_ (r.eraseIdx k) ?_, rw', q⟩
  · show its.toArray.eraseIdxIfInBounds k = (its.eraseIdx k).toArray
    rw [List.eraseIdxIfInBounds_toArray]
  · have := len_erase xs k
    omega
def rCat : R2 := fun x y H Q => ∃ l b xs zs, x = .ref l ∧ y = .ref b ∧ H l = some (.lst xs) ∧ H b = some (.lst zs) ∧ xs.length + zs.length ≤ sizeLine ∧ ∀ p, H p = none → Q (.ref p) (upd H p (.lst (xs ++ zs)))
theorem op_cat : OpR X (binaryOp .Add) rCat := by
  intro pins s σ H x y v u Q I rx ry h
  obtain ⟨l, b, xs, zs, rfl, rfl, hH, hB, hz, q⟩ := h
  cases rx
  cases ry
  obtain ⟨z, its, n, r, hl, e⟩ := I.lstM hH
  obtain ⟨z2, its2, n2, r2, hl2, e2⟩ := I.lstM hB
  refine PySem.P.add_list e e2 ?_ (by rw [List.size_toArray, List.size_toArray]; omega)
  have ea : its.toArray ++ its2.toArray = (its ++ its2).toArray := by simp
  rw [ea]
  exact ⟨.ref _, _, I.lnew (t' := s.toks) (r.append r2) (by rw [List.length_append]; omega), rfl, q _ I.fresh⟩
end
section
variable {prog : Program} {w : World} {A : Around} {E : Value → Shared → Prop} {s : Shared}
end
section
variable {X : Cx}
end
end L2
namespace Att
open PySem PySem.W PySem.Calls PyProof.Rows
theorem ints_of_wellAll {P : Params} {h : Heap} : ∀ (ns : List Int) (vs : List Value), WellAll P h vs (ns.map WData.int) → IntsAre vs ns := by
  intro ns
  induction ns with
  | nil =>
    intro vs w
    rw [List.map_nil] at w
    cases w
    exact .nil
  | cons n ns ih =>
    intro vs w
    rw [List.map_cons] at w
    cases w with
    | cons a b =>
      cases a
      exact .cons _ _ (ih _ b)
theorem script_of {l : OpenLaw} {n : Nat} (hn : l.most = some n) {P : Params} {h : Heap} {args : List WData} {vals : List Value}
    (hpre : l.row.toRowW.claim.pre args = true) (hwl : WellAll P h vals args) :
    ∃ a vs ns, vals = [Value.ref a] ∧ args = [WData.list (ns.map WData.int)] ∧ h.get? a = some { cls := .type "list", data := .seq vs.toArray } ∧ IntsAre vs ns ∧ ns.length ≤ n := by
  have hsh : WShape.hasAll [] args [.list .int] = true := (pre_splitW hpre).1
  have hc : l.pre.holds [] { args := args } = true := (pre_splitW hpre).2
  obtain ⟨d, r, rfl, h1, h2⟩ := hasAllW_cons hsh
  obtain rfl := hasAllW_nil h2
  obtain ⟨xs, rfl, h3⟩ := hasW_list h1
  obtain ⟨ns, rfl⟩ := items_int h3
  have hlen : ns.length ≤ n := by
    unfold OpenLaw.pre at hc
    have h4 : (WTm.not (.lt (.lit (.int (n : Int))) (.len (.arg 0)))).holds [] { args := [.list (ns.map .int)] } = true := by
      have h4 := (holds_andW hc).1
      rw [hn] at h4
      exact h4
    have h5 := condW_of h4 (w_not (w_lt w_lit (w_len_list (w_arg rfl))))
    rw [List.length_map] at h5
    refine Nat.le_of_not_lt fun q => ?_
    have q' : (n : Int) < ((ns.length : Nat) : Int) := by omega
    first
      | (rw [decide_eq_true q'] at h5; exact absurd h5 (by decide))
      | (simp at h5; omega)
  cases hwl with
  | cons w1 w2 =>
    cases w2
    cases w1 with
    | list ho hall => exact ⟨_, _, ns, rfl, rfl, ho, ints_of_wellAll ns _ hall, hlen⟩
theorem post_true (l : OpenLaw) (args : List WData) : l.row.toRowW.claim.post args (.bool true) args = true :=
  postW_of (r := l.row.toRowW) (X := (true == true))
    (show WShape.has [] (.bool true) .bool = true by first | rfl | decide | simp [WShape.has, WShape.arms, WShape.armsAll])
    (show (WTm.eq .res (.lit (.bool true))).value [] { args := args, res := some (.bool true), after := args } = some (.bool (true == true)) from w_eq_bool (w_res rfl) w_lit) rfl
theorem attach_call {l : OpenLaw} {n : Nat} {q : Program} {loose : List Str} {XP : (Str → Option Value) → Heap → Prop} {YP : World → Heap → Prop} {d : DefRec}
    (hn : l.most = some n) (hdf : d.params.defaults = [])
    (call : ∀ (w : World) (s₀ s₁ : Shared) (mg mb : Str → Option Value) (fa : Addr) (o : Obj) (pm cd doc : Value) (a : Addr) (vs : List Value) (ns : List Int),
      Ground q loose [] XP w s₀ mg mb s₁.heap → YP w s₁.heap →
      s₁.heap.get? fa = some o → o.data = .func (docDef d.name d.params d.body d.scope pm cd doc) → s₁.heap.CodeRec cd d.name → mg d.name = some (.ref fa) →
      s₁.heap.get? a = some { cls := .type "list", data := .seq vs.toArray } → IntsAre vs ns → ns.length ≤ n → s₁.gens = #[] →
      codeAny (model l.prog w) callerA (.call (.ref fa) ⟨[.ref a], []⟩) (fun r s' => r = .ok (.ret (.bool true)) ∧ OldK s₁.heap s'.heap ∧ s'.os = s₁.os ∧ AllBare s'.gens) s₁) :
    WalkO q loose XP YP l.row.toRowW d [] (fun f vs => PySem.call f vs) := by
  intro w s₀ s₁ mg mb G Y fa o pm cd doc dV kV ho hd hcd hD hmg hg args vals as hpre hlay hrd hwl hlo
  obtain rfl : dV = .none := Dflts.none hD hdf
  obtain rfl : kV = .none := Dflts.noKw hD
  obtain ⟨a, vs, ns, rfl, rfl, hobj, hints, hlen⟩ := script_of hn hpre hwl
  refine enter_call (codeAny_mono (call w s₀ s₁ mg mb fa o pm cd doc a vs ns G Y ho (fd_plain hd) hcd hmg hobj hints hlen hg) fun r s' hq => ?_)
  obtain ⟨rfl, h2, h3, h4⟩ := hq
  exact ⟨.inl ⟨.bool true, .bool true, [], rfl, fun _ => rfl, .bool true, post_true l _, fun _ => ⟨List.Pairwise.nil, fun _ hm => (nomatch hm)⟩⟩, h2, h3, h4⟩
section
variable {prog : Program} {w : World} {A : Around} {E : Value → Shared → Prop} {s : Shared} {K : Frag}
end
end Att
namespace L2
open PySem PySem.Spec PyProof.Rows
theorem vals_ints : ∀ {vs : List Value} {ns : List Int}, IntsAre vs ns → Vals (ns.map V.int) vs
  | _, _, .nil => .nil
  | _, _, .cons n t h => .cons ⟨t, rfl⟩ (vals_ints h)
def Only (H : Hp) : Prop := ∀ b, H b = none ∨ ∃ o xs, H b = some (.frz o (.lst xs))
theorem law_call {P : Program} {w : World} {K : PySem.W.Frag} {mg mb : Str → Option Value} {CX : CXT} {k : Nat} {fa a : Addr} {fd : FuncData} {x : Str} {sp : Sp} {s₁ : Shared} {vs : List Value} {ns : List Int}
    (KX : K.In s₁.heap) (hns : s₁.heap.Ns mainGlobals mg) (hb : s₁.heap.Ns builtinsNs mb) (hbb : ∀ x : Str, x ≠ "__name__" → mb x = bootBuiltins x) (hlim : s₁.heap.NoLimit) (hg : s₁.gens = #[])
    (ha : s₁.heap.get? a = some { cls := .type "list", data := .seq vs.toArray }) (hi : IntsAre vs ns) (hl : ns.length ≤ sizeLine) (hr : Room k callerA)
    (F : ∀ base : Heap, K.In base → base.Ns mainGlobals mg → FnOk P w K mg base CX k fa fd [x] sp) (hbind : ∀ (s : Shared) (u : Value), BindsTo s fd ⟨[u], []⟩ [(x, u)])
    (hsp : ∀ H : Hp, Only H → SqL K H a (ns.map V.int) → sp [.ref a] H (fun v _ => v = .bl true) fun _ _ _ => False)
    (hCX : ∀ H e s', CX [] H s₁ (fun _ _ _ => False) e s' → False) :
    codeAny (model P w) callerA (.call (.ref fa) ⟨[.ref a], []⟩) (fun r s' => r = .ok (.ret (.bool true)) ∧ OldK s₁.heap s'.heap ∧ s'.os = s₁.os ∧ AllBare s'.gens) s₁ := by
  have rv := vals_ints hi
  have lenV := hi.length
  -- from an abstract heap in which nothing but the script may be tracked
  have core : ∀ H : Hp, Only H → SqL K H a (ns.map V.int) → HOk P w H s₁.heap → (∀ b, H b ≠ none → b = a) → (H a ≠ none → K.lookup a = none) →
      codeAny (model P w) callerA (.call (.ref fa) ⟨[.ref a], []⟩) (fun r s' => r = .ok (.ret (.bool true)) ∧ OldK s₁.heap s'.heap ∧ s'.os = s₁.os ∧ AllBare s'.gens) s₁ := by
    intro H hO hS hok hA hK
    have base_of : ∀ {b : Addr} {o : Obj}, s₁.heap.get? b = some o → H b = none → (hidT s₁.heap H).get? b = some o := fun e n => hidT_get e n
    have noA : ∀ {b : Addr} {o : Obj} {es : Array DictEntry} {ep : Nat}, s₁.heap.get? b = some o → o.data = .dict es ep → H b = none := fun {b o es ep} e d => by
      cases q : H b with
      | none => rfl
      | some u =>
        have e' : b = a := hA b (by rw [q]; simp)
        subst e'
        rw [ha] at e; cases e
        have d' : Data.seq vs.toArray _ = Data.dict es ep := d
        cases d'
    have nsK : ∀ {b : Addr} {m : Str → Option Value}, s₁.heap.Ns b m → (hidT s₁.heap H).Ns b m := fun {b m} ⟨o, es, ep, e, d, r⟩ => ⟨o, es, ep, base_of e (noA e d), d, r⟩
    have hKb : K.In (hidT s₁.heap H) := fun b o e => base_of (KX b o e) (by
      cases q : H b with
      | none => rfl
      | some u =>
        have e' : b = a := hA b (by rw [q]; simp)
        subst e'
        rw [hK (by rw [q]; simp)] at e; cases e)
    have hM : Mod K mg (hidT s₁.heap H) := ⟨hKb, nsK hns, ⟨mb, nsK hb, hbb⟩, let ⟨mc, h1, h2⟩ := hlim; ⟨mc, nsK h1, h2⟩⟩
    have e0 : Env0 P w K mg (hidT s₁.heap H) callerA [] s₁ H := ⟨rfl, hM, fun b o e => of_hidT e, Nat.le_of_eq (hidT_size _ _), trivial, fun b hb => absurd (show b ∈ ([] : List Addr) from hb) (by simp), hok, .of_eq hg⟩
    refine codeAny_mono ((F _ hKb (nsK hns)).run callerA [] s₁ H ⟨[.ref a], []⟩ [.ref a] [.ref a] _ _ hr e0 (hbind s₁ (.ref a)) (.cons rfl .nil) (hsp H hO hS)) fun r s' h => ?_
    cases r with
    | error e => exact (hCX H e s' h).elim
    | ok fl =>
      cases fl with
      | next => exact False.elim h
      | brk => exact False.elim h
      | cont => exact False.elim h
      | ret u =>
        obtain ⟨v, H', os, bare, un, hok', r', q⟩ := h
        have q' : v = .bl true := q
        subst q'
        obtain rfl : u = Value.bool true := r'
        refine ⟨rfl, OldK.of_keep fun b o e => ?_, os, bare⟩
        cases q : H b with
        | none => exact un.keep b o e q (by intro z; exact absurd (show b ∈ ([] : List Addr) from z) (by simp)) (by simp)
        | some u =>
          rcases hO b with z | ⟨ob, xs, z⟩
          · rw [q] at z; cases z
          · have z2 := un.frzs b ob _ z
            obtain ⟨e1, _⟩ := hok b _ z
            obtain ⟨e2, _⟩ := hok' b _ z2
            rw [e] at e1; cases e1
            exact e2
  cases hk : K.lookup a with
  | some o =>
    -- the script is one of the module's own objects
    have e := KX a o hk
    rw [ha] at e
    cases e
    refine core (fun _ => none) (fun _ => .inl rfl) (.inr ⟨_, vs.toArray, _, hk, rfl, rfl, rfl, by rw [List.size_toArray, lenV]; exact hl, by simpa using rv⟩) (fun b u z => by have z' : (none : Option HO) = some u := z; cases z') (fun b z => absurd rfl z) fun z => absurd rfl z
  | none =>
    refine core (fun b => if b = a then some (.frz { cls := .type "list", data := .seq vs.toArray } (.lst (ns.map V.int))) else none) (fun b => ?_) (.inl (.inr ⟨{ cls := .type "list", data := .seq vs.toArray }, if_pos rfl⟩)) (fun b u z => ?_) (fun b z => ?_) fun _ => hk
    · by_cases hb : b = a
      · exact .inr ⟨_, _, if_pos hb⟩
      · exact .inl (if_neg hb)
    · by_cases hb : b = a
      · have z' := (if_pos hb).symm.trans z
        cases z'
        subst hb
        exact ⟨ha, by rw [List.length_map]; exact hl, vs, _, rv, ha⟩
      · have z' := (if_neg hb).symm.trans z
        cases z'
    · by_cases hb : b = a
      · exact hb
      · exact absurd (if_neg hb) z
end L2
namespace L2
open PySem PySem.Spec PyProof.Rows
theorem walk_of {l : PySem.W.OpenLaw} {n k : Nat} {q : Program} {loose : List Str} {XP : (Str → Option Value) → Heap → Prop} {YP : World → Heap → Prop} {d : DefRec} {K : Params → PySem.W.Frag} {CX : World → CXT} {sp : World → Sp} {x : Str}
    (hn : l.most = some n) (hn2 : n ≤ sizeLine) (hdf : d.params.defaults = []) (hr : Room k callerA)
    (hY : ∀ (w : World) (h : Heap), YP w h → (K w.params).In h)
    (F : ∀ (w : World) (mg : Str → Option Value) (fa : Addr) (h : Heap), (K w.params).In h → h.Ns mainGlobals mg → mg d.name = some (.ref fa) →
      ∃ fd : FuncData, (∀ (s : Shared) (u : Value), BindsTo s fd ⟨[u], []⟩ [(x, u)]) ∧
        ∀ base : Heap, (K w.params).In base → base.Ns mainGlobals mg → FnOk l.prog w (K w.params) mg base (CX w) k fa fd [x] (sp w))
    (hsp : ∀ (w : World) (H : Hp) (a : Addr) (ns : List Int), ns.length ≤ n → Only H → SqL (K w.params) H a (ns.map V.int) → sp w [.ref a] H (fun v _ => v = .bl true) fun _ _ _ => False)
    (hCX : ∀ (w : World) (H : Hp) (s : Shared) (e : Value) (s' : Shared), CX w [] H s (fun _ _ _ => False) e s' → False) :
    PySem.W.WalkO q loose XP YP l.row.toRowW d [] (fun f vs => PySem.call f vs) := by
  refine Att.attach_call hn hdf fun w s₀ s₁ mg mb fa o pm cd doc a vs ns G Y ho hd hcd hmg hobj hints hlen hg => ?_
  have KX := hY w _ Y
  obtain ⟨fd, hb, hF⟩ := F w mg fa _ KX G.T.g hmg
  exact law_call KX G.T.g G.T.b G.T.builtins G.T.nolimit hg hobj hints (Nat.le_trans hlen hn2) hr hF hb (fun H hO hS => hsp w H a ns hlen hO hS) fun H e s' => hCX w H s₁ e s'
end L2
namespace L2
open PySem PySem.Spec PyProof.Rows
def inClass (s : Stmt) (j : Nat) : Stmt := match s with
  | .ClassDef _ _ _ body _ _ _ _ _ _ _ => body.getD j (.Pass ⟨0, 0, 0, 0⟩)
  | _ => .Pass ⟨0, 0, 0, 0⟩
def defArgs (s : Stmt) : Arguments := match s with
  | .FunctionDef _ a _ _ _ _ _ _ _ _ => a
  | _ => { posonlyargs := [], args := [], vararg := none, kwonlyargs := [], kw_defaults := [], kwarg := none, defaults := [] }
def defBody (s : Stmt) : List Stmt := match s with
  | .FunctionDef _ _ b _ _ _ _ _ _ _ => b
  | _ => []
def defScope (s : Stmt) : Scope := match s with
  | .FunctionDef _ _ _ _ _ _ sc _ _ _ => sc
  | _ => { kind := .function, names := [], isGenerator := false, isCoroutine := false }
abbrev CX0 : CXT := fun _ _ _ _ _ _ => False
abbrev E0 : XK := fun _ _ _ => False
theorem pass0 {X : Cx} : Passes CX0 X E0 := fun _ _ _ _ _ _ _ h => h.elim
structure Fun (K : PySem.W.Frag) (x qual : Str) (st : Stmt) (f : Addr) (fd : FuncData) : Prop where
  ex : ∃ (oc : Value) (od : Option Addr) (kV doc pm : Value) (an : Option Addr) (cdv ct : Value) (osl : Array (Option Value)),
    fd = PySem.W.fnOf x qual (defArgs st) (defBody st) (defScope st) .none kV doc pm an cdv ct ∧ K.lookup f = some ⟨oc, od, .func fd, osl⟩ ∧ PySem.W.codeIn K cdv qual = true
  kp : PySem.W.keepIn K (.ref f) = true
section
variable {P : Program} {w : World} {K : PySem.W.Frag} {mg : Str → Option Value} {base : Heap}
theorem Fun.ok {x qual : Str} {st : Stmt} {f : Addr} {fd : FuncData} {N ps : List Str} {k : Nat} {sp : Sp} (F : Fun K x qual st f fd) (S : FnScope N ps (defScope st)) (len : ∀ vs H Q E, sp vs H Q E → vs.length = ps.length)
    (hbody : ∀ (cdv : Value) (A : Around) (outer : List Env) (s : Shared) (H : Hp) (vs : List V) (Q : VK) (E : XK), Room k (A.deeper (envOfC qual (defScope st) s.heap.objs.size f cdv)) → sp vs H Q E →
      ∃ t, PSs (cxOf CX0 P w K mg base N qual (defScope st) f cdv A outer s H E).nox (defBody st) t ∧ t { nx := fun _ H' => Q .non H', rt := Q } (start N vs) H) : FnOk P w K mg base CX0 (k + 1) f fd ps sp := by
  obtain ⟨oc, od, kV, doc, pm, an, cdv, ct, osl, rfl, lk, hcd⟩ := F.ex
  refine fn_of lk hcd S len fun A outer s H vs Q E hr hsp => ?_
  obtain ⟨t, h, q⟩ := hbody cdv A outer s H vs Q E hr hsp
  exact ⟨t, h.nox, q⟩
theorem Fun.binds {x qual : Str} {st : Stmt} {f : Addr} {fd : FuncData} {ps : List Str} (F : Fun K x qual st f fd)
    (h : ∀ (kV doc pm : Value) (an : Option Addr) (cdv ct : Value) (us : List Value), us.length = ps.length → bindArgs (PySem.W.fnOf x qual (defArgs st) (defBody st) (defScope st) .none kV doc pm an cdv ct) ⟨us, []⟩ = pure (ps.zip us)) : Binds K fd ps [] := by
  obtain ⟨oc, od, kV, doc, pm, an, cdv, ct, osl, rfl, lk, hcd⟩ := F.ex
  exact .all (h kV doc pm an cdv ct)
theorem fun_mk {x qual : Str} {st : Stmt} {f : Addr} {oc : Value} {od an : Option Addr} {osl : Array (Option Value)} {kV doc pm cdv ct : Value} (l : K.lookup f = some ⟨oc, od, .func (PySem.W.fnOf x qual (defArgs st) (defBody st) (defScope st) .none kV doc pm an cdv ct), osl⟩)
    (c : PySem.W.codeIn K cdv qual = true) (k : PySem.W.keepIn K (.ref f) = true) : Fun K x qual st f (PySem.W.fnOf x qual (defArgs st) (defBody st) (defScope st) .none kV doc pm an cdv ct) := ⟨⟨oc, od, kV, doc, pm, an, cdv, ct, osl, rfl, l, c⟩, k⟩
end
theorem hu_of {A : Around} {k : Nat} (hr : Room k A) : A.units + 1 < cLine := Nat.lt_of_le_of_lt (Nat.add_le_add_left (by decide : 1 ≤ 64) _) hr.units
section
variable {X : Cx}
theorem pv (i : Nat) {x : Str} {pos : Pos} (hN : X.N[i]? = some x := by rfl) (hv : Vis X.env.scope x := by first | exact Or.inl rfl | exact Or.inr (Or.inl rfl) | exact Or.inr (Or.inr rfl)) (hd : (x == ("__debug__" : Str)) = false := by decide)
    (hcd : (x == ("__classdict__" : Str)) = false := by decide) : PE X (.Name x pos) (tVar i) := pe_var hN hv hd hcd
end
theorem iteF {A B : Prop} (h : B) : if false = true then A else B := by
  rw [if_neg Bool.false_ne_true]
  exact h
theorem iteT {A B : Prop} (h : A) : if true = true then A else B := by
  rw [if_pos rfl]
  exact h
theorem ite2 {c A B : Prop} [Decidable c] (h1 : c → A) (h2 : ¬ c → B) : if c then A else B := by
  by_cases h : c
  · rw [if_pos h]
    exact h1 h
  · rw [if_neg h]
    exact h2 h
theorem iteNS {c A B : Prop} [Decidable c] (hc : c) (h : B) : if (!decide c) = true then A else B := by
  rw [decide_eq_true hc]
  exact iteF h
def Same (H H' : Hp) : Prop := ∀ b o, H b = some o → H' b = some o
theorem Same.refl (H : Hp) : Same H H := fun _ _ h => h
theorem Same.trans {H H1 H2 : Hp} (a : Same H H1) (b : Same H1 H2) : Same H H2 := fun c o h => b c o (a c o h)
theorem Same.free {H H' : Hp} (e : Same H H') {l : Addr} (h : H' l = Option.none) : H l = Option.none := by
  cases q : H l with
  | none => rfl
  | some o =>
    rw [e l o q] at h
    cases h
theorem Same.seq {K : PySem.W.Frag} {H H' : Hp} {a : Addr} {xs : List V} (e : Same H H') (h : SqL K H a xs) : SqL K H' a xs := by
  rcases h with (h | ⟨o, h⟩) | h
  · exact .inl (.inl (e _ _ h))
  · exact .inl (.inr ⟨o, e _ _ h⟩)
  · exact .inr h
end L2
set_option Elab.async false
set_option linter.all false
set_option maxRecDepth 100000
set_option maxHeartbeats 4000000
namespace L2
open PySem PySem.Spec PyProof.Rows
section
variable {prog : Program} {w : World} {A : Around} {R : Result → Shared → Prop} {s : Shared}
theorem compLoop_go {elt target iter : Expr} {scope : Scope} {pos : Pos} {it acc : Value} {env : Env} (I : Nat → Shared → Prop)
    (turn : ∀ n s, I n s → wpAny (model prog w) A (pyNext it) (fun r s₁ => match r with
      | none => R (.ok .next) s₁
      | some v => wpAny (model prog w) A (letOwnedTupleGo target it v) (fun _ s₀ => wpAny (model prog w) A (assign target env v) (fun _ s₂ => wpAny (model prog w) A (eval elt env) (fun x s₃ =>
          wpAny (model prog w) A (call (.builtin "list.append") [acc, x]) (fun _ s₄ => ∃ m, m < n ∧ I m s₄) (fun _ _ => False) s₃) (fun _ _ => False) s₂) (fun _ _ => False) s₀) (fun _ _ => False) s₁) (fun _ _ => False) s)
    (n : Nat) (h : I n s) : codeAny (model prog w) A (.compLoop (.ListComp elt [⟨target, iter, [], 0⟩] scope pos) 0 it acc env) R s := by
  refine codeAny_loop rfl I (fun n s hI => ?_) n h
  show wpAny _ _ ((compTurn (.ListComp elt [⟨target, iter, [], 0⟩] scope pos) 0 it acc env).onRaise (fun x => do noteFrame x env; theTreesLotGoes x)) _ _ s
  refine wpAny_noted ?_
  rw [compTurn_list1]
  refine wpAny_bind (wpAny_standAt (wpAny_bind (wpAny_mono (turn n s hI) (fun r s₁ h₁ => ?_) fun _ _ h' => h'.elim)))
  cases r with
  | none => exact wpAny_pure h₁
  | some v =>
    refine wpAny_bind (wpAny_mono h₁ (fun _ s₀ h₀ => ?_) fun _ _ h' => h'.elim)
    exact wpAny_bind (wpAny_mono h₀ (fun _ s₂ h₂ => wpAny_bind (wpAny_bind (wpAny_mono h₂ (fun x s₃ h₃ => wpAny_bind (wpAny_mono h₃
      (fun _ s₄ h₄ => wpAny_pure (wpAny_pure ⟨rfl, h₄⟩)) fun _ _ h' => h'.elim)) fun _ _ h' => h'.elim))) fun _ _ h' => h'.elim)
end
def cxComp (X : Cx) (Nc : List Str) (scope : Scope) (cl : List (Str × Addr)) (C : Addr) (s : Shared) (H : Hp) (ex : List Addr) : Cx where
  prog := X.prog
  w := X.w
  K := X.K
  mg := X.mg
  base := X.base
  A := X.A
  N := Nc
  s₀ := s
  H₀ := H
  env := compEnvC scope cl C X.env
  outer := X.stack
  stack := X.stack
  ex := ex
  fn := fun _ => false
  calm := X.calm
  pn := []
  xe := fun _ _ => False
def CompGo (te : TE) (fv : St) (Q : VK) (J : It) (H1 : Hp) : Prop := ∃ W : Nat → Nat → List V → Hp → Prop, (∃ m, W 0 m [] H1) ∧ ∀ i m ys H2, W i m ys H2 →
  (J.stop i H2 ∧ ys.length ≤ sizeLine ∧ ∀ D, H2 D = none → Q (.ref D) (upd H2 D (.lst ys))) ∨
  (J.go i H2 ∧ ys.length < sizeLine ∧ ∀ x H3, J.yld i H2 x H3 → te (some x :: fv) H3 fun y H4 => ∃ m', m' < m ∧ W (i + 1) m' (ys ++ [y]) H4)
def tComp (wi : TI) (fv : St → St) (te : TE) : TE := fun σ H Q => wi σ H (CompGo te (fv σ) Q)
structure CompScope (X : Cx) (x : Str) (fns : List Str) (ixs : List Nat) (scope : Scope) (cl : List (Str × Addr)) : Prop where
  clos : closureFor scope X.env = pure cl
  sub : ∀ y c, cl.lookup y = some c → X.env.cells.lookup y = some c
  cell : ∀ y ∈ scope.names, y.2 ≠ .cell
  kind : scope.kind = .function
  names : ∀ y ∈ scope.names, y.2 = .local → scope.names.lookup y.1 = some .local
  own : scope.names.lookup x = some .local
  has : ∀ y, ((relabel scope X.env).names.lookup y = some .cell ∨ (relabel scope X.env).names.lookup y = some .free) → ∃ c, cl.lookup y = some c
  nd : (x :: fns).Nodup
  len : ixs.length = fns.length
  at_ : ∀ (j : Nat) (y : Str), fns[j]? = some y → ∃ i : Nat, ixs[j]? = some i ∧ X.N[i]? = some y ∧ (X.env.kindOf y = some .cell ∨ X.env.kindOf y = some .free) ∧ ∃ c, cl.lookup y = some c ∧ ((relabel scope X.env).names.lookup y = some .cell ∨ (relabel scope X.env).names.lookup y = some .free)
def fvOf (ixs : List Nat) : St → St := fun σ => ixs.map fun i => (σ[i]?).join
section
variable {X : Cx} {elt iter : Expr} {x : Str} {px pos : Pos} {scope : Scope} {cl : List (Str × Addr)} {fns : List Str} {ixs : List Nat} {wi : TI} {te : TE}
theorem relabel_own (hx : scope.names.lookup x = some .local) : (relabel scope X.env).names.lookup x = some .local := lookup_relabel_local hx
theorem pe_comp (hc : X.calm = true) (hi : PI X (.Name x px) iter wi) (S : CompScope X x fns ixs scope cl)
    (he : ∀ (C : Addr) (s : Shared) (H : Hp) (ex : List Addr), PE (cxComp X (x :: fns) scope cl C s H ex) elt te)
    (hs : ∀ x, foldedSetIterable iter X.env x = pure x := by intro _; rfl) :
    PE X (.ListComp elt [⟨.Name x px, iter, [], 0⟩] scope pos) (tComp wi (fvOf ixs) te) := by
  intro pins s σ H Q I h
  rw [eval_ListComp]
  refine wpAny_comprehension_free (use := none) rfl hs S.clos S.kind S.names (thn (hi pins s σ H _ I h) fun v s1 h1 => thn h1 fun itv s2 h2 => ?_)
  obtain ⟨it, fp, tn, J, H2, e, I2, T, st2, f2, W, ⟨m0, w0⟩, turn⟩ := h2
  subst e
  have hfpLt : ∀ b ∈ fp, b < s2.heap.objs.size := fun b hb => by
    obtain ⟨o, ho, _⟩ := T.obj _ _ st2 b hb
    exact Heap.lt_size ho
  refine wpAny_newObj_type (wpAny_newFunctionEnv S.cell (by intro y hy; simp at hy) (fun h₁ hns₁ hsb₁ => ?_) S.kind)
  dsimp only at hns₁ hsb₁ ⊢
  generalize hH3 : s2.heap.push { cls := .type "list", dict := none, data := .seq ([] : List Value).toArray } = hp3 at hns₁ hsb₁ ⊢
  generalize hD : s2.heap.objs.size = D at hfpLt ⊢
  have hC : hp3.objs.size = D + 1 := by rw [← hH3, Heap.size_push, hD]
  generalize hCe : hp3.objs.size = C at hC hns₁ hsb₁ ⊢
  have hDltC : D < C := by omega
  have hDC : D ≠ C := Nat.ne_of_lt hDltC
  have k23 : ∀ b u, s2.heap.get? b = some u → hp3.get? b = some u := fun b u q => by rw [← hH3]; exact Heap.get?_push_of_some _ q
  have ltD : ∀ {b u}, s2.heap.get? b = some u → b < D := fun q => by rw [← hD]; exact Heap.lt_size q
  have k34 : ∀ b u, hp3.get? b = some u → h₁.get? b = some u := fun b u q =>
    hsb₁.extBut b u (Nat.ne_of_lt (Nat.lt_of_lt_of_le (Heap.lt_size q) (Nat.le_of_eq hCe))) (Heap.get?_push_of_some _ q)
  have hDo : hp3.get? D = some { cls := .type "list", dict := none, data := .seq ([] : List Value).toArray } := by rw [← hH3, ← hD]; exact Heap.get?_push_size _ rfl
  have I3 : Inv X pins σ H2 { s2 with heap := hp3 } := I2.kept (t' := s2.toks) k23
  have hnD : H2 D = none := I2.hok.fresh (by omega)
  have hnC : H2 C = none := I2.hok.fresh (by omega)
  have nstk : ∀ b ∈ D :: fp, b ∉ frs X.stack := fun b hb z => by
    rcases List.mem_cons.mp (I2.stkSub b z) with e | z
    · rcases List.mem_cons.mp hb with e2 | hb
      · exact absurd I2.lt (by rw [← e, e2, ← hD]; exact Nat.lt_irrefl _)
      · exact (f2 b hb).2.1 e
    · rcases List.mem_cons.mp hb with e2 | hb
      · exact I2.nofs (by rw [e2, ← hD]; exact Nat.le_refl _) z
      · exact (f2 b hb).2.2.1 z
  have cne : ∀ y c, cl.lookup y = some c → ∀ b ∈ D :: fp, c ≠ b := fun y c q b hb z => by
    obtain ⟨v, hv⟩ := I2.cell y c (S.sub y c q)
    rcases List.mem_cons.mp hb with e2 | hb
    · exact absurd hv.lt (by rw [z, e2, ← hD]; exact Nat.lt_irrefl _)
    · exact (f2 b hb).2.2.2.2.1 y c (S.sub y c q) z
  -- the block's context
  let Xc : Cx := cxComp X (x :: fns) scope cl C { s2 with heap := hp3 } H2 (D :: fp)
  have ok : Xc.Ok := {
    mod := I2.ok.mod
    kind := S.kind
    glob := I2.ok.glob
    blt := I2.ok.blt
    above := by show hp3.objs.size ≤ C; omega
    inj := fun y z c q1 q2 => I2.ok.inj y z c (S.sub _ _ q1) (S.sub _ _ q2)
    has := S.has
    cab := fun y c q => nomatch q
    hd := I2.ok.hd
    frames := I2.ok.frames
    stk := .inl rfl
    exf := fun b hb => ⟨by
      rcases List.mem_cons.mp hb with e2 | hb
      · rw [e2]; exact hDC
      · exact Nat.ne_of_lt (Nat.lt_trans (hfpLt b hb) hDltC), fun y c q => cne y c q b hb⟩
    bs := I3.bs
    bsz := Nat.le_trans I3.ok.bsz I3.sz
    noex := fun b o q hb => by
      rcases List.mem_cons.mp hb with e2 | hb
      · exact absurd (ltD (I2.bs b o q).1) (by rw [e2]; exact Nat.lt_irrefl _)
      · rcases (f2 b hb).2.2.2.1 with z | z
        · exact I2.ok.noex b o q z
        · exact absurd (Heap.lt_size (I2.ok.bs b o q).1) (Nat.not_lt.mpr z)
    exfs := nstk
    funs := I3.stack
    frf := I3.stkFree }
  have start : ∀ (v0 : Option V) , v0 = none → Inv Xc [(D, { cls := .type "list", dict := none, data := .seq ([] : List Value).toArray })] (v0 :: fvOf ixs σ) H2 { s2 with heap := h₁, toks := s2.toks + ([] : List (Str × Value)).length } := fun v0 hv0 => {
    ok := ok
    os := rfl
    bare := I2.bare
    base := Un.kept k34
    loc := ⟨_, hns₁, fun i y v e1 e2 e3 => by
      cases i with
      | zero => rw [hv0] at e2; cases e2
      | succ j =>
        have e1' : fns[j]? = some y := e1
        have e2' : (fvOf ixs σ)[j]? = some (some v) := e2
        obtain ⟨i, hi1, hi2, hk, c, hc1, hc2⟩ := S.at_ j y e1'
        unfold fvOf at e2'
        rw [List.getElem?_map, hi1] at e2'
        have e3' : σ[i]? = some (some v) := by
          have z : (σ[i]?).join = some v := Option.some.inj e2'
          cases q : σ[i]? with
          | none => rw [q] at z; cases z
          | some o => rw [q] at z; rw [show o = some v from z]
        obtain ⟨m, _, hl⟩ := I2.loc
        obtain ⟨u, r, l⟩ := hl i y v hi2 e3' (hk.elim (fun z => .inr (.inl z)) fun z => .inr (.inr z))
        refine ⟨u, r, .inr ⟨hc2, c, hc1, ?_⟩⟩
        rcases l with ⟨z, _⟩ | ⟨_, c', hc', hcell⟩
        · rcases hk with hk | hk <;> (rw [hk] at z; cases z)
        · have : c' = c := Option.some.inj (hc'.symm.trans (S.sub _ _ hc1))
          subst this
          obtain ⟨o, ho, hd⟩ := hcell
          exact ⟨o, k34 _ _ (k23 _ _ ho), hd⟩⟩
    cell := fun y c q => by
      obtain ⟨v, o, ho, hd⟩ := I2.cell y c (S.sub y c q)
      exact ⟨v, o, k34 _ _ (k23 _ _ ho), hd⟩
    free := hnC
    freeC := fun y c q => I2.freeC y c (S.sub y c q)
    pin := fun p hp => by
      have hp' : p = (D, { cls := .type "list", dict := none, data := .seq ([] : List Value).toArray }) := by simpa [Xc, cxComp] using hp
      subst hp'
      exact ⟨k34 _ _ hDo, hnD, hDC, nstk D (List.mem_cons_self ..), fun v z => nomatch z⟩
    hok := (I2.hok.kept k23).kept k34
    len := by show (v0 :: fvOf ixs σ).length = (x :: fns).length; simp [fvOf, S.len] }
  -- what stays true of the iterator's objects
  have fpc : ∀ {H' : Hp} {pins' : List (Addr × Obj)}, (∀ b ∈ fp, H' b = none) → (∀ p ∈ pins', p.1 = D) → ∀ b ∈ fp, FpOk Xc pins' H' b := fun {H' pins'} hn hp b hb =>
    ⟨hn b hb, Nat.ne_of_lt (Nat.lt_trans (hfpLt b hb) hDltC), nstk b (List.mem_cons_of_mem _ hb), .inl (List.mem_cons_of_mem _ hb), fun y c q => cne y c q b (List.mem_cons_of_mem _ hb), fun p q => by
      have q' : p ∈ pins' := by simpa [Xc, cxComp] using q
      rw [hp p q']
      exact Nat.ne_of_gt (hfpLt b hb)⟩
  have loop : codeAny (model X.prog X.w) X.A (.compLoop (.ListComp elt [⟨.Name x px, iter, [], 0⟩] scope pos) 0 (.ref it) (.ref D) (compEnvC scope cl C X.env))
      (compPost (model X.prog X.w) X.A X.xe none (EP X pins σ Q) (.ref D) C) { s2 with heap := h₁, toks := s2.toks + ([] : List (Str × Value)).length } := by
    refine compLoop_go (fun n s' => ∃ (i : Nat) (ys : List V) (its : List Value) (nn : Nat) (v0 : Option V) (H' : Hp), Inv Xc [(D, { cls := .type "list", dict := none, data := .seq its.toArray nn })] (v0 :: fvOf ixs σ) H' s' ∧ tn i s'.heap ∧ (∀ b ∈ fp, H' b = none) ∧ Vals ys its ∧ W i n ys H') ?_ m0
      ⟨0, [], [], 0, none, H2, start none rfl, T.keep _ _ _ st2 fun b _ o q => k34 _ _ (k23 _ _ q), fun b hb => (f2 b hb).1, .nil, w0⟩
    rintro n s3 ⟨i, ys, its, nn, v0, H3, J3, tn3, fr3, vv, w3⟩
    have pinD : ∀ p ∈ ([(D, ({ cls := .type "list", dict := none, data := .seq its.toArray nn } : Obj))] : List (Addr × Obj)), p.1 = D := fun p hp => by
      have : p = (D, { cls := .type "list", dict := none, data := .seq its.toArray nn }) := by simpa using hp
      rw [this]
    rcases turn i n ys H3 w3 with ⟨stop, hlen, q⟩ | ⟨go, hlen, step⟩
    · -- the end
      refine thn (T.done Xc rfl rfl rfl hc i _ s3 _ H3 _ J3 (fpc fr3 pinD) tn3 stop) fun r s4 ⟨hr, J4⟩ => ?_
      subst hr
      obtain ⟨m, hn, _⟩ := J4.loc
      refine ⟨m, hn, fun h'' hsb => ?_⟩
      obtain ⟨gD, nD, _, _, _⟩ := J4.pin (D, { cls := .type "list", dict := none, data := .seq its.toArray nn }) (by simp [Xc, cxComp])
      have B := J4.base
      have kC : ∀ b u, b ≠ C → s4.heap.get? b = some u → h''.get? b = some u := fun b u hb q => (hsb.2 b hb).trans q
      have ne : ∀ {b o}, s2.heap.get? b = some o → b ≠ C ∧ b ≠ D := fun q => ⟨Nat.ne_of_lt (Nat.lt_trans (ltD q) hDltC), Nat.ne_of_lt (ltD q)⟩
      have nex : ∀ {b o}, s2.heap.get? b = some o → b ∉ fp → b ∉ D :: fp := fun q hx z => (List.mem_cons.mp z).elim (ne q).2 hx
      have uu : Un (frs X.stack) fp H2 (upd H3 D (.lst ys)) s2.heap h'' := {
        keep := fun b o q n hb hx => kC b o (ne q).1 (B.keep b o (k23 b o q) n hb (nex q hx))
        slot := fun b o q n hb hx => by
          obtain ⟨sl, e⟩ := B.slot b o (k23 b o q) n hb (nex q hx)
          exact ⟨sl, kC b _ (ne q).1 e⟩
        free := fun b o q n hx => by rw [upd_ne (ne q).2]; exact B.free b o (k23 b o q) n (nex q hx)
        there := fun b o q hx => by
          obtain ⟨o', e⟩ := B.there b o (k23 b o q) (nex q hx)
          exact ⟨o', kC b _ (ne q).1 e⟩
        tups := fun b xs q => by rw [upd_ne (ne_of_none q hnD)]; exact B.tups b xs q
        frzs := fun b o xs q => by rw [upd_ne (ne_of_none q hnD)]; exact B.frzs b o xs q
        tbls := fun b ps q => by
          obtain ⟨more, e⟩ := B.tbls b ps q
          exact ⟨more, by rw [upd_ne (ne_of_none q hnD)]; exact e⟩ }
      have hok : HOk X.prog X.w (upd H3 D (.lst ys)) h'' := fun b u e => by
        by_cases hb : b = D
        · subst hb
          rw [upd_same] at e
          cases e
          exact ⟨hlen, its, nn, vv, kC _ _ hDC gD⟩
        · rw [upd_ne hb] at e
          refine (J4.hok b u e).stay (fun c v hc q => kC c v ?_ q) (fun c q => by rw [upd_ne (ne_of_none q nD)]; exact q) fun c xs q => by rw [upd_ne (ne_of_none q nD)]; exact q
          have fC : H3 C = none := J4.free
          rcases hc with rfl | hc
          · exact ne_of_none e fC
          · exact ne_of_none hc fC
      exact ⟨.ref D, _, I2.call' (s' := { s4 with heap := h'' }) J4.os uu hok J4.bare (fun b hb => ⟨(f2 b hb).2.2.2.1, (f2 b hb).2.1, (f2 b hb).2.2.2.2.1, (f2 b hb).2.2.2.2.2⟩), rfl, q D nD⟩
    · -- a turn
      refine thn (T.item Xc rfl rfl rfl hc i _ s3 _ H3 _ J3 (fpc fr3 pinD) tn3 go) fun r s4 ⟨u, hr, h4⟩ => ?_
      subst hr
      refine thn h4 fun _ s5 ⟨xv, H5, J5, r5, y5, tn5, fr5⟩ => ?_
      have J5' := J5.pinned (fpc fr5 pinD) (T.obj _ _ tn5)
      have hg : PG Xc (.Name x px) (gName 0) := pg_name (X := Xc) (i := 0) S.nd rfl (.inl (relabel_own S.own)) (.inr (relabel_own S.own))
      refine thn (hg _ s5 _ H5 xv u (fun σ' H' => σ' = some xv :: fvOf ixs σ ∧ H' = H5) J5' r5 ⟨rfl, rfl⟩) fun _ s6 ⟨σ6, H6, J6, e6, e6'⟩ => ?_
      subst e6 e6'
      refine thn (he C { s2 with heap := hp3 } H2 (D :: fp) _ s6 _ H6 _ J6 (step xv H6 y5)) fun yv s7 ⟨y, H7, J7, r7, m', hm', w7⟩ => ?_
      obtain ⟨gD, nD, _, _, _⟩ := J7.pin (D, { cls := .type "list", dict := none, data := .seq its.toArray nn }) (by simp [Xc, cxComp])
      have tn7 : tn (i + 1) s7.heap := T.keep _ _ _ tn5 fun b hb o e => (J7.pin (b, o) (List.mem_append_right _ (List.mem_append_right _ (mem_pinsAt hb e)))).1
      have fr7 : ∀ b ∈ fp, H7 b = none := fun b hb => by
        obtain ⟨o, e, d⟩ := T.obj _ _ tn5 b hb
        exact (J7.pin (b, o) (List.mem_append_right _ (List.mem_append_right _ (mem_pinsAt hb e)))).2.1
      have J7' : Inv Xc [] (some xv :: fvOf ixs σ) H7 s7 := J7.pins_of fun p hp => nomatch hp
      refine wpAny_list_append_plain (hsz := by rw [List.size_toArray, ← vv.length]; omega) ⟨nn, gD⟩ fun h8 pl8 sb8 => ?_
      obtain ⟨n8, g8⟩ := pl8
      have J8 : Inv Xc [] (some xv :: fvOf ixs σ) H7 { s7 with heap := h8 } := J7'.turned (t' := s7.toks) (it := D) (fun b o hb e => (sb8.2 b hb).trans e) nD (hDC) (.inl (List.mem_cons_self ..))
        (fun y c q => cne y c q D (List.mem_cons_self ..)) (fun p hp => by simp [Xc, cxComp] at hp)
      refine ⟨m', hm', i + 1, ys ++ [y], its ++ [yv], n8, some xv, H7, J8.pins_of fun p hp => ?_, ?_, fr7, vv.append (.cons r7 .nil), w7⟩
      · have : p = (D, { cls := .type "list", dict := none, data := .seq (its ++ [yv]).toArray n8 }) := by simpa using hp
        subst this
        refine ⟨?_, nD, hDC, nstk D (List.mem_cons_self ..), fun v z => nomatch z⟩
        have : its.toArray.push yv = (its ++ [yv]).toArray := by simp
        rw [this] at g8
        exact g8
      · exact T.keep _ _ _ tn7 fun b hb o e => (sb8.2 b (Nat.ne_of_lt (hfpLt b hb))).trans e
  exact codeAny_compStart_list loop (T.self _ 0 _ _ _ (T.keep _ _ _ st2 fun b _ o q => k34 _ _ (k23 _ _ q)) loop)
end
theorem compScope0 {X : Cx} {x : Str} {scope : Scope} (hf : ∀ y ∈ scope.names, y.2 ≠ .free) (hc : ∀ y ∈ scope.names, y.2 ≠ .cell) (hk : scope.kind = .function)
    (hn : ∀ y ∈ scope.names, y.2 = .local → scope.names.lookup y.1 = some .local) (hx : scope.names.lookup x = some .local) : CompScope X x [] [] scope [] where
  clos := closureFor_none hf
  sub := fun y c h => nomatch h
  cell := hc
  kind := hk
  names := hn
  own := hx
  has := fun y h => by
    have e : (relabel scope X.env).names = scope.names := by
      unfold relabel
      refine map_eq_self fun z hz => ?_
      obtain ⟨n, k⟩ := z
      have : (k == NameKind.free) = false := by simpa using hf _ hz
      simp [this]
    rw [e] at h
    rcases h with h | h
    · exact absurd rfl (hc _ (PySem.mem_of_lookup h))
    · exact absurd rfl (hf _ (PySem.mem_of_lookup h))
  nd := by simp
  len := rfl
  at_ := fun j y h => by simp at h
theorem comp_pure {J : It} {H1 : Hp} {fv : St} {te : TE} {Q : VK} (xs : List V) (g : V → V) (hgo : ∀ i : Nat, i < xs.length → J.go i H1) (hy : ∀ (i : Nat) (x : V) (H3 : Hp), i < xs.length → J.yld i H1 x H3 → H3 = H1 ∧ xs[i]? = some x)
    (hst : J.stop xs.length H1) (hfit : xs.length ≤ sizeLine) (he : ∀ (i : Nat) (x : V), xs[i]? = some x → ∀ R : VK, R (g x) H1 → te (some x :: fv) H1 R) (hQ : ∀ D, H1 D = none → Q (.ref D) (upd H1 D (.lst (xs.map g)))) :
    CompGo te fv Q J H1 := by
  refine ⟨fun i m ys H2 => m = xs.length - i ∧ i ≤ xs.length ∧ ys = (xs.take i).map g ∧ H2 = H1, ⟨xs.length, by simp, Nat.zero_le _, by simp, rfl⟩, ?_⟩
  rintro i m ys H2 ⟨rfl, hi, rfl, rfl⟩
  by_cases hlt : i < xs.length
  · refine .inr ⟨hgo i hlt, by rw [List.length_map, List.length_take]; omega, fun x H3 hyl => ?_⟩
    obtain ⟨e3, hx⟩ := hy i x H3 hlt hyl
    subst e3
    refine he i x hx _ ⟨xs.length - (i + 1), by omega, rfl, hlt, ?_, rfl⟩
    rw [List.take_succ, hx]
    simp
  · have e : i = xs.length := by omega
    subst e
    refine .inl ⟨hst, by rw [List.length_map, List.length_take]; omega, fun D hD => ?_⟩
    rw [List.take_length]
    exact hQ D hD
def negV : V → V
  | .int z => .int (-z)
  | v => v
theorem itt_go {K : PySem.W.Frag} {H : Hp} {a : Addr} {xs : List V} (h : SqT K H a xs) : ∀ i, i < xs.length → (Itt K a).go i H := fun i hi => ⟨xs, xs[i], h, List.getElem?_eq_getElem hi⟩
theorem itt_yld {K : PySem.W.Frag} {H : Hp} {a : Addr} {xs : List V} (h : SqT K H a xs) : ∀ i x H3, i < xs.length → (Itt K a).yld i H x H3 → H3 = H ∧ xs[i]? = some x := fun i x H3 _ y => ⟨y.1, y.2 xs h⟩
theorem itt_stop {K : PySem.W.Frag} {H : Hp} {a : Addr} {xs : List V} (h : SqT K H a xs) : (Itt K a).stop xs.length H := ⟨xs, h, Nat.le_refl _⟩
theorem itl_go {K : PySem.W.Frag} {H : Hp} {a : Addr} {xs : List V} (h : SqL K H a xs) : ∀ i, i < xs.length → (Itl K a).go i H := fun i hi => ⟨xs, xs[i], h, List.getElem?_eq_getElem hi⟩
theorem itl_yld {K : PySem.W.Frag} {H : Hp} {a : Addr} {xs : List V} (h : SqL K H a xs) : ∀ i x H3, i < xs.length → (Itl K a).yld i H x H3 → H3 = H ∧ xs[i]? = some x := fun i x H3 _ y => ⟨y.1, y.2 xs h⟩
theorem itl_stop {K : PySem.W.Frag} {H : Hp} {a : Addr} {xs : List V} (h : SqL K H a xs) : (Itl K a).stop xs.length H := ⟨xs, h, Nat.le_refl _⟩
def tCut (t : TS) : TS := fun D σ H => ∃ G : St → Hp → Prop, t { D with nx := G } σ H ∧ ∀ σ' H', G σ' H' → D.nx σ' H'
theorem ps_cut {X : Cx} {st : Stmt} {t : TS} (h : PS X st t) : PS X st (tCut t) := by
  intro pins s σ H D I ⟨G, h1, h2⟩
  refine thn (h pins s σ H { D with nx := G } I h1) fun f s' q => ?_
  cases f with
  | next => obtain ⟨σ', H', I', g⟩ := q; exact ⟨σ', H', I', h2 σ' H' g⟩
  | _ => exact q
theorem relabel_mem {scope : Scope} {env : Env} {y : Str} {k : NameKind} (h : (relabel scope env).names.lookup y = some k) (hk : k = .cell ∨ k = .free) (hc : ∀ z ∈ scope.names, z.2 ≠ .cell) : (y, NameKind.free) ∈ scope.names := by
  have hm := PySem.mem_of_lookup h
  unfold relabel at hm
  obtain ⟨⟨n, k'⟩, hz, e⟩ := List.mem_map.mp hm
  dsimp only at e
  by_cases hf : (k' == NameKind.free && env.scope.kind == .function && env.kindOf n == some .cell) = true
  · rw [if_pos hf] at e
    have e1 : n = y := congrArg Prod.fst e
    rw [Bool.and_eq_true, Bool.and_eq_true] at hf
    have e2 : k' = .free := eq_of_beq hf.1.1
    rw [← e1, ← e2]
    exact hz
  · rw [if_neg hf] at e
    have e1 : n = y := congrArg Prod.fst e
    have e2 : k' = k := congrArg Prod.snd e
    subst e1 e2
    rcases hk with rfl | rfl
    · exact absurd rfl (hc _ hz)
    · exact hz
theorem lookup_relabel_free {env : Env} (hf : env.scope.kind = .function) {y : Str} (hy : env.kindOf y = some .cell) : ∀ {names : List (Str × NameKind)}, names.lookup y = some .free →
    (names.map fun (n, k) => if (k == NameKind.free && env.scope.kind == .function && env.kindOf n == some .cell) then (n, NameKind.cell) else (n, k)).lookup y = some .cell
  | [], h => by simp at h
  | (n, k) :: r, h => by
    have ih := @lookup_relabel_free env hf y hy r
    show List.lookup y ((if (k == NameKind.free && env.scope.kind == .function && env.kindOf n == some .cell) = true then (n, NameKind.cell) else (n, k)) :: _) = _
    cases hx : y == n with
    | true =>
      simp only [List.lookup_cons, hx] at h
      have e : y = n := eq_of_beq hx
      subst e
      cases h
      have hc : (NameKind.free == NameKind.free && env.scope.kind == .function && env.kindOf y == some .cell) = true := by rw [hf, hy]; rfl
      rw [if_pos hc]
      simp only [List.lookup_cons, hx]
    | false =>
      simp only [List.lookup_cons, hx] at h
      by_cases hc : (k == NameKind.free && env.scope.kind == .function && env.kindOf n == some .cell) = true
      · rw [if_pos hc]; simp only [List.lookup_cons, hx]; exact ih h
      · rw [if_neg hc]; simp only [List.lookup_cons, hx]; exact ih h
theorem compScope1 {X : Cx} {x y : Str} {scope : Scope} {c : Addr} {i : Nat} (hclos : closureFor scope X.env = pure [(y, c)]) (hy : X.env.cells.lookup y = some c) (hc : ∀ z ∈ scope.names, z.2 ≠ .cell) (hk : scope.kind = .function)
    (hn : ∀ z ∈ scope.names, z.2 = .local → scope.names.lookup z.1 = some .local) (hx : scope.names.lookup x = some .local) (hfree : ∀ z ∈ scope.names, z.2 = .free → z.1 = y) (hxy : x ≠ y) (hi : X.N[i]? = some y)
    (hky : X.env.kindOf y = some .cell) (hkf : X.env.scope.kind = .function) (hys : scope.names.lookup y = some .free) : CompScope X x [y] [i] scope [(y, c)] where
  clos := hclos
  sub := fun z d h => by
    by_cases e : z = y
    · subst e
      have : c = d := by simpa [List.lookup_cons] using h
      rw [← this]
      exact hy
    · have hb : (z == y) = false := beq_eq_false_iff_ne.mpr e
      simp [List.lookup_cons, hb] at h
  cell := hc
  kind := hk
  names := hn
  own := hx
  has := fun z h => by
    have e : z = y := by
      rcases h with h | h
      · exact hfree _ (relabel_mem h (.inl rfl) hc) rfl
      · exact hfree _ (relabel_mem h (.inr rfl) hc) rfl
    subst e
    exact ⟨c, by simp [List.lookup_cons]⟩
  nd := by simp [hxy]
  len := rfl
  at_ := fun j z h => by
    cases j with
    | zero =>
      have e : y = z := by simpa using h
      subst e
      exact ⟨i, rfl, hi, .inl hky, c, by simp [List.lookup_cons], .inl (lookup_relabel_free hkf hky hys)⟩
    | succ j => simp at h
end L2
set_option Elab.async false
set_option linter.all false
set_option maxRecDepth 100000
set_option maxHeartbeats 4000000
namespace L2
open PySem PySem.Spec PyProof.Rows
namespace Rv
theorem slot_init : Slot "reversed" "__init__" "object.__init__" :=
  .of (owner := "object") (n := "__init__") (by rw [typeLookup_type, builtinLookup_eq_fast]; kernel_rfl) (by decide +kernel) (by decide +kernel) (by decide +kernel)
    (by first | exact .inl (by decide +kernel) | exact .inr (by decide +kernel)) (by rw [isSubtype_type]; kernel_rfl)
theorem called : TypeCalled "reversed" "reversed.__new__" "object.__init__" :=
  ⟨by decide +kernel, by decide +kernel, ⟨_, _, PySem.F.mro_reversed⟩, PySem.F.made_reversed, by decide +kernel, by rw [isSubtype_type]; kernel_rfl, slot_init⟩
def IsRv (h : Heap) (it t : Addr) (i : Int) : Prop := ∃ o, h.get? it = some o ∧ o.cls = .type "reversed" ∧ o.data = .fields #[.ref t, rawInt i]
section
variable {prog : Program} {w : World} {A : Around} {E : Value → Shared → Prop} {s : Shared}
end
end Rv
section
variable {X : Cx} {tg : Expr}
end
end L2
set_option Elab.async false
set_option linter.all false
set_option maxRecDepth 100000
set_option maxHeartbeats 4000000
namespace L2
open PySem PySem.Spec PyProof.Rows
def intV (ns : List Int) : List V := ns.map V.int
theorem ints_at {ns : List Int} {i : Nat} {z : Int} (h : ns[i]? = some z) : (intV ns)[i]? = some (V.int z) := by
  unfold intV; rw [List.getElem?_map, h]; rfl
theorem ints_len (ns : List Int) : (intV ns).length = ns.length := List.length_map ..
theorem ints_of_at {ns : List Int} {i : Nat} {v : V} (h : (intV ns)[i]? = some v) : ∃ z, v = V.int z ∧ ns[i]? = some z := by
  unfold intV at h
  rw [List.getElem?_map] at h
  cases e : ns[i]? with
  | none => rw [e] at h; cases h
  | some z => rw [e] at h; exact ⟨z, (Option.some.inj h).symm, rfl⟩
theorem ints_app (a b : List Int) : intV (a ++ b) = intV a ++ intV b := List.map_append ..
theorem all_eq (ns ms : List Int) : ((List.range (min ns.length ms.length)).all (fun j => decide (ns[j]? = ms[j]?)) && ns.length == ms.length) = decide (ns = ms) := by
  rw [Bool.eq_iff_iff, Bool.and_eq_true, List.all_eq_true, decide_eq_true_iff, beq_iff_eq]
  constructor
  · rintro ⟨h1, h2⟩
    refine List.ext_getElem? fun i => ?_
    by_cases hi : i < ns.length
    · exact of_decide_eq_true (h1 i (List.mem_range.mpr (by omega)))
    · rw [List.getElem?_eq_none (by omega), List.getElem?_eq_none (by omega)]
  · rintro rfl
    exact ⟨fun j _ => decide_eq_true rfl, rfl⟩
section
variable {X : Cx}
theorem eqItems {A : Around} {s : Shared} {ns ms : List Int} {its its2 : List Value} (r1 : Vals (intV ns) its) (r2 : Vals (intV ms) its2) (j : Nat) (h1 : j < its.toArray.size) (h2 : j < its2.toArray.size) :
    SeqAt.EqAt A s its.toArray[j] its2.toArray[j] (decide (ns[j]? = ms[j]?)) := by
  have l1 := r1.length
  have l2 := r2.length
  rw [ints_len] at l1 l2
  have g1 : j < its.length := by simpa using h1
  have g2 : j < its2.length := by simpa using h2
  have e1 : ns[j]? = some ns[j] := List.getElem?_eq_getElem (by omega)
  have e2 : ms[j]? = some ms[j] := List.getElem?_eq_getElem (by omega)
  obtain ⟨u, hu, t, rfl⟩ := r1.get (ints_at e1)
  obtain ⟨v, hv, t', rfl⟩ := r2.get (ints_at e2)
  have f1 : its.toArray[j] = Value.int ns[j] t := by
    rw [List.getElem_toArray]
    exact Option.some.inj ((List.getElem?_eq_getElem g1).symm.trans hu)
  have f2 : its2.toArray[j] = Value.int ms[j] t' := by
    rw [List.getElem_toArray]
    exact Option.some.inj ((List.getElem?_eq_getElem g2).symm.trans hv)
  rw [f1, f2, e1, e2]
  have := SeqAt.EqAt.int_int (A := A) (s := s) ns[j] t ms[j] t'
  have e : decide (some ns[j] = some ms[j]) = (ns[j] == ms[j]) := by
    rw [Bool.eq_iff_iff, decide_eq_true_iff, beq_iff_eq]
    exact ⟨Option.some.inj, congrArg some⟩
  rw [e]
  exact this
def rIsi (K : PySem.W.Frag) : List V → Hp → VK → Prop := fun xs H Q => ∃ x T t b, xs = [x, .ty T] ∧ TyOf K H x t ∧ PySem.W.kitOne K t (.type T) = some b ∧ Q (.bl b) H
theorem call_isi : CallR X (.builtin "isinstance") (rIsi X.K) := by
  intro pins s σ H xs us Q I r h
  obtain ⟨x, T, t, b, rfl, ty, e, q⟩ := h
  obtain ⟨u, w', rfl, rx, ry⟩ := vals2 r
  cases ry
  exact isinst_ok I rx ty e fun tk => ⟨.bl b, H, I.tok tk, rfl, q⟩
theorem kit_self (K : PySem.W.Frag) (T : String) : PySem.W.kitOne K (.type T) (.type T) = some true := by
  unfold PySem.W.kitOne
  rw [if_pos (beq_self_eq_true _)]
theorem kit_int_bool (K : PySem.W.Frag) : PySem.W.kitOne K (.type "int") (.type "bool") = some false := by
  first | rfl | kernel_rfl | decide +kernel
end
end L2
set_option Elab.async false
set_option linter.all false
set_option maxRecDepth 100000
set_option maxHeartbeats 4000000
namespace L2
open PySem PySem.Spec PyProof.Rows
theorem Same.upd {H : Hp} {a : Addr} {o : HO} (h : H a = Option.none) : Same H (upd H a o) := fun b u e => by
  rw [upd_ne (ne_of_none e h)]
  exact e
section
variable {X : Cx}
def rCatTT : R2 := fun x y H Q => ∃ a b xs ys, x = .ref a ∧ y = .ref b ∧ H a = some (.tup xs) ∧ H b = some (.tup ys) ∧ xs.length + ys.length ≤ sizeLine ∧
  ∀ p H', Same H H' → H' p = some (.tup (xs ++ ys)) → Q (.ref p) H'
theorem cat_tup0 {prog : Program} {w : World} {A : Around} {E : Value → Shared → Prop} {s : Shared} {t b : Addr} {ws : List Value} {Q : Value → Shared → Prop} (ht : IsTup s.heap t ([] : List Value).toArray) (hb : IsTup s.heap b ws.toArray)
    (h : Q (.ref b) s) : wpAny (model prog w) A (binaryOp .Add (.ref t) (.ref b)) Q E s := by
  obtain ⟨⟨cls, dd, data, sl⟩, ho, hc, n, hd⟩ := id ht
  obtain ⟨⟨cls2, dd2, data2, sl2⟩, ho2, hc2, n2, hd2⟩ := id hb
  simp only at hc hd hc2 hd2
  subst hc hd hc2 hd2
  exact concat_meets ⟨_, ho, rfl⟩ ⟨_, ho2, rfl⟩ noFill_tuple_add seq_tuple_add PySem.F.slot_tuple_add PySem.F.entry_tuple_add (PySem.F.args_tuple_add_2 _ _)
      (tuple_addW0 t b ([] : List Value).toArray ws.toArray n n2 dd dd2 sl sl2 rfl) ⟨ho, ho2, h⟩
theorem op_catTT : OpR X (binaryOp .Add) rCatTT := by
  intro pins s σ H x y v u Q I rx ry h
  obtain ⟨a, b, xs, ys, rfl, rfl, ha, hb, hz, q⟩ := h
  by_cases hx : xs = []
  · subst hx
    cases rx
    cases ry
    obtain ⟨its, r1, p1, _⟩ := I.tuple (SqT.of ha)
    obtain ⟨its2, r2, p2, _⟩ := I.tuple (SqT.of hb)
    have e : its = [] := r1.nil_iff.mpr rfl
    subst e
    exact cat_tup0 p1 p2 ⟨.ref b, H, I, rfl, q b H (Same.refl H) hb⟩
  · refine op_catT pins s σ H (.ref a) (.ref b) v u Q I rx ry ⟨a, b, xs, ys, rfl, rfl, SqT.of ha, SqT.of hb, hx, hz, fun e => ?_, fun _ p hp => q p _ (Same.upd hp) upd_same⟩
    subst e
    exact q a H (Same.refl H) (by rw [List.append_nil]; exact ha)
end
end L2
namespace HT
open PySem PyProof.Rows
section
variable {prog : Program} {w : World} {A : Around} {E : Value → Shared → Prop} {s : Shared}
theorem sliceApplied_rev {sl : Addr} {t : Tok} {n : Nat} {Q : Int × Int × Nat → Shared → Prop} (hs : s.heap.IsSliceOf sl .none .none (.int (-1) t))
    (h : Q ((n : Int) - 1, -1, n) s) : wpAny (model prog w) A (Builtin.Slice.sliceApplied (.ref sl) (pure (n : Int))) Q E s := by
  obtain ⟨os, hos, hcs, hds⟩ := id hs
  unfold Builtin.Slice.sliceApplied Builtin.Slice.sliceFields
  refine wpAny_bind (wpAny_bind (wpAny_field hos hds (x := .none) rfl (wpAny_bind (wpAny_field hos hds (x := .none) rfl (wpAny_bind (wpAny_field hos hds (x := .int (-1) t) rfl (wpAny_pure ?_)))))))
  refine wpAny_bind (slicePart_int ?_)
  show wpAny _ _ (if ((-1 : Int) == 0) = true then _ else _) _ _ s
  rw [if_neg (by decide)]
  refine wpAny_bind (slicePart_none (wpAny_bind (slicePart_none (wpAny_bind (wpAny_pure ?_)))))
  show wpAny _ _ (match Builtin.Slice.sliceAdjust none none (-1) (n : Int) with | (lo, hi) => pure (lo, (-1 : Int), Builtin.Slice.slicePlaces lo hi (-1))) _ _ s
  have e1 : Builtin.Slice.sliceAdjust none none (-1) (n : Int) = ((n : Int) - 1, -1) := by
    unfold Builtin.Slice.sliceAdjust
    simp
  rw [e1]
  show wpAny _ _ (pure ((n : Int) - 1, (-1 : Int), Builtin.Slice.slicePlaces ((n : Int) - 1) (-1) (-1))) _ _ s
  have e2 : Builtin.Slice.slicePlaces ((n : Int) - 1) (-1) (-1) = n := by
    unfold Builtin.Slice.slicePlaces
    simp
    omega
  rw [e2]
  exact wpAny_pure h
theorem pick_rev (xs : List Value) : ((List.range xs.length).filterMap fun (m : Nat) => xs.toArray[((xs.length : Int) - 1 + (m : Int) * (-1)).toNat]?).toArray = xs.reverse.toArray := by
  congr 1
  refine List.ext_getElem? fun i => ?_
  have e : (List.range xs.length).filterMap (fun (m : Nat) => xs.toArray[((xs.length : Int) - 1 + (m : Int) * (-1)).toNat]?) = (List.range xs.length).map fun m => xs.getD (xs.length - 1 - m) .none := by
    have : ∀ l : List Nat, (∀ m ∈ l, m < xs.length) → l.filterMap (fun (m : Nat) => xs.toArray[((xs.length : Int) - 1 + (m : Int) * (-1)).toNat]?) = l.map fun m => xs.getD (xs.length - 1 - m) .none := by
      intro l
      induction l with
      | nil => intro _; rfl
      | cons m l ih =>
        intro hl
        have hm := hl m (List.mem_cons_self ..)
        have e1 : ((xs.length : Int) - 1 + (m : Int) * (-1)).toNat = xs.length - 1 - m := by omega
        have e2 : xs.toArray[((xs.length : Int) - 1 + (m : Int) * (-1)).toNat]? = some (xs.getD (xs.length - 1 - m) .none) := by
          rw [e1, List.getElem?_toArray, List.getD_eq_getElem?_getD, List.getElem?_eq_getElem (by omega)]
          rfl
        rw [List.filterMap_cons, e2, List.map_cons, ih fun k hk => hl k (List.mem_cons_of_mem _ hk)]
    exact this _ fun m hm => List.mem_range.mp hm
  rw [e, List.getElem?_map]
  by_cases hi : i < xs.length
  · rw [List.getElem?_reverse hi, List.getElem?_range hi, List.getElem?_eq_getElem (by omega)]
    simp [List.getD_eq_getElem?_getD, List.getElem?_eq_getElem (show xs.length - 1 - i < xs.length by omega)]
  · rw [List.getElem?_eq_none (by simp; omega), List.getElem?_eq_none (by simp; omega)]
    rfl
theorem getItem_tuple_rev {t sl : Addr} {its : List Value} {tk : Tok} {Q : Value → Shared → Prop} (ht : IsTup s.heap t its.toArray) (hs : s.heap.IsSliceOf sl .none .none (.int (-1) tk))
    (h : Q (.ref s.heap.objs.size) { s with heap := s.heap.push { cls := .type "tuple", data := .seq its.reverse.toArray } })
    (hsz : its.length ≤ sizeLine) : wpAny (model prog w) A (getItem (.ref t) (.ref sl)) Q E s := by
  have htake : sizeOk (.seq its.reverse.toArray) := by
    show its.reverse.toArray.size ≤ sizeLine
    rw [List.size_toArray, List.length_reverse]
    exact hsz
  obtain ⟨os, hos, hcs, hds⟩ := id hs
  have hTs : s.TypeIs (.ref sl) "slice" := ⟨os, hos, hcs⟩
  unfold getItem
  try with_reducible refine wpAny_holding ?_
  first | refine wpAny_bind (wpAny_pure ?_) | skip
  refine wpAny_bind (wpAny_sequenceKey ht.typeIs (by decide) ?_)
  refine wpAny_bind (wpAny_callSpecial?_slot (name := Str.ofString "__getitem__") ht.typeIs PyProof.Rows.slot_tuple_getitem
    (wpAny_call_entry PyProof.Rows.slot_tuple_getitem ht.typeIs entry_tuple_getitem ?_ (args_tuple_getitem _ _)))
  show wpAny _ _ (Builtin.Tuple.tupleItemsOf (.ref t) >>= _) _ _ s
  refine wpAny_bind (tupleItemsOf_ ht ?_)
  refine wpAny_bind (wpAny_typeOf hTs ?_)
  rw [if_pos (by decide)]
  refine wpAny_bind (sliceApplied_rev hs ?_)
  have hno : ¬ ((((its.toArray.size : Int) - 1) == 0 && (-1 : Int) == 1 && its.toArray.size == its.toArray.size) = true) := by
    intro q
    rw [Bool.and_eq_true, Bool.and_eq_true] at q
    exact absurd q.1.2 (by decide)
  show wpAny _ _ (if (((its.toArray.size : Int) - 1) == 0 && (-1 : Int) == 1 && its.toArray.size == its.toArray.size) = true then _ else _) _ _ s
  rw [if_neg hno]
  have e := pick_rev its
  rw [show its.length = its.toArray.size from rfl] at e
  rw [e]
  first
    | exact wpAny_bind (m := Builtin.Tuple.tupleExact _) (wpAny_newObj_type (wpAny_pure ⟨_, rfl, wpAny_pure h⟩) htake)
    | exact wpAny_bind (m := Builtin.Tuple.tupleExact _) (wpAny_newObj_type (wpAny_bind (wpAny_pure (wpAny_pure ⟨_, rfl, wpAny_pure h⟩))) htake)
    | exact wpAny_bind (wpAny_bind (m := Builtin.Tuple.tupleExact _) (wpAny_newObj_type (wpAny_pure (wpAny_pure ⟨_, rfl, wpAny_pure h⟩)) htake))
    | exact wpAny_bind (wpAny_bind (m := Builtin.Tuple.tupleExact _) (wpAny_newObj_type (wpAny_pure ⟨_, rfl, wpAny_pure h⟩) htake))
end
end HT
namespace L2
open PySem PySem.Spec PyProof.Rows
section
variable {X : Cx} {e : Expr} {te : TE} {lo hi : Option Expr} {st : Expr} {tl th ts : TO} {pos p2 : Pos}
def SlR3 (X : Cx) (r : V → Option Int → Option Int → Option Int → Hp → VK → Prop) : Prop :=
  ∀ (pins : List (Addr × Obj)) (s : Shared) (σ : St) (H : Hp) (x : V) (v vl vu vs : Value) (lo hi st : Option Int) (sl : Addr) (Q : VK), Inv X pins σ H s → RelV x v → s.heap.IsSliceOf sl vl vu vs → IsPart vl lo → IsPart vu hi → IsPart vs st → r x lo hi st H Q →
    ∃ T id, typeLookup (.type T) "__getitem__" = pure (some (.builtin id)) ∧ s.TypeIs v T ∧ wpAny (model X.prog X.w) X.A (getItem v (.ref sl)) (EP X pins σ Q) X.xe s
def tSl3 (r : V → Option Int → Option Int → Option Int → Hp → VK → Prop) (te : TE) (tl th ts : TO) : TE := fun σ H Q => te σ H fun x H1 => tl σ H1 fun l H2 => th σ H2 fun u H3 => ts σ H3 fun k H4 => r x l u k H4 Q
theorem pe_slice3 {r : V → Option Int → Option Int → Option Int → Hp → VK → Prop} (hr : SlR3 X r) (he : PE X e te) (hl : PO X lo tl) (hu : PO X hi th) (hst : PO X (some st) ts) : PE X (.Subscript e (.Slice lo hi (some st) p2) pos) (tSl3 r te tl th ts) := by
  intro pins s σ H Q I h
  refine Subscript_ (thn (he pins s σ H _ I h) fun v s1 ⟨x, H1, I1, r1, q1⟩ => ?_)
  refine wpAny_Slice (thn (hl pins s1 σ H1 _ I1 q1) fun vl s2 ⟨l, H2, I2, pl, q2⟩ => thn (hu pins s2 σ H2 _ I2 q2) fun vu s3 ⟨u, H3, I3, pu, q3⟩ => thn (hst pins s3 σ H3 _ I3 q3) fun vs s4 ⟨k, H4, I4, pk, q4⟩ => ?_)
  have I5 : Inv X pins σ H4 { s4 with heap := s4.heap.push { cls := .type "slice", data := .fields #[vl, vu, vs] } } := I4.kept (t' := s4.toks) fun b ob q => Heap.get?_push_of_some _ q
  obtain ⟨T, id, hT, ht, hg⟩ := hr pins { s4 with heap := s4.heap.push { cls := .type "slice", data := .fields #[vl, vu, vs] } } σ H4 x v vl vu vs l u k s4.heap.objs.size Q I5 r1 (Heap.IsSliceOf.new ..) pl pu pk q4
  show wpAny (model X.prog X.w) X.A (subscriptTail e (.Slice lo hi (some st) p2) v (.ref s4.heap.objs.size)) (EP X pins σ Q) X.xe { s4 with heap := s4.heap.push { cls := .type "slice", data := .fields #[vl, vu, vs] } }
  exact tail_any (ops := [v, .ref s4.heap.objs.size]) ht hT hg (by with_unfolding_all rfl)
def rRevT : V → Option Int → Option Int → Option Int → Hp → VK → Prop := fun x lo hi st H Q => ∃ a xs, x = .ref a ∧ H a = some (.tup xs) ∧ lo = none ∧ hi = none ∧ st = some (-1) ∧ ∀ p, H p = none → Q (.ref p) (upd H p (.tup xs.reverse))
theorem sl_revT : SlR3 X rRevT := by
  intro pins s σ H x v vl vu vs lo hi st sl Q I rx hs pl pu pk h
  obtain ⟨a, xs, rfl, hx, rfl, rfl, rfl, q⟩ := h
  cases rx
  cases pl
  cases pu
  obtain ⟨tk, rfl⟩ : ∃ tk, vs = .int (-1) tk := by cases pk with | int i t => exact ⟨t, rfl⟩
  obtain ⟨its, r, ht, hz⟩ := I.tuple (SqT.of hx)
  have hl := r.length
  refine ⟨"tuple", _, PyProof.Rows.slot_tuple_getitem.lookup, ht.typeIs, ?_⟩
  refine HT.getItem_tuple_rev ht hs ?_ (by omega)
  refine ⟨.ref s.heap.objs.size, _, I.laid (t' := s.toks) (o := .tup xs.reverse) (fun b ob q => Heap.get?_push_of_some _ q) (Nat.le_refl _) ?_, rfl, q _ (I.hok.fresh (Nat.le_refl _))⟩
  exact ⟨by rw [List.length_reverse]; exact hz, _, r.reverse, IsTup.new _ _⟩
def rRevL (K : PySem.W.Frag) : V → Option Int → Option Int → Option Int → Hp → VK → Prop := fun x lo hi st H Q => ∃ a xs, x = .ref a ∧ SqL K H a xs ∧ lo = none ∧ hi = none ∧ st = some (-1) ∧ ∀ p, H p = none → Q (.ref p) (upd H p (.lst xs.reverse))
theorem sl_revL : SlR3 X (rRevL X.K) := by
  intro pins s σ H x v vl vu vs lo hi st sl Q I rx hs pl pu pk h
  obtain ⟨a, xs, rfl, hx, rfl, rfl, rfl, q⟩ := h
  cases rx
  obtain ⟨its, r, ht, hz⟩ := I.list hx
  have hl := r.length
  refine ⟨"list", _, slot_list_getitem.lookup, ht.isList.typeIs, ?_⟩
  refine wpAny_getItem_list_slice ht.isList hs pl pu pk (by decide) ?_ (by rw [List.size_toArray]; omega)
  rw [PySem.W.krv_pick]
  refine ⟨.ref s.heap.objs.size, _, I.laid (t' := s.toks) (o := .lst xs.reverse) (fun b ob q => Heap.get?_push_of_some _ q) (Nat.le_refl _) ?_, rfl, q _ (I.hok.fresh (Nat.le_refl _))⟩
  exact ⟨by rw [List.length_reverse]; exact hz, its.reverse, _, r.reverse, Heap.get?_push_size _ rfl⟩
end
end L2
set_option Elab.async false
set_option linter.all false
set_option maxRecDepth 100000
set_option maxHeartbeats 4000000
namespace L2
open PySem PySem.Spec PyProof.Rows
def tx (l : List Nat) : Str := ⟨l.toArray⟩
section
variable {X : Cx} {pos : Pos}
theorem pe_strX {x : Str} {l : List Nat} {j} (h : x = tx l) : PE X (.Constant (.str x) j pos) (tC (.str (tx l))) := by
  rw [← h]
  exact pe_str
end
end L2
set_option Elab.async false
set_option linter.all false
set_option maxRecDepth 100000
set_option maxHeartbeats 4000000
namespace L2
open PySem PySem.Spec PyProof.Rows
structure Def (K : PySem.W.Frag) (mg : Str → Option Value) (x : Str) (st : Stmt) (ps : List Str) (f : Addr) (fd : FuncData) : Prop where
  F : Fun K x x st f fd
  m : mg x = some (.ref f)
  b : Binds K fd ps []
section
variable {X : Cx}
end
theorem emod_nat (r : Int) {n : Nat} (h : 0 < n) : ∃ j : Nat, r % (n : Int) = (j : Int) ∧ j < n := by
  have h1 := Int.emod_nonneg r (show (n : Int) ≠ 0 by omega)
  have h2 := Int.emod_lt_of_pos r (show (0 : Int) < (n : Int) by omega)
  exact ⟨(r % (n : Int)).toNat, by omega, by omega⟩
end L2
set_option Elab.async false
set_option linter.all false
set_option maxRecDepth 100000
namespace L2
open PySem PySem.Spec PyProof.Rows
section
variable {κ : Type} [DecidableEq κ]
def valV (kvs : List (κ × V)) (k : κ) : Option V := (kvs.find? fun kv => decide (kv.1 = k)).map (·.2)
def putK (kvs : List (κ × V)) (k : κ) (v : V) : List (κ × V) :=
  if (kvs.any fun kv => decide (kv.1 = k)) = true then kvs.map (fun kv => if kv.1 = k then (kv.1, v) else kv) else kvs ++ [(k, v)]
def dropK (kvs : List (κ × V)) (k : κ) : List (κ × V) := kvs.filter fun kv => decide (kv.1 ≠ k)
theorem valV_pos {p : κ × V} {r : List (κ × V)} {k : κ} (e : p.1 = k) : valV (p :: r) k = some p.2 := by simp [valV, List.find?_cons, e]
theorem valV_neg {p : κ × V} {r : List (κ × V)} {k : κ} (e : ¬ p.1 = k) : valV (p :: r) k = valV r k := by simp [valV, List.find?_cons, e]
theorem valV_any (k : κ) : ∀ kvs : List (κ × V), (kvs.any fun kv => decide (kv.1 = k)) = (valV kvs k).isSome
  | [] => rfl
  | p :: r => by
    rw [List.any_cons]
    by_cases e : p.1 = k
    · simp only [valV_pos e, decide_eq_true e, Bool.true_or, Option.isSome_some]
    · rw [valV_neg e, decide_eq_false e, Bool.false_or]; exact valV_any k r
theorem valV_map (k j : κ) (y : V) : ∀ kvs : List (κ × V), valV (kvs.map fun kv => if kv.1 = k then (kv.1, y) else kv) j = (valV kvs j).map fun x => if j = k then y else x
  | [] => rfl
  | p :: r => by
    have ih := valV_map k j y r
    rw [List.map_cons]
    by_cases h : p.1 = k
    · rw [if_pos h]
      by_cases e : p.1 = j
      · rw [valV_pos (p := (p.1, y)) e, valV_pos e, Option.map_some, if_pos (e.symm.trans h)]
      · rw [valV_neg (p := (p.1, y)) e, valV_neg e, ih]
    · rw [if_neg h]
      by_cases e : p.1 = j
      · rw [valV_pos (p := p) e, valV_pos e, Option.map_some, if_neg (fun z => h (e.trans z))]
      · rw [valV_neg (p := p) e, valV_neg e, ih]
theorem valV_snoc (k j : κ) (y : V) : ∀ kvs : List (κ × V), valV kvs k = none → valV (kvs ++ [(k, y)]) j = if j = k then some y else valV kvs j
  | [], _ => by
    by_cases e : k = j
    · rw [if_pos e.symm]; exact valV_pos (p := (k, y)) e
    · rw [if_neg (fun z => e z.symm)]; exact valV_neg (p := (k, y)) e
  | p :: r, hn => by
    rw [List.cons_append]
    have hk : ¬ p.1 = k := fun z => by rw [valV_pos z] at hn; cases hn
    rw [valV_neg hk] at hn
    have ih := valV_snoc k j y r hn
    by_cases e : p.1 = j
    · rw [valV_pos e, valV_pos e, if_neg (fun z => hk (e.trans z))]
    · rw [valV_neg e, valV_neg e, ih]
theorem valV_put (kvs : List (κ × V)) (k j : κ) (y : V) : valV (putK kvs k y) j = if j = k then some y else valV kvs j := by
  unfold putK
  by_cases a : (kvs.any fun kv => decide (kv.1 = k)) = true
  · rw [if_pos a, valV_map]
    rw [valV_any] at a
    by_cases e : j = k
    · obtain ⟨x, hx⟩ := Option.isSome_iff_exists.mp a
      rw [if_pos e, e, hx, Option.map_some, if_pos rfl]
    · rw [if_neg e]
      cases valV kvs j with
      | none => rfl
      | some x => rw [Option.map_some, if_neg e]
  · rw [if_neg a]
    refine valV_snoc k j y kvs ?_
    rw [valV_any] at a
    cases q : valV kvs k with
    | none => rfl
    | some x => rw [q] at a; exact (a rfl).elim
theorem length_putK (kvs : List (κ × V)) (k : κ) (v : V) : (putK kvs k v).length ≤ kvs.length + 1 := by
  unfold putK
  split
  · rw [List.length_map]; omega
  · rw [List.length_append, List.length_cons, List.length_nil]; omega
theorem putK_new {kvs : List (κ × V)} {k : κ} (v : V) (h : valV kvs k = none) : putK kvs k v = kvs ++ [(k, v)] := by
  unfold putK
  rw [valV_any, h]
  exact if_neg (by decide)
theorem RelO.isSome_eq {o : Option V} {u : Option Value} (r : RelO o u) : o.isSome = u.isSome := by
  cases o with
  | none => cases u with
    | none => rfl
    | some _ => exact (show False from r).elim
  | some _ => cases u with
    | none => exact (show False from r).elim
    | some _ => rfl
theorem RelO.getD {o : Option V} {u : Option Value} {d : V} {d' : Value} (r : RelO o u) (rd : RelV d d') : RelV (o.getD d) (u.getD d') := by
  cases o with
  | none => cases u with
    | none => exact rd
    | some _ => exact (show False from r).elim
  | some _ => cases u with
    | none => exact (show False from r).elim
    | some _ => exact r
theorem KV.val {kvs : List (κ × V)} {vs : List (κ × Value)} (r : KV kvs vs) (k : κ) : RelO (valV kvs k) (valueAt vs k) := by
  unfold KV at r
  induction r with
  | nil => exact True.intro
  | @cons p q ps qs h t ih =>
    obtain ⟨h1, h2⟩ := h
    by_cases e : p.1 = k
    · have e' : q.1 = k := h1.symm.trans e
      have b : valueAt (q :: qs) k = some q.2 := by simp [valueAt, List.find?_cons, e']
      rw [valV_pos e, b]; exact h2
    · have e' : ¬ q.1 = k := fun z => e (h1.trans z)
      have b : valueAt (q :: qs) k = valueAt qs k := by simp [valueAt, List.find?_cons, e']
      rw [valV_neg e, b]; exact ih
theorem KV.any {kvs : List (κ × V)} {vs : List (κ × Value)} (r : KV kvs vs) (k : κ) : (kvs.any fun kv => decide (kv.1 = k)) = vs.any fun kv => decide (kv.1 = k) := by
  unfold KV at r
  induction r with
  | nil => rfl
  | cons h t ih => rw [List.any_cons, List.any_cons, ih, h.1]
theorem KV.repl {kvs : List (κ × V)} {vs : List (κ × Value)} (r : KV kvs vs) (k : κ) {y : V} {u : Value} (ry : RelV y u) :
    KV (kvs.map fun kv => if kv.1 = k then (kv.1, y) else kv) (vs.map fun kv => if kv.1 = k then (kv.1, u) else kv) := by
  unfold KV at r ⊢
  induction r with
  | nil => exact .nil
  | @cons p q ps qs h t ih =>
    rw [List.map_cons, List.map_cons]
    refine .cons ?_ ih
    obtain ⟨h1, h2⟩ := h
    by_cases e : p.1 = k
    · rw [if_pos e, if_pos (h1.symm.trans e)]; exact ⟨h1, ry⟩
    · rw [if_neg e, if_neg (fun z => e (h1.trans z))]; exact ⟨h1, h2⟩
theorem KV.put {kvs : List (κ × V)} {vs : List (κ × Value)} (r : KV kvs vs) (k : κ) {y : V} {u : Value} (ry : RelV y u) : KV (putK kvs k y) (stored vs k u) := by
  unfold putK stored
  rw [r.any k]
  by_cases e : (vs.any fun kv => decide (kv.1 = k)) = true
  · rw [if_pos e, if_pos e]; exact r.repl k ry
  · rw [if_neg e, if_neg e]; exact Paired.snoc r ⟨rfl, ry⟩
theorem KV.drop {kvs : List (κ × V)} {vs : List (κ × Value)} (r : KV kvs vs) (k : κ) : KV (dropK kvs k) (without vs k) := by
  unfold KV at r ⊢
  unfold dropK without
  induction r with
  | nil => exact .nil
  | @cons p q ps qs h t ih =>
    obtain ⟨h1, h2⟩ := h
    rw [List.filter_cons, List.filter_cons]
    by_cases e : p.1 = k
    · have a : ¬ decide (p.1 ≠ k) = true := by simp [e]
      have b : ¬ decide (q.1 ≠ k) = true := by simp [h1.symm.trans e]
      rw [if_neg a, if_neg b]; exact ih
    · have e' : ¬ q.1 = k := fun z => e (h1.trans z)
      have a : decide (p.1 ≠ k) = true := by simp [e]
      have b : decide (q.1 ≠ k) = true := by simp [e']
      rw [if_pos a, if_pos b]; exact .cons ⟨h1, h2⟩ ih
theorem KV.length {kvs : List (κ × V)} {vs : List (κ × Value)} (r : KV kvs vs) : kvs.length = vs.length := Paired.length r
theorem dropK_le (kvs : List (κ × V)) (k : κ) : (dropK kvs k).length ≤ kvs.length := List.length_filter_le _ _
end
theorem kV_is {P : Program} {w : World} {k : Key} {u : Value} (r : RelV (kV k) u) : (mixKind P w).is k u = true := by
  cases k with
  | inl i => obtain ⟨t, e⟩ := (show ∃ t, u = Value.int i t from r); subst e; exact mixKind_int P w i t
  | inr x => obtain ⟨t, e⟩ := (show ∃ t, u = Value.str x t from r); subst e; exact mixKind_str P w x t
theorem items_are {P : Program} {w : World} : ∀ {ks : List Key} {us : List Value}, Vals (ks.map kV) us → ItemsAre (mixKind P w) ks us
  | [], _, r => by rw [List.map_nil] at r; cases r; exact .nil
  | k :: ks, _, r => by
    rw [List.map_cons] at r
    cases r with
    | cons h t => exact .cons (kV_is h) (items_are t)
abbrev KT (H : Hp) : List (List Key × V) → List (List Key × Addr × Value) → Prop := Paired fun p q => p.1 = q.1 ∧ H q.2.1 = some (.tup (p.1.map kV)) ∧ RelV p.2 q.2.2
theorem KT.val {H : Hp} {kvs : List (List Key × V)} {xs : List (List Key × Addr × Value)} (r : KT H kvs xs) (k : List Key) : RelO (valV kvs k) ((atKey xs k).map (·.2)) := by
  induction r with
  | nil => exact True.intro
  | @cons p q ps qs h t ih =>
    obtain ⟨h1, _, h2⟩ := h
    by_cases e : p.1 = k
    · have e' : q.1 = k := h1.symm.trans e
      have b : atKey (q :: qs) k = some q.2 := by simp [atKey, List.find?_cons, e']
      rw [valV_pos e, b]; exact h2
    · have e' : ¬ q.1 = k := fun z => e (h1.trans z)
      have b : atKey (q :: qs) k = atKey qs k := by simp [atKey, List.find?_cons, e']
      rw [valV_neg e, b]; exact ih
theorem KT.repl {H : Hp} {kvs : List (List Key × V)} {xs : List (List Key × Addr × Value)} (r : KT H kvs xs) (k : List Key) {y : V} {u : Value} (ry : RelV y u) :
    KT H (kvs.map fun kv => if kv.1 = k then (kv.1, y) else kv) (xs.map (putAt k u)) := by
  induction r with
  | nil => exact .nil
  | @cons p q ps qs h t ih =>
    rw [List.map_cons, List.map_cons]
    refine .cons ?_ ih
    obtain ⟨h1, h2, h3⟩ := h
    unfold putAt
    by_cases e : p.1 = k
    · rw [if_pos e, if_pos (h1.symm.trans e)]; exact ⟨h1, h2, ry⟩
    · rw [if_neg e, if_neg (fun z => e (h1.trans z))]; exact ⟨h1, h2, h3⟩
theorem KT.put {H : Hp} {kvs : List (List Key × V)} {xs : List (List Key × Addr × Value)} (r : KT H kvs xs) (k : List Key) {b : Addr} {y : V} {u : Value} (hb : H b = some (.tup (k.map kV))) (ry : RelV y u) :
    KT H (putK kvs k y) (storedH xs k b u) := by
  have e : (kvs.any fun kv => decide (kv.1 = k)) = (atKey xs k).isSome := by
    rw [valV_any, (r.val k).isSome_eq, Option.isSome_map]
  unfold putK storedH
  rw [e]
  by_cases q : (atKey xs k).isSome = true
  · rw [if_pos q, if_pos q]; exact r.repl k ry
  · rw [if_neg q, if_neg q]; exact Paired.snoc r ⟨rfl, hb, ry⟩
theorem KT.keeps {H H' : Hp} {kvs : List (List Key × V)} {xs : List (List Key × Addr × Value)} (r : KT H kvs xs) (ht : ∀ b ys, H b = some (.tup ys) → H' b = some (.tup ys)) : KT H' kvs xs :=
  Paired.mapP r fun _ _ z => ⟨z.1, ht _ _ z.2.1, z.2.2⟩
section
variable {P : Program} {w : World} {H : Hp} {h : Heap} {a : Addr}
theorem rd_of {u : HO} (ok : HOk P w H h) (e : Rd H a u) : ObjOk P w H h a u := e.ok ok
theorem dk_rd {kvs : List (Key × V)} (ok : HOk P w H h) (e : Rd H a (.dK kvs)) : kvs.length ≤ sizeLine ∧ (a == sysModules) = false ∧ ∃ vs, KV kvs vs ∧ h.DictOf (mixKind P w) a vs :=
  show ObjOk P w H h a (.dK kvs) from rd_of ok e
theorem dk_of {kvs : List (Key × V)} (ok : HOk P w H h) (e : H a = some (.dK kvs)) : kvs.length ≤ sizeLine ∧ (a == sysModules) = false ∧ ∃ vs, KV kvs vs ∧ h.DictOf (mixKind P w) a vs := dk_rd ok (.inl e)
theorem key_of {ks : List Key} (ok : HOk P w H h) (e : H a = some (.tup (ks.map kV))) : (tupleKind (mixKind P w)).is h ks a := by
  obtain ⟨_, its, r, o, h1, h2, n, h3⟩ := (show ObjOk P w H h a (.tup (ks.map kV)) from ok a _ e)
  exact ⟨o, its.toArray, n, h1, h2, h3, by simpa using items_are r⟩
theorem dt_rd {kvs : List (List Key × V)} (ok : HOk P w H h) (e : Rd H a (.dT kvs)) : kvs.length ≤ sizeLine ∧ (a == sysModules) = false ∧
    ∃ xs, KT H kvs xs ∧ h.DictOfH (tupleKind (mixKind P w)) a xs := by
  obtain ⟨z, y, xs, r, o, es, ep, h1, h2, h3, h4, h5⟩ := (show ObjOk P w H h a (.dT kvs) from rd_of ok e)
  refine ⟨z, y, xs, r, o, es, ep, h1, h2, h3, h4, fun x hx => ?_, h5⟩
  have all : ∀ {l : List (List Key × V)} {m : List (List Key × Addr × Value)}, KT H l m → ∀ x ∈ m, (tupleKind (mixKind P w)).is h x.1 x.2.1 := by
    intro l m q
    induction q with
    | nil => intro x hx; exact nomatch hx
    | @cons p q ps qs hq t ih =>
      intro x hx
      rcases List.mem_cons.mp hx with e | hx
      · subst e
        exact key_of ok (by rw [← hq.1]; exact hq.2.1)
      · exact ih x hx
  exact all r x hx
theorem dt_of {kvs : List (List Key × V)} (ok : HOk P w H h) (e : H a = some (.dT kvs)) : kvs.length ≤ sizeLine ∧ (a == sysModules) = false ∧
    ∃ xs, KT H kvs xs ∧ h.DictOfH (tupleKind (mixKind P w)) a xs := dt_rd ok (.inl e)
end
def DGet (H : Hp) (a : Addr) (y : V) (r : Option V) : Prop :=
  (∃ kvs k, Rd H a (.dK kvs) ∧ y = kV k ∧ r = valV kvs k) ∨ ∃ kvs k b, Rd H a (.dT kvs) ∧ y = .ref b ∧ H b = some (.tup (k.map kV)) ∧ r = valV kvs k
def DPut (H : Hp) (a : Addr) (y v : V) (H' : Hp) : Prop :=
  (∃ kvs k, H a = some (.dK kvs) ∧ y = kV k ∧ kvs.length < sizeLine ∧ H' = upd H a (.dK (putK kvs k v))) ∨
  ∃ kvs k b, H a = some (.dT kvs) ∧ y = .ref b ∧ H b = some (.tup (k.map kV)) ∧ kvs.length < sizeLine ∧ H' = upd H a (.dT (putK kvs k v))
theorem DGet.k {H : Hp} {a : Addr} {kvs : List (Key × V)} {k : Key} (e : H a = some (.dK kvs)) : DGet H a (kV k) (valV kvs k) := .inl ⟨kvs, k, .inl e, rfl, rfl⟩
theorem DPut.k {H : Hp} {a : Addr} {kvs : List (Key × V)} {k : Key} {v : V} (e : H a = some (.dK kvs)) (hl : kvs.length < sizeLine) : DPut H a (kV k) v (upd H a (.dK (putK kvs k v))) := .inl ⟨kvs, k, e, rfl, hl, rfl⟩
section
variable {X : Cx} {pins : List (Addr × Obj)} {σ : St} {H : Hp} {s : Shared} {a : Addr} {y v : V} {u r : Value} {o : Option V} {A : Around} {E : Value → Shared → Prop}
theorem Inv.big (I : Inv X pins σ H s) : sysModules < s.heap.objs.size := by
  have h : mainGlobals < s.heap.objs.size := (I.mod.glob.keeps I.bk).lt
  exact Nat.lt_trans (by decide) h
theorem d_getItem {Q : Value → Shared → Prop} (hu : A.units + 1 < cLine) (I : Inv X pins σ H s) (g : DGet H a y (some v)) (ry : RelV y u) (h : ∀ w' s', Inv X pins σ H s' → RelV v w' → Q w' s') :
    wpAny (model X.prog X.w) A (getItem (.ref a) u) Q E s := by
  rcases g with ⟨kvs, k, e, ey, l⟩ | ⟨kvs, k, b, e, ey, eb, l⟩
  · subst ey
    obtain ⟨z, hd, vs, rel, dd⟩ := dk_rd I.hok e
    obtain ⟨w', hw, rw'⟩ := RelO.some_of (v := v) (o := valueAt vs k) (by rw [l]; exact rel.val k)
    exact wpAny_getItem_of (kV_is ry) dd.mapOf hw (h w' _ (I.tok _) rw')
  · subst ey
    cases (show u = Value.ref b from ry)
    obtain ⟨z, hd, xs, rel, dd⟩ := dt_rd I.hok e
    obtain ⟨w', hw, rw'⟩ := RelO.some_of (v := v) (o := (atKey xs k).map (·.2)) (by rw [l]; exact rel.val k)
    obtain ⟨p, hp, hp2⟩ := Option.map_eq_some_iff.mp hw
    refine wpAny_getItem_heap (tupleKind_room_in1 hu) (key_of I.hok eb) dd hp ?_
    rw [hp2]
    exact h w' _ (I.tok _) rw'
theorem d_notIn {Q : Value → Shared → Prop} (hu : A.units + 1 < cLine) (I : Inv X pins σ H s) (g : DGet H a y o) (ry : RelV y u) (h : ∀ s', Inv X pins σ H s' → Q (.bool (!o.isSome)) s') :
    wpAny (model X.prog X.w) A (compareOp .NotIn u (.ref a)) Q E s := by
  rcases g with ⟨kvs, k, e, ey, l⟩ | ⟨kvs, k, b, e, ey, eb, l⟩
  · subst ey
    obtain ⟨z, hd, vs, rel, dd⟩ := dk_rd I.hok e
    refine wpAny_notIn_of (kV_is ry) hd dd.mapOf ?_
    rw [← (rel.val k).isSome_eq, ← l]
    exact h _ (I.tok _)
  · subst ey
    cases (show u = Value.ref b from ry)
    obtain ⟨z, hd, xs, rel, dd⟩ := dt_rd I.hok e
    refine wpAny_notIn_heap (tupleKind_room_in1 hu) (key_of I.hok eb) hd dd ?_
    have q := (rel.val k).isSome_eq
    rw [Option.isSome_map] at q
    rw [← q, ← l]
    exact h _ (I.tok _)
theorem d_write {h' : Heap} {t' : Nat} {ob : HO} (I : Inv X pins σ H s) (mu : Mut (H a)) (hs : Heap.SameBut a s.heap h') (he : ∃ q, h'.get? a = some q) (new : ObjOk X.prog X.w (upd H a ob) h' a ob) :
    Inv X pins σ (upd H a ob) { s with heap := h', toks := t' } :=
  I.write (x := a) (e := a) mu (.inl rfl) (fun b q hb z => (hs.2 b hb).trans z) he new
theorem dk_new {P : Program} {w : World} {H' : Hp} {h' : Heap} {kvs : List (Key × V)} {vs : List (Key × Value)} (z : kvs.length ≤ sizeLine) (hd : (a == sysModules) = false) (rel : KV kvs vs) (dd : h'.DictOf (mixKind P w) a vs) :
    ObjOk P w H' h' a (.dK kvs) := ⟨z, hd, vs, rel, dd⟩
theorem d_setItem {H' : Hp} {Q : Unit → Shared → Prop} (hu : A.units + 1 < cLine) (I : Inv X pins σ H s) (g : DPut H a y v H') (ry : RelV y u) (rv : RelV v r) (h : ∀ s', Inv X pins σ H' s' → Q () s') :
    wpAny (model X.prog X.w) A (setItem (.ref a) u r) Q E s := by
  rcases g with ⟨kvs, k, e, ey, l, eH⟩ | ⟨kvs, k, b, e, ey, eb, l, eH⟩
  · subst ey eH
    obtain ⟨z, hd, vs, rel, dd⟩ := dk_of I.hok e
    have hz : vs.length ≤ sizeLine := by rw [← rel.length]; exact z
    have hl : (putK kvs k v).length ≤ sizeLine := by have := length_putK kvs k v; omega
    refine wpAny_setItem_pairs (hsz := hz) (kV_is ry) dd fun h' dd' hs => h _ ?_
    have he : ∃ q, h'.get? a = some q := let ⟨q, _, _, hq, _⟩ := dd'; ⟨q, hq⟩
    exact d_write I (by rw [e]; exact True.intro) hs he (dk_new hl hd (rel.put k rv) dd')
  · subst ey eH
    cases (show u = Value.ref b from ry)
    obtain ⟨z, hd, xs, rel, dd⟩ := dt_of I.hok e
    have hz : xs.length ≤ sizeLine := by rw [← Paired.length rel]; exact z
    have hl : (putK kvs k v).length ≤ sizeLine := by have := length_putK kvs k v; omega
    refine wpAny_setItem_heap (hsz := hz) (tupleKind_room_in1 hu) (key_of I.hok eb) dd fun h' dd' hs => h _ ?_
    obtain ⟨q, es, ep, hq, h2, h3, h4, _, h5⟩ := dd'
    refine d_write I (by rw [e]; exact True.intro) hs ⟨q, hq⟩ ⟨hl, hd, _, (rel.put k eb rv).keeps fun c ys ec => ?_, q, es, ep, hq, h2, h3, h4, h5⟩
    rw [upd_ne (ne_of ec e (fun z => nomatch z))]
    exact ec
end
section
variable {X : Cx} {pins : List (Addr × Obj)} {σ : St} {H : Hp} {s : Shared} {a : Addr} {kvs : List (Key × V)} {k : Key} {u : Value} {A : Around} {E : Value → Shared → Prop}
theorem d_pop {v : V} {more : List Value} {Q : Value → Shared → Prop} (I : Inv X pins σ H s) (e : H a = some (.dK kvs)) (ry : RelV (kV k) u) (l : valV kvs k = some v) (hm : more = [] ∨ ∃ x, more = [x])
    (h : ∀ w' s', Inv X pins σ (upd H a (.dK (dropK kvs k))) s' → RelV v w' → Q w' s') : wpAny (model X.prog X.w) A (call (.builtin "dict.pop") (.ref a :: u :: more)) Q E s := by
  obtain ⟨z, hd, vs, rel, dd⟩ := dk_of I.hok e
  obtain ⟨w', hw, rw'⟩ := RelO.some_of (v := v) (o := valueAt vs k) (by rw [← l]; exact rel.val k)
  have hp : (keyPart u).isSome = true := by
    cases k with
    | inl i => obtain ⟨t, q⟩ := (show ∃ t, u = Value.int i t from ry); subst q; rfl
    | inr x => obtain ⟨t, q⟩ := (show ∃ t, u = Value.str x t from ry); subst q; rfl
  have ha : argsOk "dict.pop" ⟨.ref a :: u :: more, []⟩ := by
    rcases hm with q | ⟨x, q⟩
    · subst q; exact PySem.F.args_dict_pop_2 _ _
    · subst q; exact PySem.F.args_dict_pop_3 _ _ _
  refine call_meetsIn PySem.F.slot_dict_pop dd.typeIs PySem.F.entry_dict_pop ha (meets_dict_pop_there (mixKind X.prog X.w) a (kV_is ry) more hm hp)
    ⟨vs, w', dd, by rw [← rel.length]; exact z, hw, fun h' dd' hs => h w' _ ?_ rw'⟩
  have he : ∃ q, h'.get? a = some q := let ⟨q, _, _, hq, _⟩ := dd'; ⟨q, hq⟩
  exact d_write I (by rw [e]; exact True.intro) hs he (dk_new (Nat.le_trans (dropK_le kvs k) z) hd (rel.drop k) dd')
theorem d_popD {r : Value} {Q : Value → Shared → Prop} (I : Inv X pins σ H s) (e : H a = some (.dK kvs)) (ry : RelV (kV k) u) (l : valV kvs k = none) (h : ∀ s', Inv X pins σ H s' → Q r s') :
    wpAny (model X.prog X.w) A (call (.builtin "dict.pop") [.ref a, u, r]) Q E s := by
  obtain ⟨z, hd, vs, rel, dd⟩ := dk_of I.hok e
  have hn : valueAt vs k = none := RelO.none_of (by rw [← l]; exact rel.val k)
  have hp : (keyPart u).isSome = true := by
    cases k with
    | inl i => obtain ⟨t, q⟩ := (show ∃ t, u = Value.int i t from ry); subst q; rfl
    | inr x => obtain ⟨t, q⟩ := (show ∃ t, u = Value.str x t from ry); subst q; rfl
  exact call_meetsIn PySem.F.slot_dict_pop dd.typeIs PySem.F.entry_dict_pop (PySem.F.args_dict_pop_3 _ _ _) (meets_dict_pop_default (mixKind X.prog X.w) a (kV_is ry) hd hp r) ⟨vs, dd, hn, h _ (I.tok _)⟩
end
def NoSl (i : Expr) : Prop := ∀ ov iv, subscripted i false ov iv = operate [ov, iv] (getItem ov iv)
theorem subD_of {prog : Program} {w : World} {A : Around} {E : Value → Shared → Prop} {s : Shared} {env : Env} {value slice : Expr} {pos : Pos} {T id : String} {Q : Value → Shared → Prop}
    (hl : typeLookup (.type T) "__getitem__" = pure (some (.builtin id))) (hs : NoSl slice)
    (h : wpAny (model prog w) A (eval value env) (fun o s₁ => wpAny (model prog w) A (eval slice env) (fun i s₂ => s₂.TypeIs o T ∧ wpAny (model prog w) A (getItem o i) Q E s₂) E s₁) E s) :
    wpAny (model prog w) A (eval (.Subscript value slice pos) env) Q E s := by
  refine Subscript_ (wpAny_mono h (fun o s₁ h₁ => wpAny_mono h₁ (fun i s₂ h₂ => ?_) fun _ _ x => x) fun _ _ x => x)
  obtain ⟨hT, h₂⟩ := h₂
  unfold subscriptTail
  refine wpAny_bind ?_
  rw [getitemInPython_of_ne hT.not_modules]
  refine wpAny_bind (wpAny_specialOf hT hl ?_)
  have fin : wpAny (model prog w) A (subscripted slice false o i) (fun r s₃ => wpAny (model prog w) A (letTemporaryGo value o r >>= fun _ => pure r) Q E s₃) E s₂ := by
    rw [hs o i]
    exact wpAny_operating (wpAny_mono h₂ (fun r s₃ h₃ => wpAny_bind (wpAny_letTemporaryGo (wpAny_pure h₃))) fun _ _ x => x)
  first
    | exact wpAny_pure (wpAny_bind fin)
    | exact wpAny_bind (wpAny_pure (wpAny_bind fin))
    | exact wpAny_bind fin
theorem dict_typeIs {X : Cx} {pins : List (Addr × Obj)} {σ : St} {H : Hp} {s : Shared} {a : Addr} {y : V} {o : Option V} (I : Inv X pins σ H s) (g : DGet H a y o) : s.TypeIs (.ref a) "dict" := by
  rcases g with ⟨kvs, k, e, _, _⟩ | ⟨kvs, k, b, e, _, _, _⟩
  · obtain ⟨_, _, vs, _, dd⟩ := dk_rd I.hok e
    exact dd.typeIs
  · obtain ⟨_, _, xs, _, dd⟩ := dt_rd I.hok e
    exact dd.typeIs
def tDGet (td ty : TE) : TE := fun σ H Q => td σ H fun x H1 => ty σ H1 fun y H2 => ∃ a v, x = .ref a ∧ DGet H2 a y (some v) ∧ Q v H2
def tDNotIn (ty td : TE) : TE := fun σ H Q => ty σ H fun y H1 => td σ H1 fun x H2 => ∃ a o, x = .ref a ∧ DGet H2 a y o ∧ Q (.bl (!o.isSome)) H2
def sDPut (td ty tv : TE) : TS := fun D σ H => tv σ H fun v H1 => td σ H1 fun x H2 => ty σ H2 fun y H3 => ∃ a H4, x = .ref a ∧ DPut H3 a y v H4 ∧ D.nx σ H4
section
variable {X : Cx} {o i e value : Expr} {pos pos' tpos : Pos} {td ty tv : TE}
theorem pe_dget (hu : X.A.units + 1 < cLine) (ho : PE X o td) (hi : PE X i ty) (hs : NoSl i) : PE X (.Subscript o i pos) (tDGet td ty) := by
  intro pins s σ H Q I h
  refine subD_of PySem.F.slot_dict_getitem.lookup hs (thn (ho pins s σ H _ I h) fun u s1 ⟨x, H1, I1, rx, q1⟩ => thn (hi pins s1 σ H1 _ I1 q1) fun iv s2 ⟨y, H2, I2, ry, a, v, ex, g, q2⟩ => ?_)
  subst ex
  obtain rfl : u = Value.ref a := rx
  exact ⟨dict_typeIs I2 g, d_getItem hu I2 g ry fun w' s3 I3 rw' => ⟨v, H2, I3, rw', q2⟩⟩
theorem pc_dnotin (hu : X.A.units + 1 < cLine) (hi : PE X i ty) (ho : PE X o td) : PC X .NotIn i o (tDNotIn ty td) := by
  intro pins s σ H Q I h
  refine thn (hi pins s σ H _ I h) fun iv s1 ⟨y, H1, I1, ry, q1⟩ => thn (ho pins s1 σ H1 _ I1 q1) fun u s2 ⟨x, H2, I2, rx, a, ov, ex, g, q2⟩ => ?_
  subst ex
  obtain rfl : u = Value.ref a := rx
  exact d_notIn hu I2 g ry fun s3 I3 => ⟨.bl (!ov.isSome), H2, I3, rfl, q2⟩
theorem ps_dput (hu : X.A.units + 1 < cLine) (ho : PE X o td) (hi : PE X i ty) (hv : PE X value tv) (hs : swapsWith value (some (.Subscript o i pos')) pos.line X.env = pure false) :
    PS X (.Assign [.Subscript o i pos'] value pos) (sDPut td ty tv) := by
  intro pins s σ H D I h
  refine wpAny_Assign_Subscript (thn (hv pins s σ H _ I h) fun r s1 ⟨v, H1, I1, rv, q1⟩ => thn (ho pins s1 σ H1 _ I1 q1) fun u s2 ⟨x, H2, I2, rx, q2⟩ => thn (hi pins s2 σ H2 _ I2 q2) fun iv s3 ⟨y, H3, I3, ry, a, H4, ex, g, q3⟩ => ?_) hs
  subst ex
  obtain rfl : u = Value.ref a := rx
  exact d_setItem hu I3 g ry rv fun s4 I4 => ⟨σ, H4, I4, q3⟩
end
theorem dk_empty {P : Program} {w : World} {H : Hp} (h : Heap) (hb : sysModules < h.objs.size) : ObjOk P w H (h.push { cls := .type "dict", data := .dict #[] }) h.objs.size (.dK []) :=
  ⟨Nat.zero_le _, beq_eq_false_iff_ne.mpr (Ne.symm (Nat.ne_of_lt hb)), [], .nil, Heap.DictOf.new h⟩
def tDNewK : TE := fun _ H Q => ∀ p, H p = none → Q (.ref p) (upd H p (.dK []))
section
variable {X : Cx} {pos : Pos}
theorem pe_dnewK : PE X (.Dict [] [] pos) tDNewK := fun pins s σ H Q I h =>
  wpAny_Dict_empty ⟨.ref s.heap.objs.size, _, I.laid (a := s.heap.objs.size) (o := .dK []) (t' := s.toks) (fun _ _ q => Heap.get?_push_of_some _ q) (Nat.le_refl _) (dk_empty s.heap I.big), rfl, h _ (I.hok.fresh (Nat.le_refl _))⟩
end
def tPairs : List (TE × TE) → St → Hp → (List (V × V) → Hp → Prop) → Prop
  | [], _, H, Q => Q [] H
  | (tk, tv) :: r, σ, H, Q => tk σ H fun x H1 => tv σ H1 fun y H2 => tPairs r σ H2 fun ps H3 => Q ((x, y) :: ps) H3
abbrev VV : List (V × V) → List (Value × Value) → Prop := Paired fun p q => RelV p.1 q.1 ∧ RelV p.2 q.2
def PPs (X : Cx) (pos : Pos) (keys : List (Option Expr)) (values : List Expr) (trs : List (TE × TE)) : Prop :=
  ∀ (pins : List (Addr × Obj)) (s : Shared) (σ : St) (H : Hp) (Q : List (V × V) → Hp → Prop), Inv X pins σ H s → tPairs trs σ H Q →
    wpAny (model X.prog X.w) X.A (evalPairs (pairTrees keys values X.env pos)) (fun vs s' => ∃ ps H', Inv X pins σ H' s' ∧ VV ps vs ∧ Q ps H') X.xe s
theorem pps_nil {X : Cx} {pos : Pos} : PPs X pos [] [] [] := fun pins s σ H Q I h => pairTrees_nil_walk ⟨[], H, I, .nil, h⟩
theorem pps_cons {X : Cx} {pos : Pos} {k v : Expr} {ks : List (Option Expr)} {vs : List Expr} {tk tv : TE} {trs : List (TE × TE)} (hk : PE X k tk) (hv : PE X v tv) (hr : PPs X pos ks vs trs) :
    PPs X pos (some k :: ks) (v :: vs) ((tk, tv) :: trs) := fun pins s σ H Q I h =>
  pairTrees_cons_walk (thn (hk pins s σ H _ I h) fun u s1 ⟨x, H1, I1, rx, q1⟩ => thn (hv pins s1 σ H1 _ I1 q1) fun w2 s2 ⟨y, H2, I2, ry, q2⟩ =>
    thn (hr pins s2 σ H2 _ I2 q2) fun ws s3 ⟨ps, H3, I3, rel, q3⟩ => ⟨(x, y) :: ps, H3, I3, .cons ⟨rx, ry⟩ rel, q3⟩)
def mergeK (kvs more : List (Key × V)) : List (Key × V) := more.foldl (fun acc kv => putK acc kv.1 kv.2) kvs
theorem KV.merge : ∀ {more : List (Key × V)} {rs : List (Key × Value)} {kvs : List (Key × V)} {vs : List (Key × Value)}, KV more rs → KV kvs vs → KV (mergeK kvs more) (merged vs rs) := by
  intro more rs kvs vs r
  unfold KV at r
  induction r generalizing kvs vs with
  | nil => intro q; exact q
  | @cons p q ps qs h t ih =>
    intro r0
    have e : KV (putK kvs p.1 p.2) (stored vs q.1 q.2) := by
      have := r0.put p.1 h.2
      rw [← h.1]; exact this
    exact ih e
theorem length_mergeK : ∀ (more kvs : List (Key × V)), (mergeK kvs more).length ≤ kvs.length + more.length
  | [], kvs => by show kvs.length ≤ kvs.length + 0; omega
  | p :: r, kvs => by
    have h1 := length_mergeK r (putK kvs p.1 p.2)
    have h2 := length_putK kvs p.1 p.2
    show (mergeK (putK kvs p.1 p.2) r).length ≤ _
    rw [List.length_cons]; omega
theorem carries_of {P : Program} {w : World} : ∀ {kvs : List (Key × V)} {ws : List (Value × Value)}, VV (kvs.map fun kv => (kV kv.1, kv.2)) ws → ∃ rs, Carries (mixKind P w) ws rs ∧ KV kvs rs
  | [], _, r => by rw [List.map_nil] at r; cases r; exact ⟨[], True.intro, .nil⟩
  | p :: kvs, _, r => by
    rw [List.map_cons] at r
    cases r with
    | @cons a b as bs h t =>
      obtain ⟨rs, c, q⟩ := carries_of (P := P) (w := w) t
      obtain ⟨b1, b2⟩ := b
      exact ⟨(p.1, b2) :: rs, ⟨kV_is h.1, rfl, c⟩, .cons ⟨rfl, h.2⟩ q⟩
def tDisp (trs : List (TE × TE)) : TE := fun σ H Q => ∀ p, H p = none → tPairs trs σ (upd H p (.dK [])) fun ps H2 => H2 p = some (.dK []) ∧ ∃ kvs : List (Key × V), ps = kvs.map (fun kv => (kV kv.1, kv.2)) ∧ kvs.length ≤ 15 ∧ Q (.ref p) (upd H2 p (.dK (mergeK [] kvs)))
theorem pe_disp {X : Cx} {pos : Pos} {keys : List (Option Expr)} {values : List Expr} {trs : List (TE × TE)} (h : PPs X pos keys values trs) (hall : keys.all (·.isSome) = true) (hl : keys.length = values.length) (h0 : keys ≠ [])
    (h15 : keys.length ≤ 15) : PE X (.Dict keys values pos) (tDisp trs) := by
  intro pins s σ H Q I q
  have hn := I.hok.fresh (Nat.le_refl s.heap.objs.size)
  have I1 := I.laid (a := s.heap.objs.size) (o := .dK []) (h' := s.heap.push { cls := .type "dict", data := .dict #[] }) (t' := s.toks) (fun _ _ q => Heap.get?_push_of_some _ q) (Nat.le_refl _) (dk_empty s.heap I.big)
  refine wpAny_Dict_walk (knd := mixKind X.prog X.w) hall hl h0 h15 (thn (h pins _ σ _ _ I1 (q _ hn)) fun ws s2 ⟨ps, H2, I2, rel, e, kvs, ep, lk, q2⟩ => ?_)
  subst ep
  obtain ⟨rs, c, rk⟩ := carries_of (P := X.prog) (w := X.w) rel
  obtain ⟨z, hd, vs0, r0, dd⟩ := dk_of I2.hok e
  cases r0
  refine ⟨rs, c, dd, fun h' dd' hs => ⟨.ref s.heap.objs.size, _, ?_, rfl, q2⟩⟩
  have hz : (mergeK [] kvs).length ≤ sizeLine := by
    have h1 := length_mergeK kvs []
    rw [List.length_nil] at h1
    rw [sizeLine_eq]; omega
  have he : ∃ q, h'.get? s.heap.objs.size = some q := let ⟨q, _, _, hq, _⟩ := dd'; ⟨q, hq⟩
  exact d_write I2 (by rw [e]; exact True.intro) hs he (dk_new hz hd (rk.merge .nil) dd')
structure M1 (X : Cx) (o : Expr) (m : Str) (apos : Pos) (e : Expr) (cpos : Pos) : Prop where
  base : attributeBase o m X.env (eval o X.env) = eval o X.env
  few : ((backTo cpos (starEach [e] X.env)).all (fun x => !x.1) && (backToKw cpos (keywordEach [] X.env)).all (fun x => x.1.isSome)
    && decide (([e] : List Expr).length + ([] : List Keyword).length + (if ([] : List Keyword).isEmpty then 0 else 1) < 30)) = true
  line : (apos.endLine == cpos.line) = true
  trees : backTo cpos (starEach [e] X.env) = [(false, eval e X.env)]
structure M2 (X : Cx) (o : Expr) (m : Str) (apos : Pos) (e f : Expr) (cpos : Pos) : Prop where
  base : attributeBase o m X.env (eval o X.env) = eval o X.env
  few : ((backTo cpos (starEach [e, f] X.env)).all (fun x => !x.1) && (backToKw cpos (keywordEach [] X.env)).all (fun x => x.1.isSome)
    && decide (([e, f] : List Expr).length + ([] : List Keyword).length + (if ([] : List Keyword).isEmpty then 0 else 1) < 30)) = true
  line : (apos.endLine == cpos.line) = true
  trees : backTo cpos (starEach [e, f] X.env) = [(false, eval e X.env), (false, eval f X.env)]
def IsD (H : Hp) (a : Addr) : Prop := (∃ kvs, Rd H a (.dK kvs)) ∨ ∃ kvs, Rd H a (.dT kvs)
theorem isD_at {X : Cx} {pins : List (Addr × Obj)} {σ : St} {H : Hp} {s : Shared} {a : Addr} (I : Inv X pins σ H s) (d : IsD H a) :
    s.TypeIs (.ref a) "dict" ∧ (∀ b, Value.ref a = .ref b → ∃ ob, s.heap.get? b = some ob ∧ ob.dict = none) ∧ (a == sysModules) = false := by
  rcases d with ⟨kvs, e⟩ | ⟨kvs, e⟩
  · obtain ⟨_, hd, vs, _, dd⟩ := dk_rd I.hok e
    refine ⟨dd.typeIs, fun b q => ?_, hd⟩
    cases q
    obtain ⟨ob, _, _, h1, h2, _⟩ := dd
    exact ⟨ob, h1, h2.2.1⟩
  · obtain ⟨_, hd, xs, _, dd⟩ := dt_rd I.hok e
    refine ⟨dd.typeIs, fun b q => ?_, hd⟩
    cases q
    obtain ⟨ob, _, _, h1, h2, _⟩ := dd
    exact ⟨ob, h1, h2.2.1⟩
section
variable {X : Cx} {pins : List (Addr × Obj)} {σ : St} {H : Hp} {s : Shared} {a : Addr} {y d : V} {u r : Value} {o : Option V} {A : Around} {E : Value → Shared → Prop}
theorem d_get1 {Q : Value → Shared → Prop} (hu : A.units + 1 < cLine) (I : Inv X pins σ H s) (g : DGet H a y o) (ry : RelV y u) (h : ∀ w' s', Inv X pins σ H s' → RelV (o.getD .non) w' → Q w' s') :
    wpAny (model X.prog X.w) A (call (.builtin "dict.get") [.ref a, u]) Q E s := by
  rcases g with ⟨kvs, k, e, ey, l⟩ | ⟨kvs, k, b, e, ey, eb, l⟩
  · subst ey
    obtain ⟨z, hd, vs, rel, dd⟩ := dk_rd I.hok e
    refine call_meetsIn PySem.F.slot_dict_get dd.typeIs PySem.F.entry_dict_get (PySem.F.args_dict_get_2 _ _) (meets_dict_get (mixKind X.prog X.w) a (kV_is ry) hd) ⟨_, dd.mapOf, h _ _ (I.tok _) ?_⟩
    rw [l]
    exact (rel.val k).getD rfl
  · subst ey
    cases (show u = Value.ref b from ry)
    obtain ⟨z, hd, xs, rel, dd⟩ := dt_rd I.hok e
    refine call_meetsIn PySem.F.slot_dict_get dd.typeIs PySem.F.entry_dict_get (PySem.F.args_dict_get_2 _ _) (meetsH_dict_get (tupleKind (mixKind X.prog X.w)) a b hd) ⟨tupleKind_room_in1 hu, k, xs, key_of I.hok eb, dd, h _ _ (I.tok _) ?_⟩
    rw [l]
    exact (rel.val k).getD rfl
theorem d_get2 {Q : Value → Shared → Prop} (hu : A.units + 1 < cLine) (I : Inv X pins σ H s) (g : DGet H a y o) (ry : RelV y u) (rd : RelV d r) (h : ∀ w' s', Inv X pins σ H s' → RelV (o.getD d) w' → Q w' s') :
    wpAny (model X.prog X.w) A (call (.builtin "dict.get") [.ref a, u, r]) Q E s := by
  rcases g with ⟨kvs, k, e, ey, l⟩ | ⟨kvs, k, b, e, ey, eb, l⟩
  · subst ey
    obtain ⟨z, hd, vs, rel, dd⟩ := dk_rd I.hok e
    refine call_meetsIn PySem.F.slot_dict_get dd.typeIs PySem.F.entry_dict_get (PySem.F.args_dict_get_3 _ _ _) (meets_dict_get_default (mixKind X.prog X.w) a (kV_is ry) hd r) ⟨_, dd.mapOf, h _ _ (I.tok _) ?_⟩
    rw [l]
    exact (rel.val k).getD rd
  · subst ey
    cases (show u = Value.ref b from ry)
    obtain ⟨z, hd, xs, rel, dd⟩ := dt_rd I.hok e
    refine call_meetsIn PySem.F.slot_dict_get dd.typeIs PySem.F.entry_dict_get (PySem.F.args_dict_get_3 _ _ _) (meetsH_dict_get_default (tupleKind (mixKind X.prog X.w)) a b hd r) ⟨tupleKind_room_in1 hu, k, xs, key_of I.hok eb, dd, h _ _ (I.tok _) ?_⟩
    rw [l]
    exact (rel.val k).getD rd
end
def tDGet1 (td ty : TE) : TE := fun σ H Q => td σ H fun x H1 => ∃ a, x = .ref a ∧ IsD H1 a ∧ ty σ H1 fun y H2 => ∃ o, DGet H2 a y o ∧ Q (o.getD .non) H2
def tDGet2 (td ty tx : TE) : TE := fun σ H Q => td σ H fun x H1 => ∃ a, x = .ref a ∧ IsD H1 a ∧ ty σ H1 fun y H2 => tx σ H2 fun z H3 => ∃ o, DGet H3 a y o ∧ Q (o.getD z) H3
def tDPop1 (td ty : TE) : TE := fun σ H Q => td σ H fun x H1 => ∃ a, x = .ref a ∧ IsD H1 a ∧ ty σ H1 fun y H2 => ∃ kvs k v, H2 a = some (.dK kvs) ∧ y = kV k ∧ valV kvs k = some v ∧ Q v (upd H2 a (.dK (dropK kvs k)))
def tDPop2 (td ty tx : TE) : TE := fun σ H Q => td σ H fun x H1 => ∃ a, x = .ref a ∧ IsD H1 a ∧ ty σ H1 fun y H2 => tx σ H2 fun z H3 => ∃ kvs k, H3 a = some (.dK kvs) ∧ y = kV k ∧
  (∀ v, valV kvs k = some v → Q v (upd H3 a (.dK (dropK kvs k)))) ∧ (valV kvs k = none → Q z H3)
section
variable {X : Cx} {o e f : Expr} {apos cpos : Pos} {td ty tx : TE}
theorem pe_dget1 (hu : X.A.units + 1 < cLine) (ho : PE X o td) (he : PE X e ty) (m : M1 X o "get" apos e cpos) : PE X (.Call (.Attribute o "get" apos) [e] [] cpos) (tDGet1 td ty) := by
  intro pins s σ H Q I h
  refine wpAny_Call_method m.base m.few m.line PySem.F.plainAttrs_dict PySem.F.slot_dict_get PySem.F.type_dict_get (thn (ho pins s σ H _ I h) fun u s1 ⟨x, H1, I1, rx, a, ex, d, q1⟩ => ?_)
  subst ex
  obtain rfl : u = Value.ref a := rx
  obtain ⟨t1, t2, _⟩ := isD_at I1 d
  refine ⟨t1, t2, ?_⟩
  rw [m.trees]
  refine Calls.callWith_builtin rfl (Calls.evalArgs_plain (Calls.spliced_cons (thn (he pins s1 σ H1 _ I1 q1) fun iv s2 ⟨y, H2, I2, ry, ov, g, q2⟩ => Calls.spliced_nil ?_)))
  exact d_get1 hu I2 g ry fun w' s3 I3 rw' => ⟨_, H2, I3, rw', q2⟩
theorem pe_dget2 (hu : X.A.units + 1 < cLine) (ho : PE X o td) (he : PE X e ty) (hf : PE X f tx) (m : M2 X o "get" apos e f cpos) : PE X (.Call (.Attribute o "get" apos) [e, f] [] cpos) (tDGet2 td ty tx) := by
  intro pins s σ H Q I h
  refine wpAny_Call_method m.base m.few m.line PySem.F.plainAttrs_dict PySem.F.slot_dict_get PySem.F.type_dict_get (thn (ho pins s σ H _ I h) fun u s1 ⟨x, H1, I1, rx, a, ex, d, q1⟩ => ?_)
  subst ex
  obtain rfl : u = Value.ref a := rx
  obtain ⟨t1, t2, _⟩ := isD_at I1 d
  refine ⟨t1, t2, ?_⟩
  rw [m.trees]
  refine Calls.callWith_builtin rfl (Calls.evalArgs_plain (Calls.spliced_cons (thn (he pins s1 σ H1 _ I1 q1) fun iv s2 ⟨y, H2, I2, ry, q2⟩ =>
    Calls.spliced_cons (thn (hf pins s2 σ H2 _ I2 q2) fun fv s3 ⟨z, H3, I3, rz, ov, g, q3⟩ => Calls.spliced_nil ?_))))
  exact d_get2 hu I3 g ry rz fun w' s4 I4 rw' => ⟨_, H3, I4, rw', q3⟩
theorem pe_dpop1 (ho : PE X o td) (he : PE X e ty) (m : M1 X o "pop" apos e cpos) : PE X (.Call (.Attribute o "pop" apos) [e] [] cpos) (tDPop1 td ty) := by
  intro pins s σ H Q I h
  refine wpAny_Call_method m.base m.few m.line PySem.F.plainAttrs_dict PySem.F.slot_dict_pop PySem.F.type_dict_pop (thn (ho pins s σ H _ I h) fun u s1 ⟨x, H1, I1, rx, a, ex, d, q1⟩ => ?_)
  subst ex
  obtain rfl : u = Value.ref a := rx
  obtain ⟨t1, t2, _⟩ := isD_at I1 d
  refine ⟨t1, t2, ?_⟩
  rw [m.trees]
  refine Calls.callWith_builtin rfl (Calls.evalArgs_plain (Calls.spliced_cons (thn (he pins s1 σ H1 _ I1 q1) fun iv s2 ⟨y, H2, I2, ry, kvs, k, v, ea, ey, l, q2⟩ => Calls.spliced_nil ?_)))
  subst ey
  exact d_pop I2 ea ry l (.inl rfl) fun w' s3 I3 rw' => ⟨v, _, I3, rw', q2⟩
theorem pe_dpop2 (ho : PE X o td) (he : PE X e ty) (hf : PE X f tx) (m : M2 X o "pop" apos e f cpos) : PE X (.Call (.Attribute o "pop" apos) [e, f] [] cpos) (tDPop2 td ty tx) := by
  intro pins s σ H Q I h
  refine wpAny_Call_method m.base m.few m.line PySem.F.plainAttrs_dict PySem.F.slot_dict_pop PySem.F.type_dict_pop (thn (ho pins s σ H _ I h) fun u s1 ⟨x, H1, I1, rx, a, ex, d, q1⟩ => ?_)
  subst ex
  obtain rfl : u = Value.ref a := rx
  obtain ⟨t1, t2, _⟩ := isD_at I1 d
  refine ⟨t1, t2, ?_⟩
  rw [m.trees]
  refine Calls.callWith_builtin rfl (Calls.evalArgs_plain (Calls.spliced_cons (thn (he pins s1 σ H1 _ I1 q1) fun iv s2 ⟨y, H2, I2, ry, q2⟩ =>
    Calls.spliced_cons (thn (hf pins s2 σ H2 _ I2 q2) fun fv s3 ⟨z, H3, I3, rz, kvs, k, ea, ey, q3, q4⟩ => Calls.spliced_nil ?_))))
  subst ey
  cases l : valV kvs k with
  | some v => exact d_pop I3 ea ry l (.inr ⟨fv, rfl⟩) fun w' s4 I4 rw' => ⟨v, _, I4, rw', q3 v l⟩
  | none => exact d_popD I3 ea ry l fun s4 I4 => ⟨z, H3, I4, rz, q4 l⟩
end
section
variable {X : Cx} {pins : List (Addr × Obj)} {σ : St} {H : Hp} {s : Shared} {a : Addr} {kvs : List (Key × V)} {A : Around} {E : Value → Shared → Prop}
end
section
variable {X : Cx} {pins : List (Addr × Obj)} {σ : St} {H : Hp} {s : Shared} {a : Addr} {y : V} {u : Value} {A : Around} {E : Value → Shared → Prop}
end
end L2
set_option Elab.async false
set_option linter.all false
set_option maxRecDepth 100000
set_option maxHeartbeats 4000000
namespace L2
open PySem PySem.Spec PyProof.Rows
section
variable {X : Cx} {pos : Pos}
end
end L2
set_option Elab.async false
set_option linter.all false
set_option maxRecDepth 100000
set_option maxHeartbeats 4000000
namespace L2
open PySem PySem.Spec PyProof.Rows
section
variable {X : Cx} {pins : List (Addr × Obj)} {σ : St} {H : Hp} {s : Shared} {h' : Heap}
end
namespace En
section
variable {prog : Program} {w : World} {A : Around} {E : Value → Shared → Prop} {s : Shared}
end
end En
end L2
set_option Elab.async false
set_option linter.all false
set_option maxRecDepth 100000
set_option maxHeartbeats 4000000
namespace L2
open PySem PySem.Spec PyProof.Rows
section
variable {X : Cx}
end
end L2
set_option Elab.async false
set_option linter.all false
set_option maxRecDepth 100000
set_option maxHeartbeats 4000000
namespace L2
open PySem PySem.Spec PyProof.Rows
section
variable {X : Cx}
end
end L2
set_option Elab.async false
set_option linter.all false
set_option maxRecDepth 100000
set_option maxHeartbeats 4000000
namespace L2
open PySem PySem.Spec PyProof.Rows
def CXw (P : Program) (w : World) : CXT := fun outer H s E e s' => ∃ (x C : Addr) (B : Heap) (H' : Hp) (a0 : Value), e = .ref x ∧ s'.os = s.os ∧ AllBare s'.gens ∧ Heap.FlyingW B outer x (.ref C) a0 s'.heap ∧
  Un (frs outer) [] H H' s.heap s'.heap ∧ HOk P w H' B ∧ (∀ b o, s.heap.get? b = some o → H b = none → b ∉ frs outer → B.get? b = some o) ∧ (∀ b o, s.heap.get? b = some o → b ∉ frs outer → ∃ o', B.get? b = some o') ∧ E (.ref C) none H'
section
variable {P : Program} {w : World} {K : PySem.W.Frag} {mg : Str → Option Value} {base : Heap} {N : List Str} {qual : Str} {scope : Scope} {f : Addr} {cd : Value} {A : Around} {outer : List Env} {s : Shared} {H : Hp} {E : XK}
  {pins : List (Addr × Obj)} {σ : St} {H1 : Hp} {s1 : Shared}
end
end L2
set_option Elab.async false
set_option linter.all false
set_option maxRecDepth 100000
set_option maxHeartbeats 4000000
namespace L2
open PySem PySem.Spec PyProof.Rows
section
variable {X : Cx} {pos : Pos}
end
section
variable {P : Program} {w : World} {K : PySem.W.Frag} {mg : Str → Option Value} {base : Heap}
end
end L2
set_option Elab.async false
set_option linter.all false
set_option maxRecDepth 100000
set_option maxHeartbeats 4000000
namespace L2
open PySem PySem.Spec PyProof.Rows
def ExAt (x C : Addr) (h : Heap) : Prop := ∃ ob vs, h.get? x = some ob ∧ ob.cls = .ref C ∧ ob.data = .fields vs
def Thr (X : Cx) (pins : List (Addr × Obj)) (σ : St) (H' : Hp) (x C : Addr) (s : Shared) : Prop :=
  ∃ (B : Heap) (H1 : Hp) (s1 : Shared) (a0 : Value), Inv X pins σ H1 s1 ∧ s.os = s1.os ∧ AllBare s.gens ∧ Heap.FlyingW B X.stack x (.ref C) a0 s.heap ∧ Un (frs X.stack) [] H1 H' s1.heap s.heap ∧ HOk X.prog X.w H' B ∧
    (∀ b o, s1.heap.get? b = some o → H1 b = none → b ∉ frs X.stack → B.get? b = some o) ∧ (∀ b o, s1.heap.get? b = some o → b ∉ frs X.stack → ∃ o', B.get? b = some o')
section
variable {X : Cx} {pins : List (Addr × Obj)} {σ : St} {H' : Hp} {x C : Addr} {s : Shared}
end
abbrev XR := Addr → St → Hp → Prop
def XP (X : Cx) (pins : List (Addr × Obj)) (R : XR) (e : Value) (s : Shared) : Prop := ∃ x C σ H, e = .ref x ∧ Thr X pins σ H x C s ∧ R C σ H
section
variable {X : Cx} {k : Nat} {f : Addr} {fd : FuncData} {ps : List Str} {sp : Sp} {x : Str} {p pos : Pos} {e : Expr} {es : List Expr} {t : TA}
end
abbrev TH := Ends → Addr → St → Hp → Prop
section
variable {X : Cx} {y n : Str} {Y : Addr} {np pos : Pos} {b₀ : Stmt} {suite : List Stmt} {rest : List ExceptHandler} {tb : TS} {tr : TH} {i : Nat}
end
end L2
set_option Elab.async false
set_option linter.all false
set_option maxRecDepth 100000
set_option maxHeartbeats 4000000
namespace L2
open PySem PySem.Spec PyProof.Rows PySem.Calls PySem.W Builtin Builtin.ObjectAttr Builtin.Getset_descriptor
structure ExcI (K : PySem.W.Frag) (C : Addr) : Prop where
  ga : findIn K (.ref C) "__getattribute__" = some (some (.builtin "BaseException.__getattribute__"))
  gt : findIn K (.ref C) "__getattr__" = some none
  cl : isClsIn K C = true
  at_ : findIn K (.ref C) "__class__" = some (some (.builtin "object.__class__"))
  gs : specialIn K (.builtin "object.__class__") "__get__" = some (some (.builtin "getset_descriptor.__get__"))
  tk : takesIn K (.builtin "object.__class__") = some true
  mo : mroIn K C (.type "object") = some true
  be : subIn K (.ref C) (.type "BaseException") = some true
section
variable {prog : Program} {w : World} {A : Around} {E : Value → Shared → Prop} {s : Shared} {K : PySem.W.Frag} {x C : Addr}
end
section
variable {X : Cx}
end
end L2
set_option Elab.async false
set_option linter.all false
set_option maxRecDepth 100000
set_option maxHeartbeats 4000000
namespace L2
open PySem PySem.Spec PyProof.Rows
section
variable {P : Program} {w : World} {K : PySem.W.Frag} {mg : Str → Option Value} {base : Heap}
end
end L2
set_option Elab.async false
set_option linter.all false
set_option maxRecDepth 100000
set_option maxHeartbeats 4000000
namespace L2
open PySem PySem.Spec PyProof.Rows
section
variable {X : Cx}
end
end L2
set_option Elab.async false
set_option linter.all false
set_option maxRecDepth 100000
set_option maxHeartbeats 4000000
namespace L2
open PySem PySem.Spec PyProof.Rows
section
variable {prog : Program} {w : World} {A : Around} {R : Result → Shared → Prop} {s : Shared}
theorem compLoopIf_go {elt target iter c : Expr} {scope : Scope} {pos : Pos} {it acc : Value} {env : Env} (I : Nat → Shared → Prop)
    (turn : ∀ n s, I n s → wpAny (model prog w) A (pyNext it) (fun r s₁ => match r with
      | none => R (.ok .next) s₁
      | some v => wpAny (model prog w) A (letOwnedTupleGo target it v) (fun _ s₀ => wpAny (model prog w) A (assign target env v) (fun _ s₂ => wpAny (model prog w) A (isTrue c env (eval c env)) (fun b s₅ =>
          match b with
          | true => wpAny (model prog w) A (eval elt env) (fun x s₃ => wpAny (model prog w) A (call (.builtin "list.append") [acc, x]) (fun _ s₄ => ∃ m, m < n ∧ I m s₄) (fun _ _ => False) s₃) (fun _ _ => False) s₅
          | false => ∃ m, m < n ∧ I m s₅) (fun _ _ => False) s₂) (fun _ _ => False) s₀) (fun _ _ => False) s₁) (fun _ _ => False) s)
    (n : Nat) (h : I n s) : codeAny (model prog w) A (.compLoop (.ListComp elt [⟨target, iter, [c], 0⟩] scope pos) 0 it acc env) R s := by
  refine codeAny_loop rfl I (fun n s hI => ?_) n h
  show wpAny _ _ ((compTurn (.ListComp elt [⟨target, iter, [c], 0⟩] scope pos) 0 it acc env).onRaise (fun x => do noteFrame x env; theTreesLotGoes x)) _ _ s
  refine wpAny_noted ?_
  rw [compTurn_list]
  refine wpAny_bind (wpAny_standAt (wpAny_bind (wpAny_mono (turn n s hI) (fun r s₁ h₁ => ?_) fun _ _ h' => h'.elim)))
  cases r with
  | none => exact wpAny_pure h₁
  | some v =>
    refine wpAny_bind (wpAny_mono h₁ (fun _ s₀ h₀ => ?_) fun _ _ h' => h'.elim)
    refine wpAny_bind (wpAny_mono h₀ (fun _ s₂ h₂ => wpAny_bind (wpAny_tests_one (wpAny_mono h₂ (fun ok s₃ h₃ => ?_) fun _ _ h' => h'.elim))) fun _ _ h' => h'.elim)
    cases ok with
    | false => exact wpAny_pure ⟨rfl, h₃⟩
    | true =>
      exact wpAny_bind (wpAny_bind (wpAny_mono h₃ (fun x s₄ h₄ => wpAny_bind (wpAny_mono h₄ (fun _ s₅ h₅ => wpAny_pure (wpAny_pure ⟨rfl, h₅⟩)) fun _ _ h' => h'.elim)) fun _ _ h' => h'.elim))
end
def CompGoIf (tt : TT) (te : TE) (fv : St) (Q : VK) (J : It) (H1 : Hp) : Prop := ∃ W : Nat → Nat → List V → Hp → Prop, (∃ m, W 0 m [] H1) ∧ ∀ i m ys H2, W i m ys H2 →
  (J.stop i H2 ∧ ys.length ≤ sizeLine ∧ ∀ D, H2 D = none → Q (.ref D) (upd H2 D (.lst ys))) ∨
  (J.go i H2 ∧ ys.length < sizeLine ∧ ∀ x H3, J.yld i H2 x H3 → tt (some x :: fv) H3 fun b H4 => match b with
    | true => te (some x :: fv) H4 fun y H5 => ∃ m', m' < m ∧ W (i + 1) m' (ys ++ [y]) H5
    | false => ∃ m', m' < m ∧ W (i + 1) m' ys H4)
def tCompIf (wi : TI) (fv : St → St) (tt : TT) (te : TE) : TE := fun σ H Q => wi σ H (CompGoIf tt te (fv σ) Q)
section
variable {X : Cx} {elt iter cnd : Expr} {x : Str} {px pos : Pos} {scope : Scope} {cl : List (Str × Addr)} {fns : List Str} {ixs : List Nat} {wi : TI} {tt : TT} {te : TE}
end
end L2
set_option Elab.async false
set_option linter.all false
set_option maxRecDepth 10000
set_option maxHeartbeats 400000
namespace L2
open PySem PySem.Spec PyProof.Rows
section
variable {X : Cx}
end
end L2
set_option Elab.async false
set_option linter.all false
set_option maxRecDepth 100000
set_option maxHeartbeats 4000000
namespace L2
open PySem PySem.Spec PyProof.Rows
section
variable {X : Cx}
end
end L2
set_option Elab.async false
set_option linter.all false
set_option maxRecDepth 100000
set_option maxHeartbeats 4000000
namespace L2
open PySem PySem.Spec PyProof.Rows
section
variable {X : Cx} {tg : Expr}
end
end L2
set_option Elab.async false
set_option linter.all false
set_option maxRecDepth 100000
set_option maxHeartbeats 4000000
namespace L2
open PySem PySem.Spec PyProof.Rows
section
variable {X : Cx} {elt iter cnd : Expr} {x : Str} {px pos : Pos} {scope : Scope} {cl : List (Str × Addr)} {fns : List Str} {ixs : List Nat} {wi : TI} {tt : TT} {te : TE}
theorem ps_setComp {iy : Nat} {y : Str} {py spos : Pos} (hN : X.N.Nodup) (hiy : X.N[iy]? = some y) (hy : Loc X.env.scope y) (hc : X.calm = true) (hi : PI X (.Name x px) iter wi) (S : CompScope X x fns ixs scope cl)
    (he : ∀ (C : Addr) (s : Shared) (H : Hp) (ex : List Addr), PE (cxComp X (x :: fns) scope cl C s H ex) elt te)
    (hs : ∀ x, foldedSetIterable iter X.env x = pure x := by intro _; rfl) (hsw : swapsWith (.ListComp elt [⟨.Name x px, iter, [], 0⟩] scope pos) (some (.Name y py)) spos.line X.env = pure true := by rfl)
    (hfy : X.fn y = true ∨ X.env.scope.names.lookup y = some .local := by first | exact .inl rfl | exact .inr rfl | assumption) :
    PS X (.Assign [.Name y py] (.ListComp elt [⟨.Name x px, iter, [], 0⟩] scope pos) spos) (tAsg (tComp wi (fvOf ixs) te) (gName iy)) := by
  intro pins s σ H DD I h
  rw [exec_Assign_Name_used _ _ _ _ hsw]
  refine wpAny_bind (wpAny_standAt (wpAny_bind ?_))
  show wpAny _ X.A (do let _ ← comprehension (.ListComp elt [⟨.Name x px, iter, [], 0⟩] scope pos) scope X.env _ (newList []) false (eval iter X.env) (some (assign (.Name y py) X.env))) _ _ s
  refine wpAny_bind (wpAny_mono (wpAny_comprehension_free (use := some (assign (.Name y py) X.env)) (Q := fun _ s' => SP X pins DD .next s') rfl hs S.clos S.kind S.names (thn (hi pins s σ H _ I h) fun v s1 h1 => thn h1 fun itv s2 h2 => ?_)) (fun _ s' hq => wpAny_pure (wpAny_pure hq)) fun _ _ e => e)
  obtain ⟨it, fp, tn, J, H2, e, I2, T, st2, f2, W, ⟨m0, w0⟩, turn⟩ := h2
  subst e
  have hfpLt : ∀ b ∈ fp, b < s2.heap.objs.size := fun b hb => by
    obtain ⟨o, ho, _⟩ := T.obj _ _ st2 b hb
    exact Heap.lt_size ho
  refine wpAny_newObj_type (wpAny_newFunctionEnv S.cell (by intro y hy; simp at hy) (fun h₁ hns₁ hsb₁ => ?_) S.kind)
  dsimp only at hns₁ hsb₁ ⊢
  generalize hH3 : s2.heap.push { cls := .type "list", dict := none, data := .seq ([] : List Value).toArray } = hp3 at hns₁ hsb₁ ⊢
  generalize hD : s2.heap.objs.size = D at hfpLt ⊢
  have hC : hp3.objs.size = D + 1 := by rw [← hH3, Heap.size_push, hD]
  generalize hCe : hp3.objs.size = C at hC hns₁ hsb₁ ⊢
  have hDltC : D < C := by omega
  have hDC : D ≠ C := Nat.ne_of_lt hDltC
  have k23 : ∀ b u, s2.heap.get? b = some u → hp3.get? b = some u := fun b u q => by rw [← hH3]; exact Heap.get?_push_of_some _ q
  have ltD : ∀ {b u}, s2.heap.get? b = some u → b < D := fun q => by rw [← hD]; exact Heap.lt_size q
  have k34 : ∀ b u, hp3.get? b = some u → h₁.get? b = some u := fun b u q =>
    hsb₁.extBut b u (Nat.ne_of_lt (Nat.lt_of_lt_of_le (Heap.lt_size q) (Nat.le_of_eq hCe))) (Heap.get?_push_of_some _ q)
  have hDo : hp3.get? D = some { cls := .type "list", dict := none, data := .seq ([] : List Value).toArray } := by rw [← hH3, ← hD]; exact Heap.get?_push_size _ rfl
  have I3 : Inv X pins σ H2 { s2 with heap := hp3 } := I2.kept (t' := s2.toks) k23
  have hnD : H2 D = none := I2.hok.fresh (by omega)
  have hnC : H2 C = none := I2.hok.fresh (by omega)
  have nstk : ∀ b ∈ D :: fp, b ∉ frs X.stack := fun b hb z => by
    rcases List.mem_cons.mp (I2.stkSub b z) with e | z
    · rcases List.mem_cons.mp hb with e2 | hb
      · exact absurd I2.lt (by rw [← e, e2, ← hD]; exact Nat.lt_irrefl _)
      · exact (f2 b hb).2.1 e
    · rcases List.mem_cons.mp hb with e2 | hb
      · exact I2.nofs (by rw [e2, ← hD]; exact Nat.le_refl _) z
      · exact (f2 b hb).2.2.1 z
  have cne : ∀ y c, cl.lookup y = some c → ∀ b ∈ D :: fp, c ≠ b := fun y c q b hb z => by
    obtain ⟨v, hv⟩ := I2.cell y c (S.sub y c q)
    rcases List.mem_cons.mp hb with e2 | hb
    · exact absurd hv.lt (by rw [z, e2, ← hD]; exact Nat.lt_irrefl _)
    · exact (f2 b hb).2.2.2.2.1 y c (S.sub y c q) z
  -- the block's context
  let Xc : Cx := cxComp X (x :: fns) scope cl C { s2 with heap := hp3 } H2 (D :: fp)
  have ok : Xc.Ok := {
    mod := I2.ok.mod
    kind := S.kind
    glob := I2.ok.glob
    blt := I2.ok.blt
    above := by show hp3.objs.size ≤ C; omega
    inj := fun y z c q1 q2 => I2.ok.inj y z c (S.sub _ _ q1) (S.sub _ _ q2)
    has := S.has
    cab := fun y c q => nomatch q
    hd := I2.ok.hd
    frames := I2.ok.frames
    stk := .inl rfl
    exf := fun b hb => ⟨by
      rcases List.mem_cons.mp hb with e2 | hb
      · rw [e2]; exact hDC
      · exact Nat.ne_of_lt (Nat.lt_trans (hfpLt b hb) hDltC), fun y c q => cne y c q b hb⟩
    bs := I3.bs
    bsz := Nat.le_trans I3.ok.bsz I3.sz
    noex := fun b o q hb => by
      rcases List.mem_cons.mp hb with e2 | hb
      · exact absurd (ltD (I2.bs b o q).1) (by rw [e2]; exact Nat.lt_irrefl _)
      · rcases (f2 b hb).2.2.2.1 with z | z
        · exact I2.ok.noex b o q z
        · exact absurd (Heap.lt_size (I2.ok.bs b o q).1) (Nat.not_lt.mpr z)
    exfs := nstk
    funs := I3.stack
    frf := I3.stkFree }
  have start : ∀ (v0 : Option V) , v0 = none → Inv Xc [(D, { cls := .type "list", dict := none, data := .seq ([] : List Value).toArray })] (v0 :: fvOf ixs σ) H2 { s2 with heap := h₁, toks := s2.toks + ([] : List (Str × Value)).length } := fun v0 hv0 => {
    ok := ok
    os := rfl
    bare := I2.bare
    base := Un.kept k34
    loc := ⟨_, hns₁, fun i y v e1 e2 e3 => by
      cases i with
      | zero => rw [hv0] at e2; cases e2
      | succ j =>
        have e1' : fns[j]? = some y := e1
        have e2' : (fvOf ixs σ)[j]? = some (some v) := e2
        obtain ⟨i, hi1, hi2, hk, c, hc1, hc2⟩ := S.at_ j y e1'
        unfold fvOf at e2'
        rw [List.getElem?_map, hi1] at e2'
        have e3' : σ[i]? = some (some v) := by
          have z : (σ[i]?).join = some v := Option.some.inj e2'
          cases q : σ[i]? with
          | none => rw [q] at z; cases z
          | some o => rw [q] at z; rw [show o = some v from z]
        obtain ⟨m, _, hl⟩ := I2.loc
        obtain ⟨u, r, l⟩ := hl i y v hi2 e3' (hk.elim (fun z => .inr (.inl z)) fun z => .inr (.inr z))
        refine ⟨u, r, .inr ⟨hc2, c, hc1, ?_⟩⟩
        rcases l with ⟨z, _⟩ | ⟨_, c', hc', hcell⟩
        · rcases hk with hk | hk <;> (rw [hk] at z; cases z)
        · have : c' = c := Option.some.inj (hc'.symm.trans (S.sub _ _ hc1))
          subst this
          obtain ⟨o, ho, hd⟩ := hcell
          exact ⟨o, k34 _ _ (k23 _ _ ho), hd⟩⟩
    cell := fun y c q => by
      obtain ⟨v, o, ho, hd⟩ := I2.cell y c (S.sub y c q)
      exact ⟨v, o, k34 _ _ (k23 _ _ ho), hd⟩
    free := hnC
    freeC := fun y c q => I2.freeC y c (S.sub y c q)
    pin := fun p hp => by
      have hp' : p = (D, { cls := .type "list", dict := none, data := .seq ([] : List Value).toArray }) := by simpa [Xc, cxComp] using hp
      subst hp'
      exact ⟨k34 _ _ hDo, hnD, hDC, nstk D (List.mem_cons_self ..), fun v z => nomatch z⟩
    hok := (I2.hok.kept k23).kept k34
    len := by show (v0 :: fvOf ixs σ).length = (x :: fns).length; simp [fvOf, S.len] }
  -- what stays true of the iterator's objects
  have fpc : ∀ {H' : Hp} {pins' : List (Addr × Obj)}, (∀ b ∈ fp, H' b = none) → (∀ p ∈ pins', p.1 = D) → ∀ b ∈ fp, FpOk Xc pins' H' b := fun {H' pins'} hn hp b hb =>
    ⟨hn b hb, Nat.ne_of_lt (Nat.lt_trans (hfpLt b hb) hDltC), nstk b (List.mem_cons_of_mem _ hb), .inl (List.mem_cons_of_mem _ hb), fun y c q => cne y c q b (List.mem_cons_of_mem _ hb), fun p q => by
      have q' : p ∈ pins' := by simpa [Xc, cxComp] using q
      rw [hp p q']
      exact Nat.ne_of_gt (hfpLt b hb)⟩
  have loop : codeAny (model X.prog X.w) X.A (.compLoop (.ListComp elt [⟨.Name x px, iter, [], 0⟩] scope pos) 0 (.ref it) (.ref D) (compEnvC scope cl C X.env))
      (compPost (model X.prog X.w) X.A X.xe (some (assign (.Name y py) X.env)) (fun _ s' => SP X pins DD .next s') (.ref D) C) { s2 with heap := h₁, toks := s2.toks + ([] : List (Str × Value)).length } := by
    refine compLoop_go (fun n s' => ∃ (i : Nat) (ys : List V) (its : List Value) (nn : Nat) (v0 : Option V) (H' : Hp), Inv Xc [(D, { cls := .type "list", dict := none, data := .seq its.toArray nn })] (v0 :: fvOf ixs σ) H' s' ∧ tn i s'.heap ∧ (∀ b ∈ fp, H' b = none) ∧ Vals ys its ∧ W i n ys H') ?_ m0
      ⟨0, [], [], 0, none, H2, start none rfl, T.keep _ _ _ st2 fun b _ o q => k34 _ _ (k23 _ _ q), fun b hb => (f2 b hb).1, .nil, w0⟩
    rintro n s3 ⟨i, ys, its, nn, v0, H3, J3, tn3, fr3, vv, w3⟩
    have pinD : ∀ p ∈ ([(D, ({ cls := .type "list", dict := none, data := .seq its.toArray nn } : Obj))] : List (Addr × Obj)), p.1 = D := fun p hp => by
      have : p = (D, { cls := .type "list", dict := none, data := .seq its.toArray nn }) := by simpa using hp
      rw [this]
    rcases turn i n ys H3 w3 with ⟨stop, hlen, q⟩ | ⟨go, hlen, step⟩
    · -- the end
      refine thn (T.done Xc rfl rfl rfl hc i _ s3 _ H3 _ J3 (fpc fr3 pinD) tn3 stop) fun r s4 ⟨hr, J4⟩ => ?_
      subst hr
      obtain ⟨m, hn, _⟩ := J4.loc
      generalize hh4 : s4.heap = h''
      have hsb : Heap.SameBut C s4.heap h'' := by rw [← hh4]; exact ⟨rfl, fun _ _ => rfl⟩
      obtain ⟨gD, nD, _, _, _⟩ := J4.pin (D, { cls := .type "list", dict := none, data := .seq its.toArray nn }) (by simp [Xc, cxComp])
      have B := J4.base
      have kC : ∀ b u, b ≠ C → s4.heap.get? b = some u → h''.get? b = some u := fun b u hb q => (hsb.2 b hb).trans q
      have ne : ∀ {b o}, s2.heap.get? b = some o → b ≠ C ∧ b ≠ D := fun q => ⟨Nat.ne_of_lt (Nat.lt_trans (ltD q) hDltC), Nat.ne_of_lt (ltD q)⟩
      have nex : ∀ {b o}, s2.heap.get? b = some o → b ∉ fp → b ∉ D :: fp := fun q hx z => (List.mem_cons.mp z).elim (ne q).2 hx
      have uu : Un (frs X.stack) fp H2 (upd H3 D (.lst ys)) s2.heap h'' := {
        keep := fun b o q n hb hx => kC b o (ne q).1 (B.keep b o (k23 b o q) n hb (nex q hx))
        slot := fun b o q n hb hx => by
          obtain ⟨sl, e⟩ := B.slot b o (k23 b o q) n hb (nex q hx)
          exact ⟨sl, kC b _ (ne q).1 e⟩
        free := fun b o q n hx => by rw [upd_ne (ne q).2]; exact B.free b o (k23 b o q) n (nex q hx)
        there := fun b o q hx => by
          obtain ⟨o', e⟩ := B.there b o (k23 b o q) (nex q hx)
          exact ⟨o', kC b _ (ne q).1 e⟩
        tups := fun b xs q => by rw [upd_ne (ne_of_none q hnD)]; exact B.tups b xs q
        frzs := fun b o xs q => by rw [upd_ne (ne_of_none q hnD)]; exact B.frzs b o xs q
        tbls := fun b ps q => by
          obtain ⟨more, e⟩ := B.tbls b ps q
          exact ⟨more, by rw [upd_ne (ne_of_none q hnD)]; exact e⟩ }
      have hok : HOk X.prog X.w (upd H3 D (.lst ys)) h'' := fun b u e => by
        by_cases hb : b = D
        · subst hb
          rw [upd_same] at e
          cases e
          exact ⟨hlen, its, nn, vv, kC _ _ hDC gD⟩
        · rw [upd_ne hb] at e
          refine (J4.hok b u e).stay (fun c v hc q => kC c v ?_ q) (fun c q => by rw [upd_ne (ne_of_none q nD)]; exact q) fun c xs q => by rw [upd_ne (ne_of_none q nD)]; exact q
          have fC : H3 C = none := J4.free
          rcases hc with rfl | hc
          · exact ne_of_none e fC
          · exact ne_of_none hc fC
      have I5 : Inv X pins σ (upd H3 D (.lst ys)) s4 := I2.call' (s' := s4) J4.os (by rw [hh4]; exact uu) (by rw [hh4]; exact hok) J4.bare (fun b hb => ⟨(f2 b hb).2.2.2.1, (f2 b hb).2.1, (f2 b hb).2.2.2.2.1, (f2 b hb).2.2.2.2.2⟩)
      show wpAny _ X.A (assign (.Name y py) X.env (.ref D)) _ _ _
      have cL : X.env.locals ≠ C := fun z => by
        have h1 := I2.lt
        rw [hD, z] at h1
        exact absurd (Nat.lt_trans h1 hDltC) (Nat.lt_irrefl _)
      have cC : ∀ z c, X.env.cells.lookup z = some c → c ≠ C := fun z c hz e => by
        obtain ⟨v, hv⟩ := I2.cell z c hz
        have h1 := hv.lt
        rw [hD, e] at h1
        exact absurd (Nat.lt_trans h1 hDltC) (Nat.lt_irrefl _)
      have hCn : upd H3 D (.lst ys) C = none := by
        rw [upd_ne (Ne.symm hDC)]
        exact J4.free
      refine wpAny_assign_Name (store_ok2 I5 hN hiy hy (v := .ref D) rfl (fun s5 I6 hsame => ?_) hfy)
      obtain ⟨a5, sb5, ha5⟩ := hsame
      have neC : C ≠ a5 := by
        rcases ha5 with e | e
        · rw [e]; exact Ne.symm cL
        · exact Ne.symm (cC y a5 e)
      refine ⟨m, hn.sameBut sb5 neC, fun h6 sb6 => ?_⟩
      refine ⟨_, _, I6.turned (t' := s5.toks) (it := C) (fun b o hb e => (sb6.2 b hb).trans e) hCn (Ne.symm cL) (.inr (by
        have := I2.sz
        rw [hD] at this
        exact Nat.le_trans this (Nat.le_of_lt hDltC))) cC (fun p hp z => ?_), q D nD⟩
      have hlt := Heap.lt_size (I2.pin p hp).1
      rw [hD, z] at hlt
      exact absurd (Nat.lt_trans hlt hDltC) (Nat.lt_irrefl _)
    · -- a turn
      refine thn (T.item Xc rfl rfl rfl hc i _ s3 _ H3 _ J3 (fpc fr3 pinD) tn3 go) fun r s4 ⟨u, hr, h4⟩ => ?_
      subst hr
      refine thn h4 fun _ s5 ⟨xv, H5, J5, r5, y5, tn5, fr5⟩ => ?_
      have J5' := J5.pinned (fpc fr5 pinD) (T.obj _ _ tn5)
      have hg : PG Xc (.Name x px) (gName 0) := pg_name (X := Xc) (i := 0) S.nd rfl (.inl (relabel_own S.own)) (.inr (relabel_own S.own))
      refine thn (hg _ s5 _ H5 xv u (fun σ' H' => σ' = some xv :: fvOf ixs σ ∧ H' = H5) J5' r5 ⟨rfl, rfl⟩) fun _ s6 ⟨σ6, H6, J6, e6, e6'⟩ => ?_
      subst e6 e6'
      refine thn (he C { s2 with heap := hp3 } H2 (D :: fp) _ s6 _ H6 _ J6 (step xv H6 y5)) fun yv s7 ⟨y, H7, J7, r7, m', hm', w7⟩ => ?_
      obtain ⟨gD, nD, _, _, _⟩ := J7.pin (D, { cls := .type "list", dict := none, data := .seq its.toArray nn }) (by simp [Xc, cxComp])
      have tn7 : tn (i + 1) s7.heap := T.keep _ _ _ tn5 fun b hb o e => (J7.pin (b, o) (List.mem_append_right _ (List.mem_append_right _ (mem_pinsAt hb e)))).1
      have fr7 : ∀ b ∈ fp, H7 b = none := fun b hb => by
        obtain ⟨o, e, d⟩ := T.obj _ _ tn5 b hb
        exact (J7.pin (b, o) (List.mem_append_right _ (List.mem_append_right _ (mem_pinsAt hb e)))).2.1
      have J7' : Inv Xc [] (some xv :: fvOf ixs σ) H7 s7 := J7.pins_of fun p hp => nomatch hp
      refine wpAny_list_append_plain (hsz := by rw [List.size_toArray, ← vv.length]; omega) ⟨nn, gD⟩ fun h8 pl8 sb8 => ?_
      obtain ⟨n8, g8⟩ := pl8
      have J8 : Inv Xc [] (some xv :: fvOf ixs σ) H7 { s7 with heap := h8 } := J7'.turned (t' := s7.toks) (it := D) (fun b o hb e => (sb8.2 b hb).trans e) nD (hDC) (.inl (List.mem_cons_self ..))
        (fun y c q => cne y c q D (List.mem_cons_self ..)) (fun p hp => by simp [Xc, cxComp] at hp)
      refine ⟨m', hm', i + 1, ys ++ [y], its ++ [yv], n8, some xv, H7, J8.pins_of fun p hp => ?_, ?_, fr7, vv.append (.cons r7 .nil), w7⟩
      · have : p = (D, { cls := .type "list", dict := none, data := .seq (its ++ [yv]).toArray n8 }) := by simpa using hp
        subst this
        refine ⟨?_, nD, hDC, nstk D (List.mem_cons_self ..), fun v z => nomatch z⟩
        have : its.toArray.push yv = (its ++ [yv]).toArray := by simp
        rw [this] at g8
        exact g8
      · exact T.keep _ _ _ tn7 fun b hb o e => (sb8.2 b (Nat.ne_of_lt (hfpLt b hb))).trans e
  exact codeAny_compStart_list loop (T.self _ 0 _ _ _ (T.keep _ _ _ st2 fun b _ o q => k34 _ _ (k23 _ _ q)) loop)
theorem ps_setCompIf {iy : Nat} {y : Str} {py spos : Pos} (hN : X.N.Nodup) (hiy : X.N[iy]? = some y) (hy : Loc X.env.scope y) (hc : X.calm = true) (hi : PI X (.Name x px) iter wi) (S : CompScope X x fns ixs scope cl)
    (ht : ∀ (C : Addr) (s : Shared) (H : Hp) (ex : List Addr), PT (cxComp X (x :: fns) scope cl C s H ex) cnd tt) (he : ∀ (C : Addr) (s : Shared) (H : Hp) (ex : List Addr), PE (cxComp X (x :: fns) scope cl C s H ex) elt te)
    (hs : ∀ x, foldedSetIterable iter X.env x = pure x := by intro _; rfl) (hsw : swapsWith (.ListComp elt [⟨.Name x px, iter, [cnd], 0⟩] scope pos) (some (.Name y py)) spos.line X.env = pure true := by rfl)
    (hfy : X.fn y = true ∨ X.env.scope.names.lookup y = some .local := by first | exact .inl rfl | exact .inr rfl | assumption) :
    PS X (.Assign [.Name y py] (.ListComp elt [⟨.Name x px, iter, [cnd], 0⟩] scope pos) spos) (tAsg (tCompIf wi (fvOf ixs) tt te) (gName iy)) := by
  intro pins s σ H DD I h
  rw [exec_Assign_Name_used _ _ _ _ hsw]
  refine wpAny_bind (wpAny_standAt (wpAny_bind ?_))
  show wpAny _ X.A (do let _ ← comprehension (.ListComp elt [⟨.Name x px, iter, [cnd], 0⟩] scope pos) scope X.env _ (newList []) false (eval iter X.env) (some (assign (.Name y py) X.env))) _ _ s
  refine wpAny_bind (wpAny_mono (wpAny_comprehension_free (use := some (assign (.Name y py) X.env)) (Q := fun _ s' => SP X pins DD .next s') rfl hs S.clos S.kind S.names (thn (hi pins s σ H _ I h) fun v s1 h1 => thn h1 fun itv s2 h2 => ?_)) (fun _ s' hq => wpAny_pure (wpAny_pure hq)) fun _ _ e => e)
  obtain ⟨it, fp, tn, J, H2, e, I2, T, st2, f2, W, ⟨m0, w0⟩, turn⟩ := h2
  subst e
  have hfpLt : ∀ b ∈ fp, b < s2.heap.objs.size := fun b hb => by
    obtain ⟨o, ho, _⟩ := T.obj _ _ st2 b hb
    exact Heap.lt_size ho
  refine wpAny_newObj_type (wpAny_newFunctionEnv S.cell (by intro y hy; simp at hy) (fun h₁ hns₁ hsb₁ => ?_) S.kind)
  dsimp only at hns₁ hsb₁ ⊢
  generalize hH3 : s2.heap.push { cls := .type "list", dict := none, data := .seq ([] : List Value).toArray } = hp3 at hns₁ hsb₁ ⊢
  generalize hD : s2.heap.objs.size = D at hfpLt ⊢
  have hC : hp3.objs.size = D + 1 := by rw [← hH3, Heap.size_push, hD]
  generalize hCe : hp3.objs.size = C at hC hns₁ hsb₁ ⊢
  have hDltC : D < C := by omega
  have hDC : D ≠ C := Nat.ne_of_lt hDltC
  have k23 : ∀ b u, s2.heap.get? b = some u → hp3.get? b = some u := fun b u q => by rw [← hH3]; exact Heap.get?_push_of_some _ q
  have ltD : ∀ {b u}, s2.heap.get? b = some u → b < D := fun q => by rw [← hD]; exact Heap.lt_size q
  have k34 : ∀ b u, hp3.get? b = some u → h₁.get? b = some u := fun b u q =>
    hsb₁.extBut b u (Nat.ne_of_lt (Nat.lt_of_lt_of_le (Heap.lt_size q) (Nat.le_of_eq hCe))) (Heap.get?_push_of_some _ q)
  have hDo : hp3.get? D = some { cls := .type "list", dict := none, data := .seq ([] : List Value).toArray } := by rw [← hH3, ← hD]; exact Heap.get?_push_size _ rfl
  have I3 : Inv X pins σ H2 { s2 with heap := hp3 } := I2.kept (t' := s2.toks) k23
  have hnD : H2 D = none := I2.hok.fresh (by omega)
  have hnC : H2 C = none := I2.hok.fresh (by omega)
  have nstk : ∀ b ∈ D :: fp, b ∉ frs X.stack := fun b hb z => by
    rcases List.mem_cons.mp (I2.stkSub b z) with e | z
    · rcases List.mem_cons.mp hb with e2 | hb
      · exact absurd I2.lt (by rw [← e, e2, ← hD]; exact Nat.lt_irrefl _)
      · exact (f2 b hb).2.1 e
    · rcases List.mem_cons.mp hb with e2 | hb
      · exact I2.nofs (by rw [e2, ← hD]; exact Nat.le_refl _) z
      · exact (f2 b hb).2.2.1 z
  have cne : ∀ y c, cl.lookup y = some c → ∀ b ∈ D :: fp, c ≠ b := fun y c q b hb z => by
    obtain ⟨v, hv⟩ := I2.cell y c (S.sub y c q)
    rcases List.mem_cons.mp hb with e2 | hb
    · exact absurd hv.lt (by rw [z, e2, ← hD]; exact Nat.lt_irrefl _)
    · exact (f2 b hb).2.2.2.2.1 y c (S.sub y c q) z
  -- the block's context
  let Xc : Cx := cxComp X (x :: fns) scope cl C { s2 with heap := hp3 } H2 (D :: fp)
  have ok : Xc.Ok := {
    mod := I2.ok.mod
    kind := S.kind
    glob := I2.ok.glob
    blt := I2.ok.blt
    above := by show hp3.objs.size ≤ C; omega
    inj := fun y z c q1 q2 => I2.ok.inj y z c (S.sub _ _ q1) (S.sub _ _ q2)
    has := S.has
    cab := fun y c q => nomatch q
    hd := I2.ok.hd
    frames := I2.ok.frames
    stk := .inl rfl
    exf := fun b hb => ⟨by
      rcases List.mem_cons.mp hb with e2 | hb
      · rw [e2]; exact hDC
      · exact Nat.ne_of_lt (Nat.lt_trans (hfpLt b hb) hDltC), fun y c q => cne y c q b hb⟩
    bs := I3.bs
    bsz := Nat.le_trans I3.ok.bsz I3.sz
    noex := fun b o q hb => by
      rcases List.mem_cons.mp hb with e2 | hb
      · exact absurd (ltD (I2.bs b o q).1) (by rw [e2]; exact Nat.lt_irrefl _)
      · rcases (f2 b hb).2.2.2.1 with z | z
        · exact I2.ok.noex b o q z
        · exact absurd (Heap.lt_size (I2.ok.bs b o q).1) (Nat.not_lt.mpr z)
    exfs := nstk
    funs := I3.stack
    frf := I3.stkFree }
  have start : ∀ (v0 : Option V) , v0 = none → Inv Xc [(D, { cls := .type "list", dict := none, data := .seq ([] : List Value).toArray })] (v0 :: fvOf ixs σ) H2 { s2 with heap := h₁, toks := s2.toks + ([] : List (Str × Value)).length } := fun v0 hv0 => {
    ok := ok
    os := rfl
    bare := I2.bare
    base := Un.kept k34
    loc := ⟨_, hns₁, fun i y v e1 e2 e3 => by
      cases i with
      | zero => rw [hv0] at e2; cases e2
      | succ j =>
        have e1' : fns[j]? = some y := e1
        have e2' : (fvOf ixs σ)[j]? = some (some v) := e2
        obtain ⟨i, hi1, hi2, hk, c, hc1, hc2⟩ := S.at_ j y e1'
        unfold fvOf at e2'
        rw [List.getElem?_map, hi1] at e2'
        have e3' : σ[i]? = some (some v) := by
          have z : (σ[i]?).join = some v := Option.some.inj e2'
          cases q : σ[i]? with
          | none => rw [q] at z; cases z
          | some o => rw [q] at z; rw [show o = some v from z]
        obtain ⟨m, _, hl⟩ := I2.loc
        obtain ⟨u, r, l⟩ := hl i y v hi2 e3' (hk.elim (fun z => .inr (.inl z)) fun z => .inr (.inr z))
        refine ⟨u, r, .inr ⟨hc2, c, hc1, ?_⟩⟩
        rcases l with ⟨z, _⟩ | ⟨_, c', hc', hcell⟩
        · rcases hk with hk | hk <;> (rw [hk] at z; cases z)
        · have : c' = c := Option.some.inj (hc'.symm.trans (S.sub _ _ hc1))
          subst this
          obtain ⟨o, ho, hd⟩ := hcell
          exact ⟨o, k34 _ _ (k23 _ _ ho), hd⟩⟩
    cell := fun y c q => by
      obtain ⟨v, o, ho, hd⟩ := I2.cell y c (S.sub y c q)
      exact ⟨v, o, k34 _ _ (k23 _ _ ho), hd⟩
    free := hnC
    freeC := fun y c q => I2.freeC y c (S.sub y c q)
    pin := fun p hp => by
      have hp' : p = (D, { cls := .type "list", dict := none, data := .seq ([] : List Value).toArray }) := by simpa [Xc, cxComp] using hp
      subst hp'
      exact ⟨k34 _ _ hDo, hnD, hDC, nstk D (List.mem_cons_self ..), fun v z => nomatch z⟩
    hok := (I2.hok.kept k23).kept k34
    len := by show (v0 :: fvOf ixs σ).length = (x :: fns).length; simp [fvOf, S.len] }
  -- what stays true of the iterator's objects
  have fpc : ∀ {H' : Hp} {pins' : List (Addr × Obj)}, (∀ b ∈ fp, H' b = none) → (∀ p ∈ pins', p.1 = D) → ∀ b ∈ fp, FpOk Xc pins' H' b := fun {H' pins'} hn hp b hb =>
    ⟨hn b hb, Nat.ne_of_lt (Nat.lt_trans (hfpLt b hb) hDltC), nstk b (List.mem_cons_of_mem _ hb), .inl (List.mem_cons_of_mem _ hb), fun y c q => cne y c q b (List.mem_cons_of_mem _ hb), fun p q => by
      have q' : p ∈ pins' := by simpa [Xc, cxComp] using q
      rw [hp p q']
      exact Nat.ne_of_gt (hfpLt b hb)⟩
  have loop : codeAny (model X.prog X.w) X.A (.compLoop (.ListComp elt [⟨.Name x px, iter, [cnd], 0⟩] scope pos) 0 (.ref it) (.ref D) (compEnvC scope cl C X.env))
      (compPost (model X.prog X.w) X.A X.xe (some (assign (.Name y py) X.env)) (fun _ s' => SP X pins DD .next s') (.ref D) C) { s2 with heap := h₁, toks := s2.toks + ([] : List (Str × Value)).length } := by
    refine compLoopIf_go (fun n s' => ∃ (i : Nat) (ys : List V) (its : List Value) (nn : Nat) (v0 : Option V) (H' : Hp), Inv Xc [(D, { cls := .type "list", dict := none, data := .seq its.toArray nn })] (v0 :: fvOf ixs σ) H' s' ∧ tn i s'.heap ∧ (∀ b ∈ fp, H' b = none) ∧ Vals ys its ∧ W i n ys H') ?_ m0
      ⟨0, [], [], 0, none, H2, start none rfl, T.keep _ _ _ st2 fun b _ o q => k34 _ _ (k23 _ _ q), fun b hb => (f2 b hb).1, .nil, w0⟩
    rintro n s3 ⟨i, ys, its, nn, v0, H3, J3, tn3, fr3, vv, w3⟩
    have pinD : ∀ p ∈ ([(D, ({ cls := .type "list", dict := none, data := .seq its.toArray nn } : Obj))] : List (Addr × Obj)), p.1 = D := fun p hp => by
      have : p = (D, { cls := .type "list", dict := none, data := .seq its.toArray nn }) := by simpa using hp
      rw [this]
    rcases turn i n ys H3 w3 with ⟨stop, hlen, q⟩ | ⟨go, hlen, step⟩
    · -- the end
      refine thn (T.done Xc rfl rfl rfl hc i _ s3 _ H3 _ J3 (fpc fr3 pinD) tn3 stop) fun r s4 ⟨hr, J4⟩ => ?_
      subst hr
      obtain ⟨m, hn, _⟩ := J4.loc
      generalize hh4 : s4.heap = h''
      have hsb : Heap.SameBut C s4.heap h'' := by rw [← hh4]; exact ⟨rfl, fun _ _ => rfl⟩
      obtain ⟨gD, nD, _, _, _⟩ := J4.pin (D, { cls := .type "list", dict := none, data := .seq its.toArray nn }) (by simp [Xc, cxComp])
      have B := J4.base
      have kC : ∀ b u, b ≠ C → s4.heap.get? b = some u → h''.get? b = some u := fun b u hb q => (hsb.2 b hb).trans q
      have ne : ∀ {b o}, s2.heap.get? b = some o → b ≠ C ∧ b ≠ D := fun q => ⟨Nat.ne_of_lt (Nat.lt_trans (ltD q) hDltC), Nat.ne_of_lt (ltD q)⟩
      have nex : ∀ {b o}, s2.heap.get? b = some o → b ∉ fp → b ∉ D :: fp := fun q hx z => (List.mem_cons.mp z).elim (ne q).2 hx
      have uu : Un (frs X.stack) fp H2 (upd H3 D (.lst ys)) s2.heap h'' := {
        keep := fun b o q n hb hx => kC b o (ne q).1 (B.keep b o (k23 b o q) n hb (nex q hx))
        slot := fun b o q n hb hx => by
          obtain ⟨sl, e⟩ := B.slot b o (k23 b o q) n hb (nex q hx)
          exact ⟨sl, kC b _ (ne q).1 e⟩
        free := fun b o q n hx => by rw [upd_ne (ne q).2]; exact B.free b o (k23 b o q) n (nex q hx)
        there := fun b o q hx => by
          obtain ⟨o', e⟩ := B.there b o (k23 b o q) (nex q hx)
          exact ⟨o', kC b _ (ne q).1 e⟩
        tups := fun b xs q => by rw [upd_ne (ne_of_none q hnD)]; exact B.tups b xs q
        frzs := fun b o xs q => by rw [upd_ne (ne_of_none q hnD)]; exact B.frzs b o xs q
        tbls := fun b ps q => by
          obtain ⟨more, e⟩ := B.tbls b ps q
          exact ⟨more, by rw [upd_ne (ne_of_none q hnD)]; exact e⟩ }
      have hok : HOk X.prog X.w (upd H3 D (.lst ys)) h'' := fun b u e => by
        by_cases hb : b = D
        · subst hb
          rw [upd_same] at e
          cases e
          exact ⟨hlen, its, nn, vv, kC _ _ hDC gD⟩
        · rw [upd_ne hb] at e
          refine (J4.hok b u e).stay (fun c v hc q => kC c v ?_ q) (fun c q => by rw [upd_ne (ne_of_none q nD)]; exact q) fun c xs q => by rw [upd_ne (ne_of_none q nD)]; exact q
          have fC : H3 C = none := J4.free
          rcases hc with rfl | hc
          · exact ne_of_none e fC
          · exact ne_of_none hc fC
      have I5 : Inv X pins σ (upd H3 D (.lst ys)) s4 := I2.call' (s' := s4) J4.os (by rw [hh4]; exact uu) (by rw [hh4]; exact hok) J4.bare (fun b hb => ⟨(f2 b hb).2.2.2.1, (f2 b hb).2.1, (f2 b hb).2.2.2.2.1, (f2 b hb).2.2.2.2.2⟩)
      show wpAny _ X.A (assign (.Name y py) X.env (.ref D)) _ _ _
      have cL : X.env.locals ≠ C := fun z => by
        have h1 := I2.lt
        rw [hD, z] at h1
        exact absurd (Nat.lt_trans h1 hDltC) (Nat.lt_irrefl _)
      have cC : ∀ z c, X.env.cells.lookup z = some c → c ≠ C := fun z c hz e => by
        obtain ⟨v, hv⟩ := I2.cell z c hz
        have h1 := hv.lt
        rw [hD, e] at h1
        exact absurd (Nat.lt_trans h1 hDltC) (Nat.lt_irrefl _)
      have hCn : upd H3 D (.lst ys) C = none := by
        rw [upd_ne (Ne.symm hDC)]
        exact J4.free
      refine wpAny_assign_Name (store_ok2 I5 hN hiy hy (v := .ref D) rfl (fun s5 I6 hsame => ?_) hfy)
      obtain ⟨a5, sb5, ha5⟩ := hsame
      have neC : C ≠ a5 := by
        rcases ha5 with e | e
        · rw [e]; exact Ne.symm cL
        · exact Ne.symm (cC y a5 e)
      refine ⟨m, hn.sameBut sb5 neC, fun h6 sb6 => ?_⟩
      refine ⟨_, _, I6.turned (t' := s5.toks) (it := C) (fun b o hb e => (sb6.2 b hb).trans e) hCn (Ne.symm cL) (.inr (by
        have := I2.sz
        rw [hD] at this
        exact Nat.le_trans this (Nat.le_of_lt hDltC))) cC (fun p hp z => ?_), q D nD⟩
      have hlt := Heap.lt_size (I2.pin p hp).1
      rw [hD, z] at hlt
      exact absurd (Nat.lt_trans hlt hDltC) (Nat.lt_irrefl _)
    · -- a turn
      refine thn (T.item Xc rfl rfl rfl hc i _ s3 _ H3 _ J3 (fpc fr3 pinD) tn3 go) fun r s4 ⟨u, hr, h4⟩ => ?_
      subst hr
      refine thn h4 fun _ s5 ⟨xv, H5, J5, r5, y5, tn5, fr5⟩ => ?_
      have J5' := J5.pinned (fpc fr5 pinD) (T.obj _ _ tn5)
      have hg : PG Xc (.Name x px) (gName 0) := pg_name (X := Xc) (i := 0) S.nd rfl (.inl (relabel_own S.own)) (.inr (relabel_own S.own))
      refine thn (hg _ s5 _ H5 xv u (fun σ' H' => σ' = some xv :: fvOf ixs σ ∧ H' = H5) J5' r5 ⟨rfl, rfl⟩) fun _ s6 ⟨σ6, H6, J6, e6, e6'⟩ => ?_
      subst e6 e6'
      refine thn (ht C { s2 with heap := hp3 } H2 (D :: fp) _ s6 _ H6 _ J6 (step xv H6 y5)) fun bt s6b ⟨H6b, J6b, q6⟩ => ?_
      cases bt with
      | true =>
       refine thn (he C { s2 with heap := hp3 } H2 (D :: fp) _ s6b _ H6b _ J6b q6) fun yv s7 ⟨y, H7, J7, r7, m', hm', w7⟩ => ?_
       obtain ⟨gD, nD, _, _, _⟩ := J7.pin (D, { cls := .type "list", dict := none, data := .seq its.toArray nn }) (by simp [Xc, cxComp])
       have tn7 : tn (i + 1) s7.heap := T.keep _ _ _ tn5 fun b hb o e => (J7.pin (b, o) (List.mem_append_right _ (List.mem_append_right _ (mem_pinsAt hb e)))).1
       have fr7 : ∀ b ∈ fp, H7 b = none := fun b hb => by
         obtain ⟨o, e, d⟩ := T.obj _ _ tn5 b hb
         exact (J7.pin (b, o) (List.mem_append_right _ (List.mem_append_right _ (mem_pinsAt hb e)))).2.1
       have J7' : Inv Xc [] (some xv :: fvOf ixs σ) H7 s7 := J7.pins_of fun p hp => nomatch hp
       refine wpAny_list_append_plain (hsz := by rw [List.size_toArray, ← vv.length]; omega) ⟨nn, gD⟩ fun h8 pl8 sb8 => ?_
       obtain ⟨n8, g8⟩ := pl8
       have J8 : Inv Xc [] (some xv :: fvOf ixs σ) H7 { s7 with heap := h8 } := J7'.turned (t' := s7.toks) (it := D) (fun b o hb e => (sb8.2 b hb).trans e) nD (hDC) (.inl (List.mem_cons_self ..))
         (fun y c q => cne y c q D (List.mem_cons_self ..)) (fun p hp => by simp [Xc, cxComp] at hp)
       refine ⟨m', hm', i + 1, ys ++ [y], its ++ [yv], n8, some xv, H7, J8.pins_of fun p hp => ?_, ?_, fr7, vv.append (.cons r7 .nil), w7⟩
       · have : p = (D, { cls := .type "list", dict := none, data := .seq (its ++ [yv]).toArray n8 }) := by simpa using hp
         subst this
         refine ⟨?_, nD, hDC, nstk D (List.mem_cons_self ..), fun v z => nomatch z⟩
         have : its.toArray.push yv = (its ++ [yv]).toArray := by simp
         rw [this] at g8
         exact g8
       · exact T.keep _ _ _ tn7 fun b hb o e => (sb8.2 b (Nat.ne_of_lt (hfpLt b hb))).trans e
      | false =>
       obtain ⟨m', hm', w7⟩ := q6
       obtain ⟨gD, nD, _, _, _⟩ := J6b.pin (D, { cls := .type "list", dict := none, data := .seq its.toArray nn }) (by simp [Xc, cxComp])
       have tn7 : tn (i + 1) s6b.heap := T.keep _ _ _ tn5 fun b hb o e => (J6b.pin (b, o) (List.mem_append_right _ (List.mem_append_right _ (mem_pinsAt hb e)))).1
       have fr7 : ∀ b ∈ fp, H6b b = none := fun b hb => by
         obtain ⟨o, e, d⟩ := T.obj _ _ tn5 b hb
         exact (J6b.pin (b, o) (List.mem_append_right _ (List.mem_append_right _ (mem_pinsAt hb e)))).2.1
       refine ⟨m', hm', i + 1, ys, its, nn, some xv, H6b, J6b.pins_of fun p hp => ?_, tn7, fr7, vv, w7⟩
       have : p = (D, { cls := .type "list", dict := none, data := .seq its.toArray nn }) := by simpa using hp
       subst this
       exact ⟨gD, nD, hDC, nstk D (List.mem_cons_self ..), fun v z => nomatch z⟩
  exact codeAny_compStart_list loop (T.self _ 0 _ _ _ (T.keep _ _ _ st2 fun b _ o q => k34 _ _ (k23 _ _ q)) loop)
end
end L2
set_option Elab.async false
set_option linter.all false
set_option maxRecDepth 100000
set_option maxHeartbeats 4000000
namespace L2
open PySem PySem.Spec PyProof.Rows
section
variable {X : Cx}
def rEqLI : R2 := fun x y H Q => ∃ a b ns ms, x = .ref a ∧ y = .ref b ∧ H a = some (.lst (intV ns)) ∧ H b = some (.lst (intV ms)) ∧ Q (.bl (decide (ns = ms))) H
theorem op_eqLI (hu : X.A.units < cLine) : OpR X (compareOp .Eq) rEqLI := by
  intro pins s σ H x y v u Q I rx ry h
  obtain ⟨a, b, ns, ms, rfl, rfl, ha, hb, q⟩ := h
  cases rx
  cases ry
  obtain ⟨its, r1, p1, _⟩ := I.list (SqL.of ha)
  obtain ⟨its2, r2, p2, _⟩ := I.list (SqL.of hb)
  have l1 := r1.length
  have l2 := r2.length
  rw [ints_len] at l1 l2
  by_cases hl : ns.length = ms.length
  · refine SeqAt.eq_listAt (e := fun j => decide (ns[j]? = ms[j]?)) p1.isList p2.isList (by rw [List.size_toArray, List.size_toArray]; omega) hu (fun j h1 h2 => eqItems r1 r2 j h1 h2) ⟨.bl (decide (ns = ms)), H, I, ?_, q⟩
    show _ = Value.bool (decide (ns = ms))
    congr 1
    rw [← all_eq, List.size_toArray, ← l1]
    simp [hl]
  · have e : decide (ns = ms) = false := decide_eq_false (fun z => hl (by rw [z]))
    rw [e] at q
    refine SeqAt.eq_list_lengthsAt p1.isList p2.isList ?_ hu ⟨.bl false, H, I, rfl, q⟩
    rw [List.size_toArray, List.size_toArray]
    simp
    omega
end
end L2
set_option Elab.async false
set_option linter.all false
set_option maxRecDepth 100000
set_option maxHeartbeats 4000000
namespace L2
open PySem PySem.Spec PyProof.Rows
def rng (lo : Int) (n : Nat) : List Int := (List.range n).map fun i : Nat => lo + (i : Int)
theorem rng_len (lo : Int) (n : Nat) : (rng lo n).length = n := by unfold rng; rw [List.length_map, List.length_range]
theorem rng_at {lo : Int} {n i : Nat} (h : i < n) : (rng lo n)[i]? = some (lo + (i : Int)) := by
  unfold rng
  rw [List.getElem?_map, List.getElem?_range h]
  rfl
theorem vals_get : ∀ (zs : List Int) (us : List Value), us.length = zs.length → (∀ (i : Nat) (z : Int) (u : Value), zs[i]? = some z → us[i]? = some u → ∃ t, u = .int z t) → Vals (intV zs) us
  | [], [], _, _ => .nil
  | z :: zs, u :: us, hl, h => .cons (h 0 z u rfl rfl) (vals_get zs us (by simpa using hl) fun i z u h1 h2 => h (i + 1) z u h1 h2)
  | [], _ :: _, hl, _ => by simp at hl
  | _ :: _, [], hl, _ => by simp at hl
theorem items_vals {lo : Int} {n : Nat} {acc : Array Value} (h : ItemsOf (fun i v => ∃ t, v = Value.int (lo + ↑i * 1) t) acc n) : Vals (intV (rng lo n)) acc.toList := by
  refine vals_get _ _ ?_ fun i z u h1 h2 => ?_
  · rw [rng_len, Array.length_toList]
    exact h.1
  · have hi : i < n := by
      have := (List.getElem?_eq_some_iff.mp h1).1
      rw [rng_len] at this
      exact this
    rw [rng_at hi] at h1
    obtain ⟨t, e⟩ := h.2 i u (by rw [← Array.getElem?_toList]; exact h2)
    exact ⟨t, by rw [e, ← Option.some.inj h1, Int.mul_one]⟩
section
variable {X : Cx} {a b : Expr} {ta : TA} {p p2 pos pos2 : Pos}
def tLR1 (ta : TA) : TE := fun σ H Q => ta σ H fun vs H1 => ∃ j : Nat, vs = [.int j] ∧ j ≤ 10000 ∧ ∀ l, H1 l = none → Q (.ref l) (upd H1 l (.lst (intV (rng 0 j))))
theorem list_range {pins : List (Addr × Obj)} {σ : St} {H : Hp} {s : Shared} {Q : VK} {lo hi : Int} {t u v : Tok} {tk : Nat} (hc : X.calm = true) (I : Inv X pins σ H s) (h1 : 0 ≤ lo) (h2 : lo ≤ 10000) (h3 : 0 ≤ hi) (h4 : hi ≤ 10000)
    (q : ∀ l, H l = none → Q (.ref l) (upd H l (.lst (intV (rng lo (hi - lo).toNat))))) : wpAny (model X.prog X.w) X.A (call (.type "list") [.ref s.heap.objs.size]) (EP X pins σ Q) X.xe { s with heap := s.heap.push { cls := .type "range", data := .fields #[.int lo t, .int hi u, .int 1 v] }, toks := tk } := by
  have I1 : Inv X pins σ H { s with heap := s.heap.push { cls := .type "range", data := .fields #[.int lo t, .int hi u, .int 1 v] }, toks := tk } := I.kept fun b o e => Heap.get?_push_of_some _ e
  have hsz : Builtin.Range.rangeSize lo hi 1 = (((hi - lo).toNat : Nat) : Int) := by rw [rangeSize_one]; split <;> omega
  refine call_list_range (n := (hi - lo).toNat) (I.ok.hd hc) (IsRange.new ..) (small_one (by omega) (by omega) (by omega) (by omega)) hsz (by omega) fun h' tk' acc' c' kp hg hit => ?_
  refine ⟨.ref _, _, I1.laid (t' := tk') (o := .lst (intV (rng lo (hi - lo).toNat))) kp (Nat.le_refl _) ⟨?_, acc'.toList, c', items_vals hit, ?_⟩, rfl, q _ (I1.hok.fresh (Nat.le_refl _))⟩
  · rw [ints_len, rng_len]
    exact Nat.le_trans (show (hi - lo).toNat ≤ 10000 by omega) (by decide)
  · rw [Array.toArray_toList]
    exact hg
theorem pe_listRange1 (hc : X.calm = true) (hgl : Gl X "list") (hml : X.mg "list" = none) (hg : Gl X "range") (hm : X.mg "range" = none) (ha : PA X [a] ta) (hs : starEach [a] X.env = [(false, eval a X.env)] := by rfl)
    (hs2 : starEach [.Call (.Name "range" p) [a] [] pos] X.env = [(false, eval (.Call (.Name "range" p) [a] [] pos) X.env)] := by rfl) : PE X (.Call (.Name "list" p2) [.Call (.Name "range" p) [a] [] pos] [] pos2) (tLR1 ta) := by
  intro pins s σ H Q I h
  refine wpAny_Call_Name_kw (ld_blt I hgl hml boot_list ?_)
  refine PyProof.Rows.callWith_type1 ?_ hs2 rfl
  rw [hs2]
  show wpAny _ _ (spliced ((false, eval (.Call (.Name "range" p) [a] [] pos) X.env) :: backTo pos2 [])) _ _ s
  refine Calls.spliced_cons ?_
  refine Call_ (ld_blt I hg hm boot_range (PyProof.Rows.callWith_type1 (thn (ha pos pins s σ H _ I h) fun us s1 ⟨vs, H1, I1, r1, q1⟩ => ?_) hs rfl))
  obtain ⟨j, e, hj, q⟩ := q1
  subst e
  cases r1 with
  | cons r rr =>
    cases rr
    obtain ⟨t, rfl⟩ := r
    refine call_range_1 (Calls.spliced_nil ?_)
    exact list_range hc I1 (by omega) (by omega) (by omega) (by omega) (by simpa using q)
end
end L2
set_option Elab.async false
set_option linter.all false
set_option maxRecDepth 100000
set_option maxHeartbeats 4000000
namespace L2
open PySem PySem.Spec PyProof.Rows
def RowsAt (H : Hp) (rs : List Addr) (rows : List (List Int)) : Prop := rs.length = rows.length ∧ ∀ (i : Nat) (r : Addr) (ns : List Int), rs[i]? = some r → rows[i]? = some ns → H r = some (.lst (intV ns))
def TabAt (H : Hp) (a : Addr) (rows : List (List Int)) : Prop := ∃ rs : List Addr, H a = some (.lst (rs.map V.ref)) ∧ RowsAt H rs rows
theorem RowsAt.same {H H' : Hp} {rs : List Addr} {rows : List (List Int)} (h : RowsAt H rs rows) (s : Same H H') : RowsAt H' rs rows := ⟨h.1, fun i r ns h1 h2 => s _ _ (h.2 i r ns h1 h2)⟩
theorem TabAt.same {H H' : Hp} {a : Addr} {rows : List (List Int)} (h : TabAt H a rows) (s : Same H H') : TabAt H' a rows := by
  obtain ⟨rs, h1, h2⟩ := h
  exact ⟨rs, s _ _ h1, h2.same s⟩
theorem vals_refs {rs : List Addr} : ∀ {us : List Value}, Vals (rs.map V.ref) us → us = rs.map Value.ref := by
  induction rs with
  | nil => intro us r; cases r; rfl
  | cons c rs ih =>
    intro us r
    cases r with
    | cons r0 r1 => cases r0; rw [ih r1]; rfl
theorem all_eqG {α : Type} [DecidableEq α] {ns ms : List α} (h : ns.length = ms.length) : (List.range ns.length).all (fun j => decide (ns[j]? = ms[j]?)) = decide (ns = ms) := by
  rw [Bool.eq_iff_iff, List.all_eq_true, decide_eq_true_iff]
  constructor
  · intro h1
    refine List.ext_getElem? fun i => ?_
    by_cases hi : i < ns.length
    · exact of_decide_eq_true (h1 i (List.mem_range.mpr hi))
    · rw [List.getElem?_eq_none (by omega), List.getElem?_eq_none (by omega)]
  · rintro rfl j _
    exact decide_eq_true rfl
section
variable {X : Cx} {pins : List (Addr × Obj)} {σ : St} {H : Hp} {s : Shared} {A : Around}
theorem rc_ints (I : Inv X pins σ H s) {r q : Addr} {ns ms : List Int} (hr : H r = some (.lst (intV ns))) (hq : H q = some (.lst (intV ms))) (hu : A.units < cLine) : SeqAt.RcAt A s (.ref r) (.ref q) (decide (ns = ms)) := by
  obtain ⟨its, r1, p1, _⟩ := I.list (SqL.of hr)
  obtain ⟨its2, r2, p2, _⟩ := I.list (SqL.of hq)
  have l1 := r1.length
  have l2 := r2.length
  rw [ints_len] at l1 l2
  by_cases hl : ns.length = ms.length
  · have := SeqAt.RcAt.lists (A := A) (e := fun j => decide (ns[j]? = ms[j]?)) p1.isList p2.isList (by rw [List.size_toArray, List.size_toArray]; omega) hu (fun j h1 h2 => eqItems r1 r2 j h1 h2)
    rw [List.size_toArray, ← l1, all_eqG hl] at this
    exact this
  · have e : decide (ns = ms) = false := decide_eq_false (fun z => hl (by rw [z]))
    rw [e]
    refine SeqAt.RcAt.lists_lengths p1.isList p2.isList ?_ hu
    rw [List.size_toArray, List.size_toArray]
    simp
    omega
theorem eq_ints (I : Inv X pins σ H s) {r q : Addr} {ns ms : List Int} (hr : H r = some (.lst (intV ns))) (hq : H q = some (.lst (intV ms))) (hu : A.units < cLine) : SeqAt.EqAt A s (.ref r) (.ref q) (decide (ns = ms)) := by
  by_cases e : r = q
  · subst e
    have : ns = ms := by
      rw [hr] at hq
      injection hq with hq
      injection hq with hq
      unfold intV at hq
      exact (List.map_inj_right (fun a b z => V.int.inj z)).mp hq
    rw [decide_eq_true this]
    exact SeqAt.EqAt.same _
  · exact SeqAt.EqAt.of_refs e (rc_ints I hr hq hu)
theorem rows_items (I : Inv X pins σ H s) {rs qs : List Addr} {ns ms : List (List Int)} (hr : RowsAt H rs ns) (hq : RowsAt H qs ms) (hu : A.units < cLine) (j : Nat) (h1 : j < (rs.map Value.ref).toArray.size) (h2 : j < (qs.map Value.ref).toArray.size) :
    SeqAt.EqAt A s (rs.map Value.ref).toArray[j] (qs.map Value.ref).toArray[j] (decide (ns[j]? = ms[j]?)) := by
  have g1 : j < rs.length := by simpa using h1
  have g2 : j < qs.length := by simpa using h2
  have k1 : j < ns.length := by rw [← hr.1]; exact g1
  have k2 : j < ms.length := by rw [← hq.1]; exact g2
  have e1 : (rs.map Value.ref).toArray[j] = .ref rs[j] := by simp
  have e2 : (qs.map Value.ref).toArray[j] = .ref qs[j] := by simp
  rw [e1, e2]
  have a1 := hr.2 j rs[j] ns[j] (List.getElem?_eq_getElem g1) (List.getElem?_eq_getElem k1)
  have a2 := hq.2 j qs[j] ms[j] (List.getElem?_eq_getElem g2) (List.getElem?_eq_getElem k2)
  have := eq_ints (A := A) I a1 a2 hu
  rw [List.getElem?_eq_getElem k1, List.getElem?_eq_getElem k2]
  have ed : decide (some ns[j] = some ms[j]) = decide (ns[j] = ms[j]) := by
    rw [Bool.eq_iff_iff, decide_eq_true_iff, decide_eq_true_iff]
    exact ⟨Option.some.inj, congrArg some⟩
  rw [ed]
  exact this
end
section
variable {X : Cx}
def rEqLL : R2 := fun x y H Q => ∃ a b ns ms, x = .ref a ∧ y = .ref b ∧ TabAt H a ns ∧ TabAt H b ms ∧ Q (.bl (decide (ns = ms))) H
theorem op_eqLL (hu : X.A.units + 1 < cLine) : OpR X (compareOp .Eq) rEqLL := by
  intro pins s σ H x y v u Q I rx ry h
  obtain ⟨a, b, ns, ms, rfl, rfl, ⟨rs, ha, hra⟩, ⟨qs, hb, hrb⟩, q⟩ := h
  cases rx
  cases ry
  obtain ⟨its, r1, p1, _⟩ := I.list (SqL.of ha)
  obtain ⟨its2, r2, p2, _⟩ := I.list (SqL.of hb)
  have e1 := vals_refs r1
  have e2 := vals_refs r2
  subst e1 e2
  by_cases hl : ns.length = ms.length
  · refine SeqAt.eq_listAt (e := fun j => decide (ns[j]? = ms[j]?)) p1.isList p2.isList (by simp [hra.1, hrb.1, hl]) (by omega) (fun j h1 h2 => rows_items I hra hrb hu j h1 h2) ⟨.bl (decide (ns = ms)), H, I, ?_, q⟩
    show _ = Value.bool (decide (ns = ms))
    rw [List.size_toArray, List.length_map, hra.1, all_eqG hl]
  · have e : decide (ns = ms) = false := decide_eq_false (fun z => hl (by rw [z]))
    rw [e] at q
    refine SeqAt.eq_list_lengthsAt p1.isList p2.isList ?_ (by omega) ⟨.bl false, H, I, rfl, q⟩
    simp [hra.1, hrb.1, hl]
def rNeLL : R2 := fun x y H Q => ∃ a b ns ms, x = .ref a ∧ y = .ref b ∧ TabAt H a ns ∧ TabAt H b ms ∧ Q (.bl (!decide (ns = ms))) H
theorem op_neLL (hu : X.A.units + 1 < cLine) : OpR X (compareOp .NotEq) rNeLL := by
  intro pins s σ H x y v u Q I rx ry h
  obtain ⟨a, b, ns, ms, rfl, rfl, ⟨rs, ha, hra⟩, ⟨qs, hb, hrb⟩, q⟩ := h
  cases rx
  cases ry
  obtain ⟨its, r1, p1, _⟩ := I.list (SqL.of ha)
  obtain ⟨its2, r2, p2, _⟩ := I.list (SqL.of hb)
  have e1 := vals_refs r1
  have e2 := vals_refs r2
  subst e1 e2
  by_cases hl : ns.length = ms.length
  · refine SeqAt.RcNeAt.lists (e := fun j => decide (ns[j]? = ms[j]?)) p1.isList p2.isList (by simp [hra.1, hrb.1, hl]) (by omega) (fun j h1 h2 => rows_items I hra hrb hu j h1 h2) X.prog X.w X.xe _ ⟨.bl (!decide (ns = ms)), H, I, ?_, q⟩
    show _ = Value.bool (!decide (ns = ms))
    rw [List.size_toArray, List.length_map, hra.1, all_eqG hl]
  · have e : decide (ns = ms) = false := decide_eq_false (fun z => hl (by rw [z]))
    rw [e] at q
    refine SeqAt.RcNeAt.lists_lengths p1.isList p2.isList ?_ (by omega) X.prog X.w X.xe _ ⟨.bl true, H, I, rfl, q⟩
    simp [hra.1, hrb.1, hl]
def rNeLI : R2 := fun x y H Q => ∃ a b ns ms, x = .ref a ∧ y = .ref b ∧ H a = some (.lst (intV ns)) ∧ H b = some (.lst (intV ms)) ∧ Q (.bl (!decide (ns = ms))) H
theorem op_neLI (hu : X.A.units < cLine) : OpR X (compareOp .NotEq) rNeLI := by
  intro pins s σ H x y v u Q I rx ry h
  obtain ⟨a, b, ns, ms, rfl, rfl, ha, hb, q⟩ := h
  cases rx
  cases ry
  obtain ⟨its, r1, p1, _⟩ := I.list (SqL.of ha)
  obtain ⟨its2, r2, p2, _⟩ := I.list (SqL.of hb)
  have l1 := r1.length
  have l2 := r2.length
  rw [ints_len] at l1 l2
  by_cases hl : ns.length = ms.length
  · refine SeqAt.RcNeAt.lists (e := fun j => decide (ns[j]? = ms[j]?)) p1.isList p2.isList (by rw [List.size_toArray, List.size_toArray]; omega) hu (fun j h1 h2 => eqItems r1 r2 j h1 h2) X.prog X.w X.xe _ ⟨.bl (!decide (ns = ms)), H, I, ?_, q⟩
    show _ = Value.bool (!decide (ns = ms))
    rw [List.size_toArray, ← l1, all_eqG hl]
  · have e : decide (ns = ms) = false := decide_eq_false (fun z => hl (by rw [z]))
    rw [e] at q
    refine SeqAt.RcNeAt.lists_lengths p1.isList p2.isList ?_ hu X.prog X.w X.xe _ ⟨.bl true, H, I, rfl, q⟩
    rw [List.size_toArray, List.size_toArray]
    simp
    omega
theorem ix_listK {K : PySem.W.Frag} (h : X.K = K) : IxR X (rIxL K) := by subst h; exact ix_list
theorem ix_tupK {K : PySem.W.Frag} (h : X.K = K) : IxR X (rIxT K) := by subst h; exact ix_tup
theorem call_len_seqK {K : PySem.W.Frag} (h : X.K = K) : CallR X (.builtin "len") (fun xs H Q => ∃ p ys, xs = [.ref p] ∧ (SqL K H p ys ∨ SqT K H p ys) ∧ Q (.int ys.length) H) := by subst h; exact call_len_seq
theorem compScope2 {x y z : Str} {scope : Scope} {c d : Addr} {i j : Nat} (hclos : closureFor scope X.env = pure [(y, c), (z, d)]) (hy : X.env.cells.lookup y = some c) (hz : X.env.cells.lookup z = some d) (hc : ∀ q ∈ scope.names, q.2 ≠ .cell) (hk : scope.kind = .function)
    (hn : ∀ q ∈ scope.names, q.2 = .local → scope.names.lookup q.1 = some .local) (hx : scope.names.lookup x = some .local) (hfree : ∀ q ∈ scope.names, q.2 = .free → q.1 = y ∨ q.1 = z) (hxy : x ≠ y ∧ x ≠ z ∧ y ≠ z) (hi : X.N[i]? = some y) (hj : X.N[j]? = some z)
    (hky : X.env.kindOf y = some .cell) (hkz : X.env.kindOf z = some .cell) (hkf : X.env.scope.kind = .function) (hys : scope.names.lookup y = some .free) (hzs : scope.names.lookup z = some .free) : CompScope X x [y, z] [i, j] scope [(y, c), (z, d)] where
  clos := hclos
  sub := fun w e h => by
    by_cases e1 : w = y
    · subst e1
      have : c = e := by simpa [List.lookup_cons] using h
      rw [← this]
      exact hy
    · have hb : (w == y) = false := beq_eq_false_iff_ne.mpr e1
      by_cases e2 : w = z
      · subst e2
        have : d = e := by simpa [List.lookup_cons, hb] using h
        rw [← this]
        exact hz
      · have hb2 : (w == z) = false := beq_eq_false_iff_ne.mpr e2
        simp [List.lookup_cons, hb, hb2] at h
  cell := hc
  kind := hk
  names := hn
  own := hx
  has := fun w h => by
    have e : w = y ∨ w = z := by
      rcases h with h | h
      · exact hfree _ (relabel_mem h (.inl rfl) hc) rfl
      · exact hfree _ (relabel_mem h (.inr rfl) hc) rfl
    rcases e with rfl | rfl
    · exact ⟨c, by simp [List.lookup_cons]⟩
    · have hb : (w == y) = false := beq_eq_false_iff_ne.mpr (fun q => hxy.2.2 q.symm)
      exact ⟨d, by simp [List.lookup_cons, hb]⟩
  nd := by simp [hxy.1, hxy.2.1, hxy.2.2]
  len := rfl
  at_ := fun k w h => by
    match k, h with
    | 0, h =>
      have e : y = w := by simpa using h
      subst e
      exact ⟨i, rfl, hi, .inl hky, c, by simp [List.lookup_cons], .inl (lookup_relabel_free hkf hky hys)⟩
    | 1, h =>
      have e : z = w := by simpa using h
      subst e
      have hb : (z == y) = false := beq_eq_false_iff_ne.mpr (fun q => hxy.2.2 q.symm)
      exact ⟨j, rfl, hj, .inl hkz, d, by simp [List.lookup_cons, hb], .inl (lookup_relabel_free hkf hkz hzs)⟩
    | k + 2, h => simp at h
end
end L2
set_option Elab.async false
set_option linter.all false
set_option maxRecDepth 100000
set_option maxHeartbeats 4000000
namespace L2
open PySem PySem.Spec PyProof.Rows
def TupsAt (H : Hp) (ps : List Addr) (ws : List (List Int)) : Prop := ps.length = ws.length ∧ ∀ (i : Nat) (p : Addr) (w : List Int), ps[i]? = some p → ws[i]? = some w → H p = some (.tup (intV w))
def WordsAt (H : Hp) (a : Addr) (ws : List (List Int)) : Prop := ∃ ps : List Addr, H a = some (.lst (ps.map V.ref)) ∧ TupsAt H ps ws
section
variable {X : Cx} {pins : List (Addr × Obj)} {σ : St} {H : Hp} {s : Shared} {A : Around}
end
section
variable {X : Cx}
end
end L2
set_option Elab.async false
set_option linter.all false
set_option maxRecDepth 100000
set_option maxHeartbeats 4000000
namespace L2
open PySem PySem.Spec PyProof.Rows
theorem vals_intsAre : ∀ {ns : List Int} {us : List Value}, Vals (intV ns) us → IntsAre us ns
  | [], _, h => by cases h; exact .nil
  | n :: ns, _, h => by
    cases h with
    | cons h0 h1 =>
      obtain ⟨t, rfl⟩ := h0
      exact .cons n t (vals_intsAre h1)
theorem any_mem (ns : List Int) (k : Int) : (ns.any fun x => x == k) = decide (k ∈ ns) := by
  rw [Bool.eq_iff_iff, List.any_eq_true, decide_eq_true_iff]
  constructor
  · rintro ⟨x, hx, e⟩
    rw [← eq_of_beq e]
    exact hx
  · intro h
    exact ⟨k, h, beq_self_eq_true k⟩
section
variable {X : Cx}
def rNotInLI : R2 := fun x y H Q => ∃ k a ns, x = .int k ∧ y = .ref a ∧ H a = some (.lst (intV ns)) ∧ Q (.bl (!decide (k ∈ ns))) H
theorem op_NOTIN_l : OpR X (compareOp .NotIn) rNotInLI := by
  intro pins s σ H x y v u Q I rx ry h
  obtain ⟨k, a, ns, rfl, rfl, ha, q⟩ := h
  obtain ⟨t, rfl⟩ := rx
  cases ry
  obtain ⟨its, r, p, _⟩ := I.list (SqL.of ha)
  refine notin_list_ints p.isList (vals_intsAre r) ?_
  rw [any_mem]
  exact ⟨.bl _, H, I, rfl, q⟩
def isInt (k : Int) : Value → Bool
  | .int z _ => z == k
  | _ => false
def rIndexL : V → List V → Hp → VK → Prop := fun x vs H Q => ∃ (a : Addr) (ns : List Int) (k : Int), x = .ref a ∧ vs = [.int k] ∧ H a = some (.lst (intV ns)) ∧ k ∈ ns ∧ ∀ i : Nat, ns[i]? = some k → (∀ j, j < i → ns[j]? ≠ some k) → Q (.int i) H
theorem first_ofI {l : List Int} {c : Int} (h : c ∈ l) : ∃ i : Nat, l[i]? = some c ∧ ∀ j, j < i → l[j]? ≠ some c := by
  induction l with
  | nil => cases h
  | cons a l ih =>
    by_cases e : a = c
    · exact ⟨0, by rw [e]; rfl, fun j hj => by omega⟩
    · obtain ⟨i, h1, h2⟩ := ih ((List.mem_cons.mp h).resolve_left (Ne.symm e))
      refine ⟨i + 1, h1, fun j hj => ?_⟩
      cases j with
      | zero => exact fun z => e (Option.some.inj z)
      | succ j => exact h2 j (by omega)
theorem mt_list_index : MtM X "list.index" rIndexL := by
  intro pins s σ H x vs v us Q I rx rv h
  obtain ⟨a, ns, k, rfl, rfl, hH, hm, q⟩ := h
  cases rx
  obtain ⟨u, rfl, ru⟩ := rv.one
  obtain ⟨t, rfl⟩ := ru
  obtain ⟨z, its, n, r, hl, e⟩ := I.lstM hH
  rw [ints_len] at z hl
  obtain ⟨i, h1, h2⟩ := first_ofI hm
  have hi : i < ns.length := (List.getElem?_eq_some_iff.mp h1).1
  have at_ : ∀ (m : Nat) (hm : m < its.toArray.size), isInt k its.toArray[m] = decide (ns[m]? = some k) := fun m hm => by
    have hm' : m < its.length := by simpa using hm
    have hn : ns[m]? = some (ns[m]'(by omega)) := List.getElem?_eq_getElem (by omega)
    obtain ⟨w, hw, t', rfl⟩ := r.get (ints_at hn)
    have f1 : its.toArray[m] = Value.int (ns[m]'(by omega)) t' := by
      rw [List.getElem_toArray]
      exact Option.some.inj ((List.getElem?_eq_getElem hm').symm.trans hw)
    rw [f1, hn]
    show (ns[m]'(by omega) == k) = _
    rw [Bool.eq_iff_iff, beq_iff_eq, decide_eq_true_iff]
    exact ⟨fun z => by rw [z], fun z => Option.some.inj z⟩
  have hsz : (sizeLine : Nat) < 2 ^ 62 := by decide
  refine call_meets F.slot_list_index ⟨_, e, rfl⟩ F.entry_list_index (F.args_list_index_2 _ _)
    (SeqAt.list_indexAt a its.toArray n none #[] (.int k t) (isInt k) i (by rw [List.size_toArray]; omega) (by omega) (by rw [at_]; exact decide_eq_true h1) (fun m hm hlt => by rw [at_]; exact decide_eq_false (h2 m hlt))) ⟨e, fun y hy => ?_, ?_⟩
  · obtain ⟨m, hm, ey⟩ := List.mem_iff_getElem.mp (Array.mem_toList_iff.mpr hy)
    have hm' : m < its.length := by simpa using hm
    have hn : ns[m]? = some (ns[m]'(by omega)) := List.getElem?_eq_getElem (by omega)
    obtain ⟨w, hw, t', rfl⟩ := r.get (ints_at hn)
    have f1 : y = Value.int (ns[m]'(by omega)) t' := by
      rw [← ey]
      exact Option.some.inj ((List.getElem?_eq_getElem hm').symm.trans hw)
    rw [f1]
    exact SeqAt.EqAt.int_int _ t' k t
  · exact ⟨.int i, H, I.tok _, ⟨_, rfl⟩, q i h1 h2⟩
end
end L2
set_option Elab.async false
set_option linter.all false
set_option maxRecDepth 100000
set_option maxHeartbeats 4000000
namespace L2
open PySem PySem.Spec PyProof.Rows
section
variable {X : Cx} {tg : Expr}
end
end L2
set_option Elab.async false
set_option linter.all false
set_option maxRecDepth 100000
set_option maxHeartbeats 4000000
namespace L2
open PySem PySem.Spec PyProof.Rows
section
variable {X : Cx}
end
end L2
set_option Elab.async false
set_option linter.all false
set_option maxRecDepth 100000
set_option maxHeartbeats 4000000
namespace L2
open PySem PySem.Spec PyProof.Rows
section
variable {X : Cx}
end
end L2
set_option Elab.async false
set_option linter.all false
set_option maxRecDepth 100000
set_option maxHeartbeats 4000000
namespace L2
open PySem PySem.Spec PyProof.Rows
section
variable {X : Cx}
end
end L2
set_option Elab.async false
set_option linter.all false
set_option maxRecDepth 100000
set_option maxHeartbeats 4000000
namespace L2
open PySem PySem.Spec PyProof.Rows
namespace En
section
variable {prog : Program} {w : World} {A : Around} {E : Value → Shared → Prop} {s : Shared}
end
end En
end L2
set_option Elab.async false
set_option linter.all false
set_option maxRecDepth 100000
set_option maxHeartbeats 4000000
namespace L2
open PySem PySem.Spec PyProof.Rows
namespace En
open AutoSeq1 (wpAny_loadPart')
section
variable {prog : Program} {w : World} {A : Around} {E : Value → Shared → Prop} {s : Shared}
end
end En
section
variable {X : Cx}
end
end L2
set_option Elab.async false
set_option linter.all false
set_option maxRecDepth 100000
set_option maxHeartbeats 4000000
namespace L2
open PySem PySem.Spec PyProof.Rows
namespace En
open AutoSeq1 (wpAny_loadPart')
section
variable {prog : Program} {w : World} {A : Around} {E : Value → Shared → Prop} {s : Shared}
end
end En
section
variable {X : Cx}
end
end L2
set_option Elab.async false
set_option linter.all false
set_option maxRecDepth 100000
set_option maxHeartbeats 4000000
namespace L2
open PySem PySem.Spec PyProof.Rows
section
variable {X : Cx}
end
section
variable {X : Cx} {tg : Expr}
end
section
variable {X : Cx} {pins : List (Addr × Obj)} {σ : St} {H : Hp} {s : Shared} {A : Around}
theorem all_true (n : Nat) (f : Nat → Bool) (h : ∀ j, f j = true) : (List.range n).all f = true := List.all_eq_true.mpr fun j _ => h j
end
section
variable {X : Cx}
end
end L2
set_option Elab.async false
set_option linter.all false
set_option maxRecDepth 100000
set_option maxHeartbeats 4000000
namespace L2
open PySem PySem.Spec PyProof.Rows
def RawD (h : Heap) (d : Addr) (es : Array DictEntry) (ep : Nat) : Prop := ∃ o, h.get? d = some o ∧ o.ExactDict ∧ o.data = .dict es ep
namespace Dk
section
variable {prog : Program} {w : World} {A : Around} {E : Value → Shared → Prop} {s : Shared} {d : Addr} {es : Array DictEntry} {ep : Nat}
theorem typ (hm : RawD s.heap d es ep) : s.TypeIs (.ref d) "dict" := let ⟨o, ho, hc, _⟩ := hm; ⟨o, ho, hc.1⟩
theorem iter {Q : Value → Shared → Prop} (hd : (d == sysModules) = false) (hm : RawD s.heap d es ep)
    (hQ : Q (.ref s.heap.objs.size) { s with heap := s.heap.push { cls := .type "dict_keyiterator", data := .fields #[.ref d, .int 0 0, .int es.size 0, .int ep 0] } }) : wpAny (model prog w) A (pyIter (.ref d)) Q E s := by
  have hT := typ hm
  obtain ⟨o, ho, hc, hdat⟩ := hm
  refine wpAny_pyIter_slot hT F.slot_dict_iter (wpAny_call_entry F.slot_dict_iter hT F.entry_dict_iter ?_ (F.args_dict_iter_1 _))
  unfold Builtin.«dict.__iter__»
  refine wpAny_bind ?_
  unfold Builtin.Dict.dictSlotNone
  refine wpAny_bind (wpAny_notOrdered_dict hT ?_)
  show wpAny _ _ (pure (Value.ref d)) _ _ s
  refine wpAny_pure ?_
  show wpAny _ _ (Builtin.Dict.showsAll d >>= _) _ _ s
  unfold Builtin.Dict.showsAll
  rw [if_neg (by rw [hd]; exact Bool.false_ne_true)]
  refine wpAny_bind (wpAny_pure (wpAny_bind (wpAny_dictEntries ho hdat (wpAny_bind (wpAny_dictEpoch ho hdat ?_)))))
  exact wpAny_bind (wpAny_newObj_type (wpAny_pure ⟨_, rfl, "dict_keyiterator", _, ⟨_, Heap.get?_push_size _ rfl, rfl⟩, F.slot_dict_keyiterator_next.lookup, by simpa [rawInt] using hQ⟩))
theorem item {it : Addr} {i : Nat} {en : DictEntry} {Q : Option Value → Shared → Prop} (hit : s.heap.IsKeyIter it d i es.size ep) (hm : RawD s.heap d es ep) (hx : es[i]? = some en)
    (hQ : ∀ g1, g1.IsKeyIter it d (i + 1) es.size ep → Heap.SameBut it s.heap g1 → Q (some en.key) { s with heap := g1 }) : wpAny (model prog w) A (pyNext (.ref it)) Q E s := by
  obtain ⟨o, ho, hc, hd⟩ := id hit
  obtain ⟨od, hod, hcd, hdd⟩ := id hm
  unfold pyNext
  refine wpAny_bind (wpAny_attempt (wpAny_callSpecial?_slot (name := Str.ofString "__next__") hit.typeIs F.slot_dict_keyiterator_next (wpAny_call_entry F.slot_dict_keyiterator_next hit.typeIs F.entry_dict_keyiterator_next ?_ (F.args_dict_keyiterator_next_1 _))))
  refine wpAny_bind (wpAny_pure (wpAny_bind (wpAny_bind ?_)))
  first | refine wpAny_bind (wpAny_typeNameOfWhole_keyiter hit.typeIs (wpAny_pure ?_)) | refine wpAny_bind (wpAny_typeNameOf_keyiter hit.typeIs (wpAny_pure ?_))
  refine wpAny_bind (wpAny_fieldsOf ho hd ?_)
  have own : Builtin.Dict_items.ownsTuple "dict_keyiterator" = false := by decide
  simp only [own, Bool.false_eq_true, if_false]
  show wpAny _ _ (if (Value.ref d == Value.none) = true then _ else _) _ _ s
  rw [if_neg (show ¬ ((Value.ref d == Value.none) = true) from Bool.false_ne_true)]
  refine wpAny_bind (wpAny_pure (wpAny_bind (wpAny_dictEntries hod hdd ?_)))
  rw [if_neg (by simp)]
  refine wpAny_bind (wpAny_pure (wpAny_bind (wpAny_dictEpoch hod hdd ?_)))
  rw [if_neg (by simp)]
  refine wpAny_pure ?_
  simp only [show ¬ ((i : Int) < 0) from by omega, if_false, Int.toNat_natCast, hx]
  refine wpAny_bind ?_
  first | refine wpAny_bind (wpAny_typeNameOfWhole_keyiter hit.typeIs (wpAny_pure ?_)) | refine wpAny_bind (wpAny_typeNameOf_keyiter hit.typeIs (wpAny_pure ?_))
  refine wpAny_bind (wpAny_isOneOf_keyiter hit.typeIs ?_)
  show wpAny _ _ (setField (.ref it) 1 (rawInt ((i : Int) + 1)) >>= _) _ _ s
  refine wpAny_bind (wpAny_setField ho hd (by simp) ?_)
  have j1 : (s.heap.update it (Obj.mapFields (·.setIfInBounds 1 (rawInt ((i : Int) + 1))))).IsKeyIter it d (i + 1) es.size ep :=
    ⟨_, Heap.get?_update_self _ ho (Obj.isFreed_of_fields (Obj.data_mapFields hd _)), (Obj.cls_mapFields ..).trans hc, by rw [Obj.data_mapFields hd]; simp [rawInt]⟩
  refine wpAny_bind (wpAny_holding ?_)
  refine wpAny_bind (wpAny_isOneOf_keyiter (s := { s with heap := s.heap.update it (Obj.mapFields (·.setIfInBounds 1 (rawInt ((i : Int) + 1)))) }) j1.typeIs ?_)
  show wpAny _ _ (pure en.key) _ _ _
  exact wpAny_pure (wpAny_pure ⟨_, rfl, wpAny_pure (hQ _ j1 (Heap.SameBut.update ..))⟩)
theorem fin {it : Addr} {i : Nat} {Q : Option Value → Shared → Prop} (hh : A.handled = none) (hit : s.heap.IsKeyIter it d i es.size ep) (hm : RawD s.heap d es ep) (hx : es[i]? = none)
    (hQ : ∀ g1, Heap.ExtBut it s.heap g1 → Q none { s with heap := g1 }) : wpAny (model prog w) A (pyNext (.ref it)) Q E s := by
  obtain ⟨o, ho, hc, hd⟩ := id hit
  obtain ⟨od, hod, hcd, hdd⟩ := id hm
  unfold pyNext
  refine wpAny_bind (wpAny_attempt (wpAny_callSpecial?_slot (name := Str.ofString "__next__") hit.typeIs F.slot_dict_keyiterator_next (wpAny_call_entry F.slot_dict_keyiterator_next hit.typeIs F.entry_dict_keyiterator_next ?_ (F.args_dict_keyiterator_next_1 _))))
  refine wpAny_bind (wpAny_pure (wpAny_bind (wpAny_bind ?_)))
  first | refine wpAny_bind (wpAny_typeNameOfWhole_keyiter hit.typeIs (wpAny_pure ?_)) | refine wpAny_bind (wpAny_typeNameOf_keyiter hit.typeIs (wpAny_pure ?_))
  refine wpAny_bind (wpAny_fieldsOf ho hd ?_)
  have own : Builtin.Dict_items.ownsTuple "dict_keyiterator" = false := by decide
  simp only [own, Bool.false_eq_true, if_false]
  show wpAny _ _ (if (Value.ref d == Value.none) = true then _ else _) _ _ s
  rw [if_neg (show ¬ ((Value.ref d == Value.none) = true) from Bool.false_ne_true)]
  refine wpAny_bind (wpAny_pure (wpAny_bind (wpAny_dictEntries hod hdd ?_)))
  rw [if_neg (by simp)]
  refine wpAny_bind (wpAny_pure (wpAny_bind (wpAny_dictEpoch hod hdd ?_)))
  rw [if_neg (by simp)]
  refine wpAny_pure ?_
  simp only [show ¬ ((i : Int) < 0) from by omega, if_false, Int.toNat_natCast, hx]
  refine wpAny_bind ?_
  first | refine wpAny_bind (wpAny_typeNameOfWhole_keyiter hit.typeIs (wpAny_pure ?_)) | refine wpAny_bind (wpAny_typeNameOf_keyiter hit.typeIs (wpAny_pure ?_))
  show wpAny _ _ (setField (.ref it) 0 .none >>= _) _ _ s
  refine wpAny_bind (wpAny_setField ho hd (by simp) ?_)
  show wpAny _ _ (newExc (.type "StopIteration") [] >>= _) _ _ _
  refine wpAny_bind ?_
  simp only [newExc, newTuple]
  refine wpAny_bind (wpAny_newObj_type ?_ (by size_fits))
  refine wpAny_bind (m := firstArgMember _ _) (wpAny_of_eq (a := Value.none) (by first | rfl | (simp only [firstArgMember]; rfl)) ?_)
  refine wpAny_newObj_type ?_ (by size_fits)
  simp only [raiseNew]
  refine wpAny_bind (wpAny_handled ?_)
  rw [show A.in1.handled = none from hh]
  refine wpAny_bind (wpAny_pure (wpAny_throw ?_))
  refine wpAny_bind (wpAny_isInstance (T := "StopIteration") (b := true) ⟨_, Heap.get?_push_size _ rfl, rfl⟩ isSubtype_stop ?_)
  exact wpAny_pure (hQ _ (((Heap.SameBut.update ..).extBut.push _).push _))
theorem RawD.at {h h' : Heap} (x : RawD h d es ep) (e : ∀ o, h.get? d = some o → h'.get? d = some o) : RawD h' d es ep := let ⟨o, ho, r⟩ := x; ⟨o, e _ ho, r⟩
theorem walks (hh : A.handled = none) (I : Addr) (hne : d ≠ I) : Walks prog w A I [I, d] [I] es.size (fun i v => ∃ en, es[i]? = some en ∧ v = en.key) (fun i h => h.IsKeyIter I d i es.size ep ∧ RawD h d es ep) where
  sub := fun b hb => by simp at hb; simp [hb]
  frame := fun _ _ _ st hk => ⟨st.1.at fun o e => hk I (by simp) o e, RawD.at st.2 fun o e => hk d (by simp) o e⟩
  item := fun i s Q E hi st hQ => by
    refine item (en := es[i]) st.1 st.2 (by simp [hi]) fun g1 j1 b1 => ?_
    exact hQ _ g1 s.toks ⟨_, by simp [hi], rfl⟩ ⟨j1, RawD.at st.2 fun o e => b1.extBut _ _ hne e⟩ fun b o hb e => b1.extBut b o (fun h => hb (by simp [h])) e
  done := fun s Q E st hQ => fin hh st.1 st.2 (by simp) fun g1 b1 => hQ g1 s.toks fun b o hb e => b1 b o (fun h => hb (by simp [h])) e
  self := fun _ _ _ _ st hQ => wpAny_pyIter_keyiter st.1 hQ
theorem hint {Q : Bool → Shared → Prop} (hm : RawD s.heap d es ep) (h : Q false s) : wpAny (model prog w) A (Builtin.List.listLengthHint (.ref d)) Q E s := by
  unfold Builtin.List.listLengthHint
  refine wpAny_bind (wpAny_specialOf (typ hm) F.slot_dict_len.lookup ?_)
  generalize hid : ("dict.__len__" : String) = id0
  wp_delta
  rw [show splitId id0 = some ("dict", "__len__") from by subst hid; decide +kernel]
  subst hid
  refine wpAny_bind (wpAny_isInstance (T := "dict") (b := true) (typ hm) (by rw [isSubtype_type]; kernel_rfl) ?_)
  refine wpAny_ite_split (fun hab => absurd hab (by decide)) (fun _ => ?_)
  refine wpAny_ite_split (fun _ => ?_) (fun hab => absurd (by decide +kernel) hab)
  exact wpAny_bind (wpAny_typeOf (T := "dict") (typ hm) (wpAny_pure h))
theorem extend {R : Result → Shared → Prop} (hh : A.handled = none) (hd : (d == sysModules) = false) (hm : RawD s.heap d es ep) (hlen : es.size ≤ sizeLine) (S : Addr) (res : Value) (c₀ : Nat) (hS : s.heap.get? S = some { cls := .type "list", data := .seq #[] c₀ })
    (hR : ∀ g1 tk acc' c', (∀ b o, b ≠ S → s.heap.get? b = some o → g1.get? b = some o) → g1.get? S = some { cls := .type "list", dict := none, data := .seq acc' c', slots := #[] } →
      ItemsOf (fun i v => ∃ en, es[i]? = some en ∧ v = en.key) acc' es.size → R (.ok (.ret res)) { s with heap := g1, toks := tk }) :
    wpAny (model prog w) A.in1 (Builtin.List.listExtendWith (.ref S) (.ref d) res)
      (fun fin s' => match fin with | .done f => R (.ok f) s' | .again c' => c'.quiet = true ∧ codeAny (model prog w) A c' R s') (fun e s' => R (.error e) s') s := by
  have hSd : S ≠ d := fun e => by
    obtain ⟨o, ho, hc, hdat⟩ := hm
    rw [← e, hS] at ho
    rw [← Option.some.inj ho] at hdat
    cases hdat
  have hdl : d < s.heap.objs.size := by obtain ⟨o, ho, _⟩ := hm; exact Heap.lt_size ho
  have hSI : S ≠ s.heap.objs.size := Nat.ne_of_lt (Heap.lt_size hS)
  have hdI : d ≠ s.heap.objs.size := Nat.ne_of_lt hdl
  unfold Builtin.List.listExtendWith
  refine wpAny_bind (wpAny_typeOf (T := "dict") (typ hm) ?_)
  have h1 : Builtin.List.listSameRef (.ref S) (.ref d) = false := by simp [Builtin.List.listSameRef, hSd]
  have h2 : (Value.type "dict" == Value.type "list") = false := by decide
  have h3 : (Value.type "dict" == Value.type "tuple") = false := by decide
  simp only [h1, h2, h3, Bool.or_false, Bool.false_eq_true, if_false]
  refine wpAny_bind (iter hd hm ?_)
  have hm1 : RawD (s.heap.push { cls := .type "dict_keyiterator", data := .fields #[.ref d, .int 0 0, .int es.size 0, .int ep 0] }) d es ep := RawD.at hm fun o e => Heap.get?_push_of_some _ e
  refine wpAny_bind (wpAny_holding (hint (s := { s with heap := s.heap.push { cls := .type "dict_keyiterator", data := .fields #[.ref d, .int 0 0, .int es.size 0, .int ep 0] } }) hm1 ?_))
  have hS1 := Heap.get?_push_of_some { cls := .type "dict_keyiterator", data := .fields #[.ref d, .int 0 0, .int es.size 0, .int ep 0] } hS
  have hI1 : (s.heap.push { cls := .type "dict_keyiterator", data := .fields #[.ref d, .int 0 0, .int es.size 0, .int ep 0] }).IsKeyIter s.heap.objs.size d 0 es.size ep := ⟨_, Heap.get?_push_size _ rfl, rfl, rfl⟩
  have kp : ∀ b o, s.heap.get? b = some o → (s.heap.push { cls := .type "dict_keyiterator", data := .fields #[.ref d, .int 0 0, .int es.size 0, .int ep 0] }).get? b = some o := fun b o e => Heap.get?_push_of_some _ e
  generalize s.heap.push { cls := .type "dict_keyiterator", data := .fields #[.ref d, .int 0 0, .int es.size 0, .int ep 0] } = h1' at hS1 hI1 kp hm1 ⊢
  refine wpAny_ite_split (fun _ => ?_) (fun hab => absurd (by decide +kernel) hab)
  refine wpAny_bind (wpAny_rule ?_)
  refine wpAny_bind ?_
  show wpAny _ _ (updateSeq S (·.push .none) >>= fun _ => updateSeq S (·.pop)) _ _ _
  refine wpAny_bind (wpAny_updateSeq hS1 rfl ?_)
  have hS2 := Heap.get?_update_self (Obj.mapSeq (·.push Value.none)) hS1 rfl
  refine wpAny_updateSeq (hz := by seq_fits) hS2 rfl ?_
  have hS3 := Heap.get?_update_self (Obj.mapSeq (·.pop)) hS2 rfl
  have oth : ∀ b o, b ≠ S → h1'.get? b = some o → ((h1'.update S (Obj.mapSeq (·.push Value.none))).update S (Obj.mapSeq (·.pop))).get? b = some o := fun b o hb e => (Heap.get?_update_other _ _ (Ne.symm hb)).trans ((Heap.get?_update_other _ _ (Ne.symm hb)).trans e)
  have W := (walks (prog := prog) (w := w) (A := A.in1) (d := d) (es := es) (ep := ep) hh s.heap.objs.size hdI).toS
  have hSf : S ∉ [s.heap.objs.size, d] := fun hmem => by
    rcases List.mem_cons.mp hmem with e | hmem
    · exact hSI e
    · exact hSd (List.mem_singleton.mp hmem)
  refine wpAny_pure ⟨plainId_quiet F.plain_extend_loop _, ?_⟩
  refine codeAny_extend_loopS W hlen S hSf res es.size 0 _ #[] _ rfl (Nat.zero_le _) ⟨hI1.at fun o e => oth _ o (Ne.symm hSI) e, RawD.at hm1 fun o e => oth _ o (Ne.symm hSd) e⟩ hS3 (ItemsOf.nil _) fun s' acc' c' hmv hS' hacc => ?_
  rw [Moved.eq_with hmv]
  refine hR s'.heap s'.toks acc' c' (fun b o hb e => hmv.heap b o (fun hmem => ?_) (oth b o hb (kp b o e))) hS' hacc
  rcases List.mem_cons.mp hmem with e' | hmem
  · exact hb e'
  · exact absurd (Heap.lt_size e) (by rw [List.mem_singleton.mp hmem]; exact Nat.lt_irrefl _)
theorem init {R : Result → Shared → Prop} (hh : A.handled = none) (hd : (d == sysModules) = false) (hm : RawD s.heap d es ep) (hlen : es.size ≤ sizeLine) (S : Addr) (hS : s.heap.get? S = some { cls := .type "list", data := .seq #[] })
    (hR : ∀ g1 tk acc' c', (∀ b o, b ≠ S → s.heap.get? b = some o → g1.get? b = some o) → g1.get? S = some { cls := .type "list", dict := none, data := .seq acc' c', slots := #[] } →
      ItemsOf (fun i v => ∃ en, es[i]? = some en ∧ v = en.key) acc' es.size → R (.ok (.ret .none)) { s with heap := g1, toks := tk }) :
    wpAny (model prog w) A.in1 (Builtin.«list.__init__» ⟨[.ref S, .ref d], []⟩)
      (fun fin s' => match fin with | .done f => R (.ok f) s' | .again c' => c'.quiet = true ∧ codeAny (model prog w) A c' R s') (fun e s' => R (.error e) s') s := by
  have hSd : d ≠ S := fun e => by
    obtain ⟨o, ho, hc, hdat⟩ := hm
    rw [e, hS] at ho
    rw [← Option.some.inj ho] at hdat
    cases hdat
  show wpAny _ _ (do let old ← Builtin.List.listItems (.ref S); Builtin.List.listUpdate (.ref S) (fun _ => #[]); letGo old.toList.reverse; Builtin.List.listExtendWith (.ref S) (.ref d) .none) _ _ s
  refine wpAny_bind ?_
  unfold Builtin.List.listItems
  refine wpAny_bind (wpAny_seqItems hS rfl (wpAny_pure ?_))
  show wpAny _ _ (updateSeq S (fun _ => #[]) >>= fun _ => letGo (#[] : Array Value).toList.reverse >>= fun _ => Builtin.List.listExtendWith (.ref S) (.ref d) .none) _ _ s
  refine wpAny_bind (wpAny_updateSeq hS rfl ?_)
  have hS2 := Heap.get?_update_self (Obj.mapSeq (fun _ => (#[] : Array Value))) hS rfl
  have oth : ∀ b o, b ≠ S → s.heap.get? b = some o → (s.heap.update S (Obj.mapSeq (fun _ => (#[] : Array Value)))).get? b = some o := fun b o hb e => (Heap.get?_update_other _ _ (Ne.symm hb)).trans e
  refine wpAny_bind (wpAny_letGo ?_)
  refine extend (s := { s with heap := s.heap.update S (Obj.mapSeq (fun _ => (#[] : Array Value))) }) hh hd (RawD.at hm fun o e => oth _ o hSd e) hlen S .none _ hS2 fun g1 tk acc' c' hk hS' hacc => ?_
  exact hR g1 tk acc' c' (fun b o hb e => hk b o hb (oth b o hb e)) hS' hacc
theorem call_list {Q : Value → Shared → Prop} (hh : A.handled = none) (hd : (d == sysModules) = false) (hm : RawD s.heap d es ep) (hlen : es.size ≤ sizeLine)
    (hQ : ∀ g1 tk acc' c', (∀ b o, s.heap.get? b = some o → g1.get? b = some o) → g1.get? s.heap.objs.size = some { cls := .type "list", dict := none, data := .seq acc' c', slots := #[] } → ItemsOf (fun i v => ∃ en, es[i]? = some en ∧ v = en.key) acc' es.size → Q (.ref s.heap.objs.size) { s with heap := g1, toks := tk }) :
    wpAny (model prog w) A (call (.type "list") [.ref d]) Q E s := by
  refine callType_codes (Q₁ := fun obj s₁ => obj = .ref s.heap.objs.size ∧ s₁ = { s with heap := s.heap.push { cls := .type "list", data := .seq #[] } }) F.called_list (F.typeCall_list_1 _) F.entry_list_init (code_list_new _ ⟨rfl, rfl⟩) fun obj s₁ h₁ => ?_
  obtain ⟨rfl, rfl⟩ := h₁
  have hS : (s.heap.push { cls := .type "list", data := .seq #[] }).get? s.heap.objs.size = some { cls := .type "list", data := .seq #[] } := Heap.get?_push_size _ rfl
  refine ⟨⟨_, hS, rfl⟩, F.args_list_init_2 _ _, init (A := A.in1) (s := { s with heap := s.heap.push { cls := .type "list", data := .seq #[] } }) hh hd (RawD.at hm fun o e => Heap.get?_push_of_some _ e) hlen _ hS fun g1 tk acc' c' hk hS' hacc => ?_⟩
  exact ⟨rfl, hQ g1 tk acc' c' (fun b o e => hk b o (Nat.ne_of_lt (Heap.lt_size e)) (Heap.get?_push_of_some _ e)) hS' hacc⟩
end
end Dk
section
variable {X : Cx}
end
end L2
set_option Elab.async false
set_option linter.all false
set_option maxRecDepth 100000
set_option maxHeartbeats 4000000
namespace L2
open PySem PySem.Spec PyProof.Rows
open Sem (wp)
open AutoSeq1 (wpAny_loadPart')
section
variable {prog : Program} {w : World} {A : Around} {E : Value → Shared → Prop} {s : Shared}
end
section
variable {X : Cx} {a b : Expr} {ta : TA} {p p2 pos pos2 : Pos}
end
section
variable {X : Cx}
end
end L2
set_option Elab.async false
set_option linter.all false
set_option maxRecDepth 100000
set_option maxHeartbeats 4000000
namespace L2
open PySem PySem.Spec PyProof.Rows
structure MDef (K : PySem.W.Frag) (C : Addr) (x q : Str) (st : Stmt) (ps : List Str) (f : Addr) (fd : FuncData) : Prop where
  F : Fun K x q st f fd
  m : Meth K C x f
  b : Binds K fd ps []
section
variable {X : Cx}
end
section
variable {X : Cx} {o e : Expr} {es : List Expr} {to : TE} {t : TA} {name : Str} {apos cpos : Pos} {T id : String} {r : V → List V → Hp → VK → Prop}
theorem pe_bmK {K : PySem.W.Frag} (hK : X.K = K) (pa : PlainAttrs T) (slot : Slot T name id) (hty : typeOf (.builtin id) = pure (.type "method_descriptor")) (hm : MtR X id r) (ho : PE X o to) (ha : PA X (e :: es) t)
    (hbase : attributeBase o name X.env (eval o X.env) = eval o X.env := by rfl)
    (hfew : ((backTo cpos (starEach (e :: es) X.env)).all (fun x => !x.1) && (backToKw cpos (keywordEach [] X.env)).all (fun x => x.1.isSome)
      && decide ((e :: es).length + ([] : List Keyword).length + (if ([] : List Keyword).isEmpty then 0 else 1) < 30)) = true := by rfl)
    (hline : (apos.endLine == cpos.line) = true := by rfl) (hs : starEach (e :: es) X.env = (false, eval e X.env) :: starEach es X.env := by rfl) (hplain : (backTo cpos (starEach es X.env)).any (·.1) = false := by rfl) :
    PE X (.Call (.Attribute o name apos) (e :: es) [] cpos) (tBM K T r to t) := by
  subst hK
  exact pe_bm pa slot hty hm ho ha hbase hfew hline hs hplain
end
end L2
set_option Elab.async false
set_option linter.all false
set_option maxRecDepth 100000
set_option maxHeartbeats 4000000
namespace L2
open PySem PySem.Spec PyProof.Rows
section
variable {prog : Program} {w : World} {A : Around} {E : Value → Shared → Prop}
end
section
variable {X : Cx}
end
end L2
set_option Elab.async false
set_option linter.all false
set_option maxRecDepth 100000
set_option maxHeartbeats 4000000
namespace L2
open PySem PySem.Spec PyProof.Rows
open PySem.W (KasT kas_rev kas_asc kas_desc kas_tail3 kas_descPart kas_count kas_place kas_bin kas_sort kas_ask kas_ask_eq kas_runs kas_st kas_range kas_item kas_item_eq)
namespace Srt
def Gd {α : Type} (P : Nat → Nat → Prop) (f : Nat → Nat → Bool) : KasT α → (α → Prop) → Prop
  | .ret a, Q => Q a
  | .ask i j k, Q => P i j ∧ Gd P f (k (f i j)) Q
section
variable {n : Nat} {key : Nat → Int}
structure Pr (n : Nat) (p : Array Nat) : Prop where
  sz : p.size = n
  lt : ∀ i, i < n → p.getD i 0 < n
  inj : ∀ i j, i < n → j < n → p.getD i 0 = p.getD j 0 → i = j
def Up (key : Nat → Int) (p : Array Nat) (m : Nat) : Prop := ∀ i j, i < j → j < m → key (p.getD i 0) < key (p.getD j 0)
def Dn (key : Nat → Int) (p : Array Nat) (m : Nat) : Prop := ∀ i j, i < j → j < m → key (p.getD j 0) < key (p.getD i 0)
def Ok (n : Nat) (key : Nat → Int) (i j : Nat) : Prop := i < n ∧ j < n ∧ key i ≠ key j
def Inj (n : Nat) (key : Nat → Int) : Prop := ∀ i j, i < n → j < n → key i = key j → i = j
abbrev ask (key : Nat → Int) (i j : Nat) : Bool := decide (key i < key j)
end
end Srt
end L2
set_option Elab.async false
set_option linter.all false
set_option maxRecDepth 100000
set_option maxHeartbeats 4000000
namespace L2
open PySem PySem.Spec PyProof.Rows
open AutoSeq1 (wpAny_loadPart')
open PySem.W (KasT kas_sort kas_ask kas_ask_eq kas_runs kas_st kas_range kas_item kas_item_eq)
namespace Srt
section
variable {prog : Program} {w : World} {A : Around} {E : Value → Shared → Prop} {s : Shared}
end
end Srt
end L2
set_option Elab.async false
set_option linter.all false
set_option maxRecDepth 100000
set_option maxHeartbeats 4000000
namespace L2
open PySem PySem.Spec PyProof.Rows
section
variable {X : Cx}
end
end L2
set_option Elab.async false
set_option linter.all false
set_option maxRecDepth 100000
set_option maxHeartbeats 4000000
namespace L2
open PySem PySem.Spec PyProof.Rows
theorem miss_keys : typeLookup (.type "list") "keys" = pure none := by rw [typeLookup_type, builtinLookup_eq_fast]; kernel_rfl
theorem try_keys {prog : Program} {w : World} {A : Around} {E : Value → Shared → Prop} {s : Shared} {a : Addr} {xs : Array Value} {k : Nat} {Q : Option Value → Shared → Prop}
    (hx : s.heap.get? a = some { cls := .type "list", data := .seq xs k }) (hA : A.handled = none)
    (h : ∀ h' tk, (∀ b o, s.heap.get? b = some o → h'.get? b = some o) → Q none { s with heap := h', toks := tk }) :
    wpAny (model prog w) A (getAttr? (.ref a) "keys") Q E s := by
  obtain ⟨hp, g, d, tk, os⟩ := s
  have hT : ∀ tk', (⟨hp, g, d, tk', os⟩ : Shared).TypeIs (.ref a) "list" := fun _ => ⟨_, hx, rfl⟩
  have f1 := sub_AttributeError
  have f3 := F.slot_list_getattribute.lookup
  have f4 := F.slot_list_getattribute.bind (.ref a)
  have f5 := am_list_getattr_none
  unfold getAttr? getAttrBy? getAttrBy
  repeat (any_goals (first | assumption | exact hT _ | ((with_reducible show wpAny _ _ (call (Value.builtin "list.__getattribute__") _ _) _ _ _); refine call_meets F.slot_list_getattribute (hT _) am_entry_list_getattribute (F.args_list_getattribute_2 _ _) (meets_getattribute_miss_list a xs k #[] "keys" _ miss_keys (by decide +kernel) (by decide +kernel)) ⟨hx, hA, fun h' tk' e hx' => ?_⟩) | wp_step))
  obtain ⟨t', u', he⟩ := hx'.there
  show wpAny _ _ (getattributeRaised _ _ _ _ _ _ _) _ _ _
  unfold getattributeRaised
  repeat (any_goals (first | assumption | wp_step))
  exact h _ _ hx'.keeps
theorem entry_upd_loop : entryFor table "dict.update.loop" = some Builtin.«dict.update.loop» := entryFor_of_fast (by kernel_rfl)
theorem plain_upd_loop : plainId "dict.update.loop" = true := by decide +kernel
section
variable {prog : Program} {w : World} {K : Type} [DecidableEq K] {knd : KeyKind prog w K} {A : Around} {E : Value → Shared → Prop}
theorem loop_pairs {R : Result → Shared → Prop} {it l d : Addr} {its : List Value} {rs : List (K × Value)} (hh : A.in1.handled = none) (hne : l ≠ it) (ndi : d ≠ it) (ndl : d ≠ l) (hlen : its.length = rs.length) (hsz : rs.length ≤ sizeLine) :
    ∀ (k i : Nat) (s : Shared), its.length - i = k → i ≤ its.length → s.heap.IsListIter it l i → s.heap.IsList l its.toArray → s.heap.DictOf knd d (merged [] (rs.take i)) →
    (∀ (j : Nat) (u : Value) (kv : K × Value), its[j]? = some u → rs[j]? = some kv → ∃ p key, u = .ref p ∧ p ≠ d ∧ p ≠ it ∧ knd.is kv.1 key = true ∧ IsTup s.heap p #[key, kv.2]) →
    (∀ h' tk, h'.DictOf knd d (merged [] rs) → (∀ b o, b ≠ d → b ≠ it → s.heap.get? b = some o → h'.get? b = some o) → R (.ok (.ret .none)) { s with heap := h', toks := tk }) →
    codeAny (model prog w) A (.builtin "dict.update.loop" ⟨[.ref d, .ref it, rawInt (i : Int), .none], []⟩) R s := by
  have W := Walks.list (prog := prog) (w := w) (A := A.in1) hh it l hne its.toArray
  have wr1 : ∀ b : Addr, b ≠ it → b ∉ [it] := fun b hb z => hb (List.mem_singleton.mp z)
  intro k
  induction k with
  | zero =>
    intro i s hk hi hit hl hd hp hR
    have ei : i = its.length := by omega
    refine codeAny_builtin entry_upd_loop ?_
    rw [Around.under_plainId plain_upd_loop _]
    show wpAny _ A.in1 (pyNext (.ref it) >>= _) _ _ s
    refine wpAny_bind (W.done s _ _ ⟨by rw [List.size_toArray, ← ei]; exact hit, hl⟩ fun h' tk kp => ?_)
    show wpAny _ A.in1 (Builtin.Dict.addKeywords d [] >>= _) _ _ _
    refine wpAny_bind (wpAny_pure (wpAny_pure ?_))
    rw [List.take_of_length_le (by omega)] at hd
    obtain ⟨od, x1, x2, h1, h2⟩ := id hd
    refine hR h' tk ⟨od, x1, x2, kp _ _ (wr1 _ ndi) h1, h2⟩ fun b o _ hb e => kp b o (wr1 _ hb) e
  | succ k ih =>
    intro i s hk hi hit hl hd hp hR
    have hlt : i < its.length := by omega
    refine codeAny_builtin entry_upd_loop ?_
    rw [Around.under_plainId plain_upd_loop _]
    show wpAny _ A.in1 (pyNext (.ref it) >>= _) _ _ s
    refine wpAny_bind (W.item i s _ _ (by rw [List.size_toArray]; exact hlt) ⟨hit, hl⟩ fun v h' tk hP st2 kp => ?_)
    obtain ⟨hit2, hl2⟩ := st2
    have hP2 : its[i]? = some v := by simpa using hP
    have hkv : rs[i]? = some (rs[i]'(by omega)) := List.getElem?_eq_getElem (by omega)
    generalize rs[i]'(by omega) = kv at hkv
    obtain ⟨p, key, rfl, pd, pi, hkey, o, ho, hc, n, hdat⟩ := hp i v kv hP2 hkv
    have ho2 := kp _ _ (wr1 _ pi) ho
    have etk : rs.take (i + 1) = rs.take i ++ [kv] := by rw [List.take_succ, hkv]; rfl
    have hd2 : h'.DictOf knd d (merged [] (rs.take i)) := by
      obtain ⟨od, x1, x2, h1, h2⟩ := id hd
      exact ⟨od, x1, x2, kp _ _ (wr1 _ ndi) h1, h2⟩
    have hml := merged_length_le ([] : List (K × Value)) (rs.take i)
    have hml2 : (merged [] (rs.take i)).length ≤ sizeLine := by
      rw [List.length_take, List.length_nil] at hml
      omega
    show wpAny _ A.in1 (holding [Value.ref p] _ >>= _) _ _ _
    refine wpAny_bind (wpAny_holding ?_)
    refine wpAny_bind (wpAny_tryCatch ?_)
    show wpAny _ A.in1 (typeOf (Value.ref p) >>= _) _ _ _
    refine wpAny_bind (wpAny_typeOf (T := "tuple") ⟨o, ho2, hc⟩ ?_)
    rw [if_pos (by decide)]
    refine wpAny_bind (wpAny_seqItems ho2 hdat ?_)
    refine wpAny_pure ?_
    show wpAny _ A.in1 (holding [key, kv.2] (dictSet d key kv.2)) _ _ _
    refine wpAny_holding (wpAny_dictSet_pairs hkey hd2 (fun g hd3 sb => ?_) hml2)
    have kg : ∀ b o, b ≠ d → h'.get? b = some o → g.get? b = some o := fun b o hb e => (sb.2 b hb).trans e
    refine wpAny_pure ⟨plainId_quiet plain_upd_loop _, ?_⟩
    have hcast : rawInt ((i : Int) + 1) = rawInt (((i + 1 : Nat)) : Int) := rfl
    rw [hcast]
    refine ih (i + 1) _ (by omega) (by omega) (hit2.at fun o e => kg _ _ (Ne.symm ndi) e) (hl2.at fun o e => kg _ _ (Ne.symm ndl) e) ?_ ?_ ?_
    · rw [etk, merged, List.foldl_append]
      exact hd3
    · intro j u kv2 h1 h2
      obtain ⟨p, key, rfl, a1, a2, a3, o, b1, b2⟩ := hp j u kv2 h1 h2
      exact ⟨p, key, rfl, a1, a2, a3, o, kg _ _ a1 (kp _ _ (wr1 _ a2) b1), b2⟩
    · intro h2 tk2 hd4 kp2
      exact hR h2 tk2 hd4 fun b o hb hi e => kp2 b o hb hi (kg _ _ hb (kp _ _ (wr1 _ hi) e))
theorem call_dict_list {s : Shared} {Q : Value → Shared → Prop} {l : Addr} {its : List Value} {c : Nat} {rs : List (K × Value)} (hh : A.handled = none) (hlen : its.length = rs.length) (hsz : rs.length ≤ sizeLine)
    (hl : s.heap.get? l = some { cls := .type "list", data := .seq its.toArray c })
    (hp : ∀ (j : Nat) (u : Value) (kv : K × Value), its[j]? = some u → rs[j]? = some kv → ∃ p key, u = .ref p ∧ knd.is kv.1 key = true ∧ IsTup s.heap p #[key, kv.2])
    (hQ : ∀ h' tk, h'.DictOf knd s.heap.objs.size (merged [] rs) → (∀ b o, s.heap.get? b = some o → h'.get? b = some o) → Q (.ref s.heap.objs.size) { s with heap := h', toks := tk }) :
    wpAny (model prog w) A (call (.type "dict") [.ref l]) Q E s := by
  refine callType_codes (Q₁ := fun obj s₁ => obj = .ref s.heap.objs.size ∧ s₁ = { s with heap := s.heap.push { cls := .type "dict", data := .dict #[] } }) F.kt_called_dict (F.kt_typeCall_dict_1 _) F.entry_dict_init (kt_code_dict_new _ ⟨rfl, rfl⟩) ?_
  rintro obj s₁ ⟨rfl, rfl⟩
  have hnew : (s.heap.push { cls := .type "dict", data := .dict #[] }).DictOf knd s.heap.objs.size [] := Heap.DictOf.new s.heap
  have hl2 : (s.heap.push { cls := .type "dict", data := .dict #[] }).get? l = some { cls := .type "list", data := .seq its.toArray c } := Heap.get?_push_of_some _ hl
  have hll := Heap.lt_size hl
  refine ⟨hnew.typeIs, F.args_dict_init_2 _ _, ?_⟩
  unfold Builtin.«dict.__init__»
  refine wpAny_bind ?_
  unfold Builtin.Dict.selfAndRest
  refine wpAny_bind (wpAny_notOrdered_dict hnew.typeIs ?_)
  show wpAny _ _ (pure (s.heap.objs.size, [Value.ref l])) _ _ _
  refine wpAny_pure ?_
  show wpAny _ _ (Builtin.Dict.updateFrom "dict.__init__" s.heap.objs.size (.ref l) [] .none) _ _ _
  unfold Builtin.Dict.updateFrom
  refine wpAny_bind (wpAny_typeOf (T := "list") ⟨_, hl2, rfl⟩ ?_)
  rw [if_pos (by decide)]
  refine wpAny_bind (try_keys hl2 hh fun g tk kp => ?_)
  rw [if_pos (by decide)]
  refine wpAny_bind (wpAny_rule ?_)
  have hl3 := kp _ _ hl2
  refine wpAny_bind (wpAny_pyIter_list (items := its.toArray) ⟨_, hl3, rfl, c, rfl⟩ ?_)
  have hd0 : s.heap.objs.size < g.objs.size := by
    obtain ⟨od, _, _, h1, _⟩ := id hnew
    exact Heap.lt_size (kp _ _ h1)
  have hlg := Heap.lt_size hl3
  have k2 : ∀ b o, s.heap.get? b = some o → (g.push { cls := .type "list_iterator", data := .fields #[.ref l, .int 0 0] }).get? b = some o := fun b o e => Heap.get?_push_of_some _ (kp _ _ (Heap.get?_push_of_some _ e))
  refine wpAny_pure ⟨plainId_quiet plain_upd_loop _, loop_pairs (knd := knd) (A := A.in1) (rs := rs) (its := its) (l := l) (it := g.objs.size) hh (Nat.ne_of_lt hlg) (Nat.ne_of_lt hd0) (Nat.ne_of_gt hll) hlen hsz its.length 0 _ rfl (Nat.zero_le _) ?_ ⟨_, Heap.get?_push_of_some _ hl3, rfl, c, rfl⟩ ?_ ?_ ?_⟩
  · exact ⟨_, Heap.get?_push_size _ rfl, rfl, rfl⟩
  · obtain ⟨od, x1, x2, h1, h2⟩ := id hnew
    exact ⟨od, x1, x2, Heap.get?_push_of_some _ (kp _ _ h1), h2⟩
  · intro j u kv h1 h2
    obtain ⟨p, key, rfl, a3, o, b1, b2⟩ := hp j u kv h1 h2
    have hpl := Heap.lt_size b1
    exact ⟨p, key, rfl, Nat.ne_of_lt hpl, Nat.ne_of_lt (Nat.lt_trans hpl hd0), a3, o, k2 _ _ b1, b2⟩
  · intro h' tk2 hd4 kp2
    refine ⟨rfl, hQ h' tk2 hd4 fun b o e => ?_⟩
    have hb := Heap.lt_size e
    exact kp2 b o (Nat.ne_of_lt hb) (Nat.ne_of_lt (Nat.lt_trans hb hd0)) (k2 _ _ e)
end
section
variable {X : Cx}
def rDictP : List V → Hp → VK → Prop := fun xs H Q => ∃ (l : Addr) (ps : List Addr) (kvs : List (Key × V)), xs = [.ref l] ∧ H l = some (.lst (ps.map V.ref)) ∧ ps.length = kvs.length ∧
  (∀ (i : Nat) (p : Addr) (kv : Key × V), ps[i]? = some p → kvs[i]? = some kv → H p = some (.tup [kV kv.1, kv.2])) ∧ ∀ d, H d = none → Q (.ref d) (upd H d (.dK (mergeK [] kvs)))
theorem pairs_of {P : Program} {w : World} {H : Hp} {h : Heap} (ok : HOk P w H h) : ∀ (ps : List Addr) (kvs : List (Key × V)), ps.length = kvs.length → (∀ (i : Nat) (p : Addr) (kv : Key × V), ps[i]? = some p → kvs[i]? = some kv → H p = some (.tup [kV kv.1, kv.2])) →
    ∃ rs : List (Key × Value), KV kvs rs ∧ ∀ (j : Nat) (p : Addr) (kv : Key × Value), ps[j]? = some p → rs[j]? = some kv → ∃ key, (mixKind P w).is kv.1 key = true ∧ IsTup h p #[key, kv.2]
  | [], [], _, _ => ⟨[], .nil, fun j p kv h1 => by simp at h1⟩
  | p :: ps, kv :: kvs, hl, hp => by
    obtain ⟨rs, r1, r2⟩ := pairs_of ok ps kvs (by simpa using hl) fun i q kv h1 h2 => hp (i + 1) q kv (by simpa using h1) (by simpa using h2)
    obtain ⟨-, its, rv, ht⟩ := ok p _ (hp 0 p kv rfl rfl)
    obtain ⟨u, v, rfl, ru, rv2⟩ := vals2 rv
    refine ⟨(kv.1, v) :: rs, .cons ⟨rfl, rv2⟩ r1, fun j q kv2 h1 h2 => ?_⟩
    cases j with
    | zero =>
      obtain rfl : p = q := by simpa using h1
      obtain rfl : (kv.1, v) = kv2 := by simpa using h2
      exact ⟨u, kV_is ru, ht⟩
    | succ j => exact r2 j q kv2 (by simpa using h1) (by simpa using h2)
theorem call_dict_pairs (hc : X.calm = true) : CallR X (.type "dict") rDictP := by
  intro pins s σ H xs us Q I r h
  obtain ⟨l, ps, kvs, rfl, hl, hlen, hp, q⟩ := h
  obtain ⟨u, rfl, rx⟩ := vals1 r
  cases rx
  obtain ⟨hz, its, c, rv, hg⟩ := I.hok l _ hl
  obtain rfl := vals_refs rv
  obtain ⟨rs, r1, r2⟩ := pairs_of I.hok ps kvs hlen hp
  have hkl : kvs.length = rs.length := r1.length
  rw [List.length_map] at hz
  refine call_dict_list (knd := mixKind X.prog X.w) (rs := rs) (I.ok.hd hc) (by rw [List.length_map]; omega) (by omega) hg (fun j u kv h1 h2 => ?_) fun g tk dd kp => ?_
  · rw [List.getElem?_map] at h1
    cases hy : ps[j]? with
    | none => rw [hy] at h1; cases h1
    | some p =>
      rw [hy] at h1
      obtain ⟨key, k1, k2⟩ := r2 j p kv hy h2
      exact ⟨p, key, (Option.some.inj h1).symm, k1, k2⟩
  · have hm : KV (mergeK [] kvs) (merged [] rs) := KV.merge r1 .nil
    have hml := length_mergeK kvs []
    rw [List.length_nil] at hml
    exact ⟨.ref s.heap.objs.size, _, I.laid (t' := tk) kp (Nat.le_refl _) (dk_new (by omega) (beq_eq_false_iff_ne.mpr (Ne.symm (Nat.ne_of_lt I.big))) hm dd), rfl, q _ (I.hok.fresh (Nat.le_refl _))⟩
end
end L2
set_option Elab.async false
set_option linter.all false
set_option maxRecDepth 100000
set_option maxHeartbeats 4000000
namespace L2
open PySem PySem.Spec PyProof.Rows
section
variable {X : Cx} {pins : List (Addr × Obj)} {σ : St} {H : Hp} {s : Shared} {d : Addr} {u : HO} {o : Obj}
end
section
variable {X : Cx} {tg : Expr}
theorem mix_rel {P : Program} {w : World} {k : Key} {v : Value} (h : (mixKind P w).is k v = true) : RelV (kV k) v := by
  cases k with
  | inl i =>
    have h' : Value.isInt i v = true := h
    cases v with
    | int j t => simp [Value.isInt] at h'; subst h'; exact ⟨_, rfl⟩
    | _ => simp [Value.isInt] at h'
  | inr x =>
    have h' : Value.isStrOf x v = true := h
    cases v with
    | str j t => simp [Value.isStrOf] at h'; subst h'; exact ⟨_, rfl⟩
    | _ => simp [Value.isStrOf] at h'
end
end L2
set_option Elab.async false
set_option linter.all false
set_option maxRecDepth 100000
set_option maxHeartbeats 4000000
namespace L2
open PySem PySem.Spec PyProof.Rows
inductive Dt where
  | i (n : Int) | s (l : List Nat) | n | b (k : Bool) | t (xs : List Dt) | l (xs : List Dt)
inductive DtAt (H : Hp) : Nat → V → Dt → Prop where
  | i {k : Nat} {n : Int} : DtAt H k (.int n) (.i n)
  | s {k : Nat} {l : List Nat} : DtAt H k (.str (tx l)) (.s l)
  | n {k : Nat} : DtAt H k .non .n
  | b {k : Nat} {c : Bool} : DtAt H k (.bl c) (.b c)
  | t {k : Nat} {a : Addr} {vs : List V} {ds : List Dt} : H a = some (.tup vs) → vs.length = ds.length → (∀ (j : Nat) (v : V) (d : Dt), vs[j]? = some v → ds[j]? = some d → DtAt H k v d) → DtAt H (k + 1) (.ref a) (.t ds)
  | l {k : Nat} {a : Addr} {vs : List V} {ds : List Dt} : H a = some (.lst vs) → vs.length = ds.length → (∀ (j : Nat) (v : V) (d : Dt), vs[j]? = some v → ds[j]? = some d → DtAt H k v d) → DtAt H (k + 1) (.ref a) (.l ds)
theorem DtAt.keep {H H' : Hp} (ht : ∀ a xs, H a = some (.tup xs) → H' a = some (.tup xs)) (hl : ∀ a xs, H a = some (.lst xs) → H' a = some (.lst xs)) {k : Nat} {v : V} {d : Dt} (h : DtAt H k v d) : DtAt H' k v d := by
  induction h with
  | i => exact .i
  | s => exact .s
  | n => exact .n
  | b => exact .b
  | t a b c ih => exact .t (ht _ _ a) b ih
  | l a b c ih => exact .l (hl _ _ a) b ih
theorem DtAt.same {H H' : Hp} (s : Same H H') {k : Nat} {v : V} {d : Dt} (h : DtAt H k v d) : DtAt H' k v d := h.keep (fun _ _ e => s _ _ e) (fun _ _ e => s _ _ e)
theorem DtAt.up {H : Hp} {k : Nat} {v : V} {d : Dt} (h : DtAt H k v d) : DtAt H (k + 1) v d := by
  induction h with
  | i => exact .i
  | s => exact .s
  | n => exact .n
  | b => exact .b
  | t a b c ih => exact .t a b ih
  | l a b c ih => exact .l a b ih
theorem DtAt.le {H : Hp} {k m : Nat} {v : V} {d : Dt} (h : DtAt H k v d) (hm : k ≤ m) : DtAt H m v d := by
  obtain ⟨j, rfl⟩ := Nat.exists_eq_add_of_le hm
  clear hm
  induction j with
  | zero => exact h
  | succ j ih => exact ih.up
section
variable {X : Cx} {pins : List (Addr × Obj)} {σ : St} {H : Hp} {s : Shared}
theorem beq_same (x : Str) : (x == x) = true := by simp
theorem eq_int_self {A : Around} (n : Int) (t t' : Tok) : SeqAt.EqAt A s (.int n t) (.int n t') true := by
  have := SeqAt.EqAt.int_int (A := A) (s := s) n t n t'
  rw [beq_self_eq_true] at this
  exact this
theorem eq_str_self {A : Around} (x : Str) (t t' : Tok) : SeqAt.EqAt A s (.str x t) (.str x t') true := by
  have := SeqAt.EqAt.str_str (A := A) (s := s) x t x t'
  rw [beq_same] at this
  exact this
theorem eq_dt (I : Inv X pins σ H s) : ∀ (k : Nat) (A : Around) (v v' : V) (u u' : Value) (d : Dt), A.units + k < cLine → DtAt H k v d → DtAt H k v' d → RelV v u → RelV v' u' → SeqAt.EqAt A s u u' true := by
  intro k
  induction k with
  | zero =>
    intro A v v' u u' d hu h h' r r'
    cases h with
    | @i n => cases h' with | i => ?_
              obtain ⟨t, rfl⟩ := r
              obtain ⟨t', rfl⟩ := r'
              exact eq_int_self _ _ _
    | @s l => cases h' with | s => ?_
              obtain ⟨t, rfl⟩ := r
              obtain ⟨t', rfl⟩ := r'
              exact eq_str_self _ _ _
    | n => cases h' with | n => ?_
           cases r
           cases r'
           exact SeqAt.EqAt.same _
    | @b c => cases h' with | b => ?_
              cases r
              cases r'
              exact SeqAt.EqAt.same _
  | succ k ih =>
    intro A v v' u u' d hu h h' r r'
    cases h with
    | @i _ n => cases h' with | i => ?_
                obtain ⟨t, rfl⟩ := r
                obtain ⟨t', rfl⟩ := r'
                exact eq_int_self _ _ _
    | @s _ l => cases h' with | s => ?_
                obtain ⟨t, rfl⟩ := r
                obtain ⟨t', rfl⟩ := r'
                exact eq_str_self _ _ _
    | n => cases h' with | n => ?_
           cases r
           cases r'
           exact SeqAt.EqAt.same _
    | @b _ c => cases h' with | b => ?_
                cases r
                cases r'
                exact SeqAt.EqAt.same _
    | @t _ a vs ds h1 h2 h3 =>
      cases h' with
      | @t _ b vs' _ g1 g2 g3 =>
        cases r
        cases r'
        by_cases e : a = b
        · subst e
          exact SeqAt.EqAt.same _
        · refine SeqAt.EqAt.of_refs e ?_
          obtain ⟨its, r1, p1, _⟩ := I.tuple (SqT.of h1)
          obtain ⟨its2, r2, p2, _⟩ := I.tuple (SqT.of g1)
          have l1 := r1.length
          have l2 := r2.length
          have := SeqAt.RcAt.tuples (A := A) (e := fun _ => true) (show s.heap.IsTuple a its.toArray from p1) (show s.heap.IsTuple b its2.toArray from p2) (by omega) (fun j q1 q2 => ?_)
          · rw [List.size_toArray, List.size_toArray, ← l1, ← l2, h2, g2, all_true _ _ fun _ => rfl] at this
            simpa using this
          · have k1 : j < its.length := by simpa using q1
            have k2 : j < its2.length := by simpa using q2
            have d1 : vs[j]? = some (vs[j]'(by omega)) := List.getElem?_eq_getElem (by omega)
            have d2 : vs'[j]? = some (vs'[j]'(by omega)) := List.getElem?_eq_getElem (by omega)
            have d3 : ds[j]? = some (ds[j]'(by omega)) := List.getElem?_eq_getElem (by omega)
            obtain ⟨w1, e1, z1⟩ := r1.get d1
            obtain ⟨w2, e2, z2⟩ := r2.get d2
            have f1 : its.toArray[j] = w1 := by rw [List.getElem_toArray]; exact Option.some.inj ((List.getElem?_eq_getElem k1).symm.trans e1)
            have f2 : its2.toArray[j] = w2 := by rw [List.getElem_toArray]; exact Option.some.inj ((List.getElem?_eq_getElem k2).symm.trans e2)
            rw [f1, f2]
            exact ih _ _ _ _ _ _ (show A.units + 1 + k < cLine by omega) (h3 j _ _ d1 d3) (g3 j _ _ d2 d3) z1 z2
    | @l _ a vs ds h1 h2 h3 =>
      cases h' with
      | @l _ b vs' _ g1 g2 g3 =>
        cases r
        cases r'
        by_cases e : a = b
        · subst e
          exact SeqAt.EqAt.same _
        · refine SeqAt.EqAt.of_refs e ?_
          obtain ⟨its, r1, p1, _⟩ := I.list (SqL.of h1)
          obtain ⟨its2, r2, p2, _⟩ := I.list (SqL.of g1)
          have l1 := r1.length
          have l2 := r2.length
          have := SeqAt.RcAt.lists (A := A) (e := fun _ => true) p1.isList p2.isList (by simp; omega) (by omega) (fun j q1 q2 => ?_)
          · rw [all_true _ _ fun _ => rfl] at this
            exact this
          · have k1 : j < its.length := by simpa using q1
            have k2 : j < its2.length := by simpa using q2
            have d1 : vs[j]? = some (vs[j]'(by omega)) := List.getElem?_eq_getElem (by omega)
            have d2 : vs'[j]? = some (vs'[j]'(by omega)) := List.getElem?_eq_getElem (by omega)
            have d3 : ds[j]? = some (ds[j]'(by omega)) := List.getElem?_eq_getElem (by omega)
            obtain ⟨w1, e1, z1⟩ := r1.get d1
            obtain ⟨w2, e2, z2⟩ := r2.get d2
            have f1 : its.toArray[j] = w1 := by rw [List.getElem_toArray]; exact Option.some.inj ((List.getElem?_eq_getElem k1).symm.trans e1)
            have f2 : its2.toArray[j] = w2 := by rw [List.getElem_toArray]; exact Option.some.inj ((List.getElem?_eq_getElem k2).symm.trans e2)
            rw [f1, f2]
            exact ih _ _ _ _ _ _ (show A.units + 1 + k < cLine by omega) (h3 j _ _ d1 d3) (g3 j _ _ d2 d3) z1 z2
end
section
variable {X : Cx}
theorem dt_items {pins : List (Addr × Obj)} {σ : St} {H : Hp} {s : Shared} (I : Inv X pins σ H s) {k : Nat} {A : Around} (hu : A.units + k < cLine) {vs vs' : List V} {its its2 : List Value} {ds : List Dt} (r1 : Vals vs its) (r2 : Vals vs' its2) (h2 : vs.length = ds.length) (g2 : vs'.length = ds.length)
    (h3 : ∀ (j : Nat) (v : V) (d : Dt), vs[j]? = some v → ds[j]? = some d → DtAt H k v d) (g3 : ∀ (j : Nat) (v : V) (d : Dt), vs'[j]? = some v → ds[j]? = some d → DtAt H k v d) (j : Nat) (q1 : j < its.toArray.size) (q2 : j < its2.toArray.size) : SeqAt.EqAt A s its.toArray[j] its2.toArray[j] true := by
  have l1 := r1.length
  have l2 := r2.length
  have k1 : j < its.length := by simpa using q1
  have k2 : j < its2.length := by simpa using q2
  have d1 : vs[j]? = some (vs[j]'(by omega)) := List.getElem?_eq_getElem (by omega)
  have d2 : vs'[j]? = some (vs'[j]'(by omega)) := List.getElem?_eq_getElem (by omega)
  have d3 : ds[j]? = some (ds[j]'(by omega)) := List.getElem?_eq_getElem (by omega)
  obtain ⟨w1, e1, z1⟩ := r1.get d1
  obtain ⟨w2, e2, z2⟩ := r2.get d2
  have f1 : its.toArray[j] = w1 := by rw [List.getElem_toArray]; exact Option.some.inj ((List.getElem?_eq_getElem k1).symm.trans e1)
  have f2 : its2.toArray[j] = w2 := by rw [List.getElem_toArray]; exact Option.some.inj ((List.getElem?_eq_getElem k2).symm.trans e2)
  rw [f1, f2]
  exact eq_dt I k _ _ _ _ _ _ hu (h3 j _ _ d1 d3) (g3 j _ _ d2 d3) z1 z2
def rNeDt : R2 := fun x y H Q => ∃ d a b, x = .ref a ∧ y = .ref b ∧ DtAt H 8 x d ∧ DtAt H 8 y d ∧ Q (.bl false) H
theorem op_neDt (hu : X.A.units + 8 < cLine) : OpR X (compareOp .NotEq) rNeDt := by
  intro pins s σ H x y v u Q I rx ry h
  obtain ⟨d, a, b, rfl, rfl, h, h', q⟩ := h
  cases rx
  cases ry
  cases h with
  | t h1 h2 h3 =>
    cases h' with
    | t g1 g2 g3 =>
      obtain ⟨its, r1, p1, _⟩ := I.tuple (SqT.of h1)
      obtain ⟨its2, r2, p2, _⟩ := I.tuple (SqT.of g1)
      have l1 := r1.length
      have l2 := r2.length
      refine SeqAt.RcNeAt.tuples (e := fun _ => true) (show s.heap.IsTuple a _ from p1) (show s.heap.IsTuple b _ from p2) (by omega) (fun j q1 q2 => dt_items I (k := 7) (by show X.A.units + 1 + 7 < cLine; omega) r1 r2 h2 g2 h3 g3 j q1 q2) X.prog X.w X.xe _ ⟨.bl false, H, I, ?_, q⟩
      show _ = Value.bool false
      rw [List.size_toArray, List.size_toArray, ← l1, ← l2, h2, g2, all_true _ _ fun _ => rfl]
      simp
  | l h1 h2 h3 =>
    cases h' with
    | l g1 g2 g3 =>
      obtain ⟨its, r1, p1, _⟩ := I.list (SqL.of h1)
      obtain ⟨its2, r2, p2, _⟩ := I.list (SqL.of g1)
      have l1 := r1.length
      have l2 := r2.length
      refine SeqAt.RcNeAt.lists (e := fun _ => true) p1.isList p2.isList (by simp; omega) (by omega) (fun j q1 q2 => dt_items I (k := 7) (by show X.A.units + 1 + 7 < cLine; omega) r1 r2 h2 g2 h3 g3 j q1 q2) X.prog X.w X.xe _ ⟨.bl false, H, I, ?_, q⟩
      show _ = Value.bool false
      rw [all_true _ _ fun _ => rfl]
      rfl
end
end L2
set_option Elab.async false
set_option linter.all false
set_option maxRecDepth 100000
set_option maxHeartbeats 4000000
namespace L2
open PySem PySem.Spec PyProof.Rows
def nI (l : List Nat) : List Int := l.map fun n : Nat => (n : Int)
theorem nI_len (l : List Nat) : (nI l).length = l.length := List.length_map ..
theorem nI_get {l : List Nat} {i n : Nat} (h : l[i]? = some n) : (nI l)[i]? = some (n : Int) := by unfold nI; rw [List.getElem?_map, h]; rfl
theorem nI_app (a b : List Nat) : nI (a ++ b) = nI a ++ nI b := List.map_append ..
theorem nI_set (l : List Nat) (i n : Nat) : (nI l).set i (n : Int) = nI (l.set i n) := by unfold nI; rw [List.map_set]
structure RS where
  L : Nat
  made : Nat
  rows : List Dt
  ways : List (List (Int × Nat))
  gaps : List (List Int)
  elders : List Nat
  called : List (List Nat)
  went : List Nat
def wK (l : List (Int × Nat)) : List (Key × V) := l.map fun p => (Sum.inl p.1, V.int p.2)
def gK (l : List Int) : List (Key × V) := l.map fun s => (Sum.inl s, V.bl true)
def getW (l : List (Int × Nat)) (s : Int) : Option Nat := (l.find? fun p => decide (p.1 = s)).map (·.2)
def putW (l : List (Int × Nat)) (s : Int) (r : Nat) : List (Int × Nat) := if (l.any fun p => decide (p.1 = s)) = true then l.map fun p => if p.1 = s then (p.1, r) else p else l ++ [(s, r)]
theorem wK_len (l : List (Int × Nat)) : (wK l).length = l.length := List.length_map ..
theorem gK_len (l : List Int) : (gK l).length = l.length := List.length_map ..
theorem key_eq (a b : Int) : decide ((Sum.inl a : Key) = Sum.inl b) = decide (a = b) := by
  rw [Bool.eq_iff_iff, decide_eq_true_iff, decide_eq_true_iff]
  exact ⟨Sum.inl.inj, congrArg Sum.inl⟩
theorem wK_val (s : Int) : ∀ l : List (Int × Nat), valV (wK l) (Sum.inl s) = (getW l s).map fun r : Nat => V.int (r : Int)
  | [] => rfl
  | p :: l => by
    have ih := wK_val s l
    by_cases h : p.1 = s
    · have e : valV (wK (p :: l)) (Sum.inl s) = some (V.int p.2) := valV_pos (p := (Sum.inl p.1, V.int p.2)) (by rw [h])
      have e2 : getW (p :: l) s = some p.2 := by unfold getW; rw [List.find?_cons_of_pos (by exact decide_eq_true h)]; rfl
      rw [e, e2]; rfl
    · have e : valV (wK (p :: l)) (Sum.inl s) = valV (wK l) (Sum.inl s) := valV_neg (p := (Sum.inl p.1, V.int p.2)) (fun z => h (Sum.inl.inj z))
      have e2 : getW (p :: l) s = getW l s := by unfold getW; rw [List.find?_cons_of_neg (by simpa using h)]
      rw [e, e2, ih]
theorem wK_put (l : List (Int × Nat)) (s : Int) (r : Nat) : putK (wK l) (Sum.inl s) (.int r) = wK (putW l s r) := by
  unfold putK putW
  have ha : ((wK l).any fun kv => decide (kv.1 = Sum.inl s)) = l.any fun p => decide (p.1 = s) := by
    unfold wK
    rw [List.any_map]
    congr 1
    funext p
    exact key_eq _ _
  rw [ha]
  split
  · unfold wK
    rw [List.map_map, List.map_map]
    refine List.map_congr_left fun p _ => ?_
    show (if (Sum.inl p.1 : Key) = Sum.inl s then _ else _) = _
    by_cases h : p.1 = s
    · simp only [Function.comp, h, if_true]
    · have : ¬ (Sum.inl p.1 : Key) = Sum.inl s := fun z => h (Sum.inl.inj z)
      simp only [Function.comp, h, this, if_false]
  · unfold wK
    rw [List.map_append]
    rfl
theorem getW_put (l : List (Int × Nat)) (s t : Int) (r : Nat) : getW (putW l s r) t = if t = s then some r else getW l t := by
  have h1 := wK_val t (putW l s r)
  rw [← wK_put, valV_put, wK_val] at h1
  have inj : ∀ a b : Option Nat, (a.map fun r : Nat => V.int (r : Int)) = (b.map fun r : Nat => V.int (r : Int)) → a = b := fun a b h => by
    cases a <;> cases b <;> simp at h ⊢
    omega
  apply inj
  rw [← h1]
  by_cases e : t = s
  · rw [if_pos e, if_pos (by rw [e])]; rfl
  · rw [if_neg e, if_neg (fun z => e (Sum.inl.inj z))]
theorem putW_len (l : List (Int × Nat)) (s : Int) (r : Nat) : (putW l s r).length ≤ l.length + 1 := by
  unfold putW
  split
  · rw [List.length_map]; omega
  · rw [List.length_append]; exact Nat.le_refl _
theorem gK_drop (l : List Int) (s : Int) : dropK (gK l) (Sum.inl s) = gK (l.filter fun x => decide (x ≠ s)) := by
  unfold dropK gK
  rw [List.filter_map]
  congr 1
  refine List.filter_congr fun x _ => ?_
  show decide ((Sum.inl x : Key) ≠ Sum.inl s) = decide (x ≠ s)
  rw [Bool.eq_iff_iff, decide_eq_true_iff, decide_eq_true_iff]
  exact ⟨fun h z => h (congrArg Sum.inl z), fun h z => h (Sum.inl.inj z)⟩
theorem gK_val (s : Int) : ∀ l : List Int, valV (gK l) (Sum.inl s) = if s ∈ l then some (V.bl true) else none
  | [] => rfl
  | x :: l => by
    by_cases h : x = s
    · rw [if_pos (by rw [h]; exact List.mem_cons_self)]
      exact valV_pos (p := (Sum.inl x, V.bl true)) (by rw [h])
    · have e : valV (gK (x :: l)) (Sum.inl s) = valV (gK l) (Sum.inl s) := valV_neg (p := (Sum.inl x, V.bl true)) (fun z => h (Sum.inl.inj z))
      rw [e, gK_val s l]
      have : (s ∈ x :: l) ↔ s ∈ l := ⟨fun z => (List.mem_cons.mp z).elim (fun q => absurd q.symm h) id, List.mem_cons_of_mem _⟩
      simp only [this]
theorem merge_new : ∀ (more acc : List (Key × V)), ((acc ++ more).map (·.1)).Nodup → mergeK acc more = acc ++ more
  | [], acc, _ => (List.append_nil _).symm
  | p :: more, acc, h => by
    have hn : valV acc p.1 = none := by
      unfold valV
      rw [List.find?_eq_none.mpr ?_]; rfl
      intro q hq
      rw [decide_eq_true_iff]
      intro e
      rw [List.map_append, List.nodup_append] at h
      exact h.2.2 q.1 (List.mem_map_of_mem hq) p.1 (List.mem_map_of_mem List.mem_cons_self) e
    show mergeK (putK acc p.1 p.2) more = _
    rw [putK_new _ hn, merge_new more (acc ++ [(p.1, p.2)]) (by rw [List.append_assoc]; exact h), List.append_assoc]
    rfl
structure RA where
  dx : Addr
  aR : Addr
  aW : Addr
  aG : Addr
  aE : Addr
  aC : Addr
  aN : Addr
  rs : List Addr
  ws : List Addr
  gs : List Addr
  cs : List Addr
def flds (L made : Int) (a : RA) : List (Str × V) := [("letters", .int L), ("made", .int made), ("rows", .ref a.aR), ("ways", .ref a.aW), ("gaps", .ref a.aG), ("elders", .ref a.aE), ("called", .ref a.aC), ("went", .ref a.aN)]
theorem putF_made (L m n : Int) (a : RA) : putF "made" (.int n) (flds L m a) = flds L n a := by
  have h : ¬ (("letters" : Str) = "made") := by decide +kernel
  unfold flds
  simp only [putF, if_neg h, if_true]
theorem lk_letters (L m : Int) (a : RA) : (flds L m a).lookup ("letters" : Str) = some (.int L) := by kernel_rfl
theorem lk_made (L m : Int) (a : RA) : (flds L m a).lookup ("made" : Str) = some (.int m) := by kernel_rfl
theorem lk_rows (L m : Int) (a : RA) : (flds L m a).lookup ("rows" : Str) = some (.ref a.aR) := by kernel_rfl
theorem lk_ways (L m : Int) (a : RA) : (flds L m a).lookup ("ways" : Str) = some (.ref a.aW) := by kernel_rfl
theorem lk_gaps (L m : Int) (a : RA) : (flds L m a).lookup ("gaps" : Str) = some (.ref a.aG) := by kernel_rfl
theorem lk_elders (L m : Int) (a : RA) : (flds L m a).lookup ("elders" : Str) = some (.ref a.aE) := by kernel_rfl
theorem lk_called (L m : Int) (a : RA) : (flds L m a).lookup ("called" : Str) = some (.ref a.aC) := by kernel_rfl
theorem lk_went (L m : Int) (a : RA) : (flds L m a).lookup ("went" : Str) = some (.ref a.aN) := by kernel_rfl
theorem lk_none (L m : Int) (a : RA) {x : Str} (h : x ∉ (["letters", "made", "rows", "ways", "gaps", "elders", "called", "went"] : List Str)) : (flds L m a).lookup x = none := by
  simp only [List.mem_cons, List.not_mem_nil, or_false, not_or] at h
  obtain ⟨h1, h2, h3, h4, h5, h6, h7, h8⟩ := h
  unfold flds
  simp only [List.lookup, beq_eq_false_iff_ne.mpr h1, beq_eq_false_iff_ne.mpr h2, beq_eq_false_iff_ne.mpr h3, beq_eq_false_iff_ne.mpr h4, beq_eq_false_iff_ne.mpr h5, beq_eq_false_iff_ne.mpr h6, beq_eq_false_iff_ne.mpr h7, beq_eq_false_iff_ne.mpr h8]
inductive NoL : Dt → Prop where
  | i {n : Int} : NoL (.i n)
  | s {l : List Nat} : NoL (.s l)
  | t {ds : List Dt} : ds.length ≤ 100000 → (∀ d ∈ ds, NoL d) → NoL (.t ds)
theorem DtAt.keepT {H H' : Hp} (ht : ∀ a xs, H a = some (.tup xs) → H' a = some (.tup xs)) {k : Nat} {v : V} {d : Dt} (h : DtAt H k v d) (hn : NoL d) : DtAt H' k v d := by
  induction h with
  | i => exact .i
  | s => exact .s
  | n => exact .n
  | b => exact .b
  | t a b c ih =>
    cases hn with
    | t _ hh => exact .t (ht _ _ a) b fun j v d h1 h2 => ih j v d h1 h2 (hh d (List.mem_of_getElem? h2))
  | l a b c ih => cases hn
def Each {α : Type} (R : Addr → α → Prop) (ps : List Addr) (xs : List α) : Prop := ps.length = xs.length ∧ ∀ (i : Nat) (p : Addr) (x : α), ps[i]? = some p → xs[i]? = some x → R p x
theorem Each.imp {α : Type} {R R' : Addr → α → Prop} {ps : List Addr} {xs : List α} (h : Each R ps xs) (f : ∀ p x, p ∈ ps → x ∈ xs → R p x → R' p x) : Each R' ps xs :=
  ⟨h.1, fun i p x h1 h2 => f p x (List.mem_of_getElem? h1) (List.mem_of_getElem? h2) (h.2 i p x h1 h2)⟩
theorem Each.snoc {α : Type} {R : Addr → α → Prop} {ps : List Addr} {xs : List α} {p : Addr} {x : α} (h : Each R ps xs) (hp : R p x) : Each R (ps ++ [p]) (xs ++ [x]) := by
  refine ⟨by rw [List.length_append, List.length_append, h.1]; rfl, fun i q y h1 h2 => ?_⟩
  by_cases hi : i < ps.length
  · rw [List.getElem?_append_left hi] at h1
    rw [List.getElem?_append_left (by rw [← h.1]; exact hi)] at h2
    exact h.2 i q y h1 h2
  · rw [List.getElem?_append_right (by omega)] at h1
    rw [List.getElem?_append_right (by rw [← h.1]; omega)] at h2
    rw [List.mem_singleton.mp (List.mem_of_getElem? h1), List.mem_singleton.mp (List.mem_of_getElem? h2)]
    exact hp
theorem Each.at {α : Type} {R : Addr → α → Prop} {ps : List Addr} {xs : List α} (h : Each R ps xs) {i : Nat} {x : α} (hx : xs[i]? = some x) : ∃ p, ps[i]? = some p ∧ R p x := by
  have hi : i < ps.length := by rw [h.1]; exact (List.getElem?_eq_some_iff.mp hx).1
  exact ⟨_, List.getElem?_eq_getElem hi, h.2 i _ x (List.getElem?_eq_getElem hi) hx⟩
theorem Each.mem {α : Type} {R : Addr → α → Prop} {ps : List Addr} {xs : List α} (h : Each R ps xs) {p : Addr} (hp : p ∈ ps) : ∃ x, x ∈ xs ∧ R p x := by
  obtain ⟨i, hi⟩ := List.getElem?_of_mem hp
  have hl : i < xs.length := by rw [← h.1]; exact (List.getElem?_eq_some_iff.mp hi).1
  exact ⟨_, List.mem_of_getElem? (List.getElem?_eq_getElem hl), h.2 i p _ hi (List.getElem?_eq_getElem hl)⟩
theorem Each.set {α : Type} {R R' : Addr → α → Prop} {ps : List Addr} {xs : List α} {i : Nat} {p : Addr} {x : α} (h : Each R ps xs) (hp : ps[i]? = some p) (hx : R' p x) (hn : ps.Nodup) (f : ∀ q y, q ∈ ps → q ≠ p → R q y → R' q y) : Each R' ps (xs.set i x) := by
  refine ⟨by rw [List.length_set]; exact h.1, fun j q y h1 h2 => ?_⟩
  by_cases e : i = j
  · subst e
    rw [hp] at h1
    obtain rfl := Option.some.inj h1
    have hi : i < xs.length := by rw [← h.1]; exact (List.getElem?_eq_some_iff.mp hp).1
    rw [List.getElem?_set_self hi] at h2
    obtain rfl := Option.some.inj h2
    exact hx
  · rw [List.getElem?_set_ne e] at h2
    refine f q y (List.mem_of_getElem? h1) (fun z => ?_) (h.2 j q y h1 h2)
    subst z
    exact e ((List.getElem?_inj (List.getElem?_eq_some_iff.mp hp).1 hn).mp (hp.trans h1.symm))
def RA.lists (a : RA) : List Addr := a.aR :: a.aW :: a.aG :: a.aE :: a.aC :: a.aN :: a.cs
def RA.dicts (a : RA) : List Addr := a.ws ++ a.gs
def RA.own (a : RA) (r b : Addr) : Prop := b = r ∨ b ∈ a.lists ∨ b ∈ a.dicts
structure RoomsAt (C : Addr) (H : Hp) (r : Addr) (S : RS) (a : RA) : Prop where
  ins : H r = some (.ins C a.dx (flds S.L S.made a))
  hR : H a.aR = some (.lst (a.rs.map V.ref))
  hW : H a.aW = some (.lst (a.ws.map V.ref))
  hG : H a.aG = some (.lst (a.gs.map V.ref))
  hE : H a.aE = some (.lst (intV (nI S.elders)))
  hC : H a.aC = some (.lst (a.cs.map V.ref))
  hN : H a.aN = some (.lst (intV (nI S.went)))
  rR : Each (fun p d => DtAt H 4 (.ref p) d) a.rs S.rows
  rW : Each (fun p l => H p = some (.dK (wK l))) a.ws S.ways
  rG : Each (fun p l => H p = some (.dK (gK l))) a.gs S.gaps
  rC : Each (fun p l => H p = some (.lst (intV (nI l)))) a.cs S.called
  flat : ∀ d ∈ S.rows, NoL d
  ndL : a.lists.Nodup
  ndD : a.dicts.Nodup
section
variable {C : Addr} {H H' : Hp} {r : Addr} {S : RS} {a : RA}
theorem RoomsAt.keep (h : RoomsAt C H r S a) (k : ∀ b o, a.own r b → H b = some o → H' b = some o) (kt : ∀ b xs, H b = some (.tup xs) → H' b = some (.tup xs)) : RoomsAt C H' r S a := by
  have kl : ∀ b o, b ∈ a.lists → H b = some o → H' b = some o := fun b o hb => k b o (.inr (.inl hb))
  have kd : ∀ b o, b ∈ a.dicts → H b = some o → H' b = some o := fun b o hb => k b o (.inr (.inr hb))
  exact ⟨k _ _ (.inl rfl) h.ins, kl _ _ (by simp [RA.lists]) h.hR, kl _ _ (by simp [RA.lists]) h.hW, kl _ _ (by simp [RA.lists]) h.hG, kl _ _ (by simp [RA.lists]) h.hE, kl _ _ (by simp [RA.lists]) h.hC, kl _ _ (by simp [RA.lists]) h.hN,
    h.rR.imp fun p x _ hx e => e.keepT kt (h.flat x hx), h.rW.imp fun p x hp _ e => kd _ _ (List.mem_append_left _ hp) e, h.rG.imp fun p x hp _ e => kd _ _ (List.mem_append_right _ hp) e,
    h.rC.imp fun p x hp _ e => kl _ _ (by simp [RA.lists, hp]) e, h.flat, h.ndL, h.ndD⟩
theorem RoomsAt.same (h : RoomsAt C H r S a) (s : Same H H') : RoomsAt C H' r S a := h.keep (fun _ _ _ e => s _ _ e) (fun _ _ e => s _ _ e)
theorem RoomsAt.there (h : RoomsAt C H r S a) {b : Addr} (hb : a.own r b) : ∃ o, H b = some o := by
  rcases hb with rfl | hb | hb
  · exact ⟨_, h.ins⟩
  · unfold RA.lists at hb
    simp only [List.mem_cons] at hb
    rcases hb with rfl | rfl | rfl | rfl | rfl | rfl | hb
    · exact ⟨_, h.hR⟩
    · exact ⟨_, h.hW⟩
    · exact ⟨_, h.hG⟩
    · exact ⟨_, h.hE⟩
    · exact ⟨_, h.hC⟩
    · exact ⟨_, h.hN⟩
    · obtain ⟨x, _, e⟩ := h.rC.mem hb; exact ⟨_, e⟩
  · rcases List.mem_append.mp hb with hb | hb
    · obtain ⟨x, _, e⟩ := h.rW.mem hb; exact ⟨_, e⟩
    · obtain ⟨x, _, e⟩ := h.rG.mem hb; exact ⟨_, e⟩
theorem RoomsAt.notup (h : RoomsAt C H r S a) {b : Addr} {xs : List V} (e : H b = some (.tup xs)) : ¬ a.own r b := fun hb => by
  rcases hb with rfl | hb | hb
  · rw [h.ins] at e; cases e
  · unfold RA.lists at hb
    simp only [List.mem_cons] at hb
    rcases hb with rfl | rfl | rfl | rfl | rfl | rfl | hb
    · rw [h.hR] at e; cases e
    · rw [h.hW] at e; cases e
    · rw [h.hG] at e; cases e
    · rw [h.hE] at e; cases e
    · rw [h.hC] at e; cases e
    · rw [h.hN] at e; cases e
    · obtain ⟨x, _, e'⟩ := h.rC.mem hb; rw [e'] at e; cases e
  · rcases List.mem_append.mp hb with hb | hb
    · obtain ⟨x, _, e'⟩ := h.rW.mem hb; rw [e'] at e; cases e
    · obtain ⟨x, _, e'⟩ := h.rG.mem hb; rw [e'] at e; cases e
end
end L2
set_option Elab.async false
set_option linter.all false
set_option maxRecDepth 100000
set_option maxHeartbeats 4000000
namespace L2
open PySem PySem.Spec PyProof.Rows
section
variable {C : Addr} {H H' : Hp} {r : Addr} {S : RS} {a : RA}
theorem mem_R : a.aR ∈ a.lists := by simp [RA.lists]
theorem mem_W : a.aW ∈ a.lists := by simp [RA.lists]
theorem mem_G : a.aG ∈ a.lists := by simp [RA.lists]
theorem mem_E : a.aE ∈ a.lists := by simp [RA.lists]
theorem mem_C : a.aC ∈ a.lists := by simp [RA.lists]
theorem mem_N : a.aN ∈ a.lists := by simp [RA.lists]
theorem mem_cs {p : Addr} (h : p ∈ a.cs) : p ∈ a.lists := by simp [RA.lists, h]
theorem mem_ws {p : Addr} (h : p ∈ a.ws) : p ∈ a.dicts := List.mem_append_left _ h
theorem mem_gs {p : Addr} (h : p ∈ a.gs) : p ∈ a.dicts := List.mem_append_right _ h
theorem RoomsAt.isL (h : RoomsAt C H r S a) {b : Addr} (hb : b ∈ a.lists) : ∃ xs, H b = some (.lst xs) := by
  unfold RA.lists at hb
  simp only [List.mem_cons] at hb
  rcases hb with rfl | rfl | rfl | rfl | rfl | rfl | hb
  · exact ⟨_, h.hR⟩
  · exact ⟨_, h.hW⟩
  · exact ⟨_, h.hG⟩
  · exact ⟨_, h.hE⟩
  · exact ⟨_, h.hC⟩
  · exact ⟨_, h.hN⟩
  · obtain ⟨x, _, e⟩ := h.rC.mem hb; exact ⟨_, e⟩
theorem RoomsAt.isD (h : RoomsAt C H r S a) {b : Addr} (hb : b ∈ a.dicts) : ∃ kvs, H b = some (.dK kvs) := by
  rcases List.mem_append.mp hb with hb | hb
  · obtain ⟨x, _, e⟩ := h.rW.mem hb; exact ⟨_, e⟩
  · obtain ⟨x, _, e⟩ := h.rG.mem hb; exact ⟨_, e⟩
theorem RoomsAt.rl (h : RoomsAt C H r S a) {b : Addr} (hb : b ∈ a.lists) : r ≠ b := by obtain ⟨xs, e⟩ := h.isL hb; exact ne_of h.ins e (by intro z; cases z)
theorem RoomsAt.rd (h : RoomsAt C H r S a) {b : Addr} (hb : b ∈ a.dicts) : r ≠ b := by obtain ⟨xs, e⟩ := h.isD hb; exact ne_of h.ins e (by intro z; cases z)
theorem RoomsAt.ld (h : RoomsAt C H r S a) {b c : Addr} (hb : b ∈ a.lists) (hc : c ∈ a.dicts) : b ≠ c := by
  obtain ⟨xs, e⟩ := h.isL hb
  obtain ⟨ys, e'⟩ := h.isD hc
  exact ne_of e e' (by intro z; cases z)
theorem RoomsAt.tl (h : RoomsAt C H r S a) {b c : Addr} {xs : List V} (hb : H b = some (.tup xs)) (hc : c ∈ a.lists) : b ≠ c := fun z => h.notup hb (.inr (.inl (by rw [z]; exact hc)))
theorem RoomsAt.td (h : RoomsAt C H r S a) {b c : Addr} {xs : List V} (hb : H b = some (.tup xs)) (hc : c ∈ a.dicts) : b ≠ c := fun z => h.notup hb (.inr (.inr (by rw [z]; exact hc)))
theorem RoomsAt.tr (h : RoomsAt C H r S a) {b : Addr} {xs : List V} (hb : H b = some (.tup xs)) : b ≠ r := fun z => h.notup hb (.inl z)
theorem RoomsAt.setMade (h : RoomsAt C H r S a) (n : Nat) : RoomsAt C (upd H r (.ins C a.dx (flds S.L n a))) r { S with made := n } a := by
  have kl : ∀ b o, b ∈ a.lists → H b = some o → upd H r (.ins C a.dx (flds S.L n a)) b = some o := fun b o hb e => by rw [upd_ne (h.rl hb).symm]; exact e
  have kd : ∀ b o, b ∈ a.dicts → H b = some o → upd H r (.ins C a.dx (flds S.L n a)) b = some o := fun b o hb e => by rw [upd_ne (h.rd hb).symm]; exact e
  exact ⟨upd_same, kl _ _ mem_R h.hR, kl _ _ mem_W h.hW, kl _ _ mem_G h.hG, kl _ _ mem_E h.hE, kl _ _ mem_C h.hC, kl _ _ mem_N h.hN, h.rR.imp fun p x _ hx e => e.keepT (fun b xs eb => by rw [upd_ne (h.tr eb)]; exact eb) (h.flat x hx),
    h.rW.imp fun p x hp _ e => kd _ _ (mem_ws hp) e, h.rG.imp fun p x hp _ e => kd _ _ (mem_gs hp) e, h.rC.imp fun p x hp _ e => kl _ _ (mem_cs hp) e, h.flat, h.ndL, h.ndD⟩
theorem RoomsAt.listUpd (h : RoomsAt C H r S a) {q : Addr} {o : HO} (hq : q ∈ a.lists) : upd H q o r = some (.ins C a.dx (flds S.L S.made a)) ∧ (∀ b x, b ∈ a.lists → b ≠ q → H b = some x → upd H q o b = some x) ∧ (∀ b x, b ∈ a.dicts → H b = some x → upd H q o b = some x) ∧ ∀ b xs, H b = some (.tup xs) → upd H q o b = some (.tup xs) :=
  ⟨by rw [upd_ne (h.rl hq)]; exact h.ins, fun b x _ n e => by rw [upd_ne n]; exact e, fun b x hb e => by rw [upd_ne (h.ld hq hb).symm]; exact e, fun b xs e => by rw [upd_ne (h.tl e hq)]; exact e⟩
theorem nd7 (nd : a.lists.Nodup) : (a.aR ≠ a.aW ∧ a.aR ≠ a.aG ∧ a.aR ≠ a.aE ∧ a.aR ≠ a.aC ∧ a.aR ≠ a.aN) ∧ (a.aW ≠ a.aG ∧ a.aW ≠ a.aE ∧ a.aW ≠ a.aC ∧ a.aW ≠ a.aN) ∧ (a.aG ≠ a.aE ∧ a.aG ≠ a.aC ∧ a.aG ≠ a.aN) ∧ (a.aE ≠ a.aC ∧ a.aE ≠ a.aN) ∧ a.aC ≠ a.aN ∧ ∀ p ∈ a.cs, p ≠ a.aR ∧ p ≠ a.aW ∧ p ≠ a.aG ∧ p ≠ a.aE ∧ p ≠ a.aC ∧ p ≠ a.aN := by
  unfold RA.lists at nd
  simp only [List.nodup_cons, List.mem_cons, not_or] at nd
  obtain ⟨⟨h1, h2, h3, h4, h5, h6⟩, ⟨g2, g3, g4, g5, g6⟩, ⟨f3, f4, f5, f6⟩, ⟨e4, e5, e6⟩, ⟨d5, d6⟩, c6, -⟩ := nd
  exact ⟨⟨h1, h2, h3, h4, h5⟩, ⟨g2, g3, g4, g5⟩, ⟨f3, f4, f5⟩, ⟨e4, e5⟩, d5, fun p hp => ⟨fun z => h6 (z ▸ hp), fun z => g6 (z ▸ hp), fun z => f6 (z ▸ hp), fun z => e6 (z ▸ hp), fun z => d6 (z ▸ hp), fun z => c6 (z ▸ hp)⟩⟩
theorem RoomsAt.addRow (h : RoomsAt C H r S a) {p : Addr} {d : Dt} (hp : DtAt H 4 (.ref p) d) (hd : NoL d) : RoomsAt C (upd H a.aR (.lst (a.rs.map V.ref ++ [.ref p]))) r { S with rows := S.rows ++ [d] } { a with rs := a.rs ++ [p] } := by
  obtain ⟨h0, kl, kd, kt⟩ := h.listUpd (o := .lst (a.rs.map V.ref ++ [.ref p])) (mem_R (a := a))
  obtain ⟨⟨n1, n2, n3, n4, n5⟩, -, -, -, -, nc⟩ := nd7 h.ndL
  refine ⟨h0, ?_, kl _ _ mem_W n1.symm h.hW, kl _ _ mem_G n2.symm h.hG, kl _ _ mem_E n3.symm h.hE, kl _ _ mem_C n4.symm h.hC, kl _ _ mem_N n5.symm h.hN, (h.rR.imp fun q x _ hx e => e.keepT kt (h.flat x hx)).snoc (hp.keepT kt hd),
    h.rW.imp fun q x hq _ e => kd _ _ (mem_ws hq) e, h.rG.imp fun q x hq _ e => kd _ _ (mem_gs hq) e, h.rC.imp fun q x hq _ e => kl _ _ (mem_cs hq) (nc q hq).1 e, fun x hx => ?_, h.ndL, h.ndD⟩
  · show upd H a.aR _ a.aR = some (.lst ((a.rs ++ [p]).map V.ref))
    rw [upd_same, List.map_append]; rfl
  · rcases List.mem_append.mp hx with hx | hx
    · exact h.flat x hx
    · rw [List.mem_singleton.mp hx]; exact hd
theorem RoomsAt.addWay (h : RoomsAt C H r S a) {p : Addr} {l : List (Int × Nat)} (hp : H p = some (.dK (wK l))) (hn : p ∉ a.dicts) : RoomsAt C (upd H a.aW (.lst (a.ws.map V.ref ++ [.ref p]))) r { S with ways := S.ways ++ [l] } { a with ws := a.ws ++ [p] } := by
  obtain ⟨h0, kl, kd, kt⟩ := h.listUpd (o := .lst (a.ws.map V.ref ++ [.ref p])) (mem_W (a := a))
  obtain ⟨⟨n1, -⟩, ⟨n2, n3, n4, n5⟩, -, -, -, nc⟩ := nd7 h.ndL
  have hpw : upd H a.aW (.lst (a.ws.map V.ref ++ [.ref p])) p = some (.dK (wK l)) := by rw [upd_ne (ne_of hp h.hW (by intro z; cases z))]; exact hp
  refine ⟨h0, kl _ _ mem_R n1 h.hR, ?_, kl _ _ mem_G n2.symm h.hG, kl _ _ mem_E n3.symm h.hE, kl _ _ mem_C n4.symm h.hC, kl _ _ mem_N n5.symm h.hN, h.rR.imp fun q x _ hx e => e.keepT kt (h.flat x hx),
    (h.rW.imp fun q x hq _ e => kd _ _ (mem_ws hq) e).snoc hpw, h.rG.imp fun q x hq _ e => kd _ _ (mem_gs hq) e, h.rC.imp fun q x hq _ e => kl _ _ (mem_cs hq) (nc q hq).2.1 e, h.flat, h.ndL, ?_⟩
  · show upd H a.aW _ a.aW = some (.lst ((a.ws ++ [p]).map V.ref))
    rw [upd_same, List.map_append]; rfl
  · show (a.ws ++ [p] ++ a.gs).Nodup
    rw [List.append_assoc]
    exact (List.perm_middle.nodup_iff).mpr (List.nodup_cons.mpr ⟨hn, h.ndD⟩)
theorem RoomsAt.addGap (h : RoomsAt C H r S a) {p : Addr} {l : List Int} (hp : H p = some (.dK (gK l))) (hn : p ∉ a.dicts) : RoomsAt C (upd H a.aG (.lst (a.gs.map V.ref ++ [.ref p]))) r { S with gaps := S.gaps ++ [l] } { a with gs := a.gs ++ [p] } := by
  obtain ⟨h0, kl, kd, kt⟩ := h.listUpd (o := .lst (a.gs.map V.ref ++ [.ref p])) (mem_G (a := a))
  obtain ⟨⟨-, n1, -⟩, ⟨n2, -⟩, ⟨n3, n4, n5⟩, -, -, nc⟩ := nd7 h.ndL
  have hpw : upd H a.aG (.lst (a.gs.map V.ref ++ [.ref p])) p = some (.dK (gK l)) := by rw [upd_ne (ne_of hp h.hG (by intro z; cases z))]; exact hp
  refine ⟨h0, kl _ _ mem_R n1 h.hR, kl _ _ mem_W n2 h.hW, ?_, kl _ _ mem_E n3.symm h.hE, kl _ _ mem_C n4.symm h.hC, kl _ _ mem_N n5.symm h.hN, h.rR.imp fun q x _ hx e => e.keepT kt (h.flat x hx),
    h.rW.imp fun q x hq _ e => kd _ _ (mem_ws hq) e, (h.rG.imp fun q x hq _ e => kd _ _ (mem_gs hq) e).snoc hpw, h.rC.imp fun q x hq _ e => kl _ _ (mem_cs hq) (nc q hq).2.2.1 e, h.flat, h.ndL, ?_⟩
  · show upd H a.aG _ a.aG = some (.lst ((a.gs ++ [p]).map V.ref))
    rw [upd_same, List.map_append]; rfl
  · show (a.ws ++ (a.gs ++ [p])).Nodup
    rw [← List.append_assoc]
    refine List.nodup_append.mpr ⟨h.ndD, by simp, fun x hx y hy z => ?_⟩
    rw [List.mem_singleton.mp hy] at z
    exact hn (z ▸ hx)
theorem RoomsAt.setElders (h : RoomsAt C H r S a) (es : List Nat) : RoomsAt C (upd H a.aE (.lst (intV (nI es)))) r { S with elders := es } a := by
  obtain ⟨h0, kl, kd, kt⟩ := h.listUpd (o := .lst (intV (nI es))) (mem_E (a := a))
  obtain ⟨⟨-, -, n1, -⟩, ⟨-, n2, -⟩, ⟨n3, -⟩, ⟨n4, n5⟩, -, nc⟩ := nd7 h.ndL
  exact ⟨h0, kl _ _ mem_R n1 h.hR, kl _ _ mem_W n2 h.hW, kl _ _ mem_G n3 h.hG, upd_same, kl _ _ mem_C n4.symm h.hC, kl _ _ mem_N n5.symm h.hN, h.rR.imp fun q x _ hx e => e.keepT kt (h.flat x hx),
    h.rW.imp fun q x hq _ e => kd _ _ (mem_ws hq) e, h.rG.imp fun q x hq _ e => kd _ _ (mem_gs hq) e, h.rC.imp fun q x hq _ e => kl _ _ (mem_cs hq) (nc q hq).2.2.2.1 e, h.flat, h.ndL, h.ndD⟩
theorem RoomsAt.setWent (h : RoomsAt C H r S a) (es : List Nat) : RoomsAt C (upd H a.aN (.lst (intV (nI es)))) r { S with went := es } a := by
  obtain ⟨h0, kl, kd, kt⟩ := h.listUpd (o := .lst (intV (nI es))) (mem_N (a := a))
  obtain ⟨⟨-, -, -, -, n1⟩, ⟨-, -, -, n2⟩, ⟨-, -, n3⟩, ⟨-, n4⟩, n5, nc⟩ := nd7 h.ndL
  exact ⟨h0, kl _ _ mem_R n1 h.hR, kl _ _ mem_W n2 h.hW, kl _ _ mem_G n3 h.hG, kl _ _ mem_E n4 h.hE, kl _ _ mem_C n5 h.hC, upd_same, h.rR.imp fun q x _ hx e => e.keepT kt (h.flat x hx),
    h.rW.imp fun q x hq _ e => kd _ _ (mem_ws hq) e, h.rG.imp fun q x hq _ e => kd _ _ (mem_gs hq) e, h.rC.imp fun q x hq _ e => kl _ _ (mem_cs hq) (nc q hq).2.2.2.2.2 e, h.flat, h.ndL, h.ndD⟩
theorem RoomsAt.addCalled (h : RoomsAt C H r S a) {p : Addr} {l : List Nat} (hp : H p = some (.lst (intV (nI l)))) (hn : p ∉ a.lists) : RoomsAt C (upd H a.aC (.lst (a.cs.map V.ref ++ [.ref p]))) r { S with called := S.called ++ [l] } { a with cs := a.cs ++ [p] } := by
  obtain ⟨h0, kl, kd, kt⟩ := h.listUpd (o := .lst (a.cs.map V.ref ++ [.ref p])) (mem_C (a := a))
  obtain ⟨⟨-, -, -, n1, -⟩, ⟨-, -, n2, -⟩, ⟨-, n3, -⟩, ⟨n4, -⟩, n5, nc⟩ := nd7 h.ndL
  have npc : p ≠ a.aC := fun z => hn (by rw [z]; exact mem_C)
  have hpw : upd H a.aC (.lst (a.cs.map V.ref ++ [.ref p])) p = some (.lst (intV (nI l))) := by rw [upd_ne npc]; exact hp
  refine ⟨h0, kl _ _ mem_R n1 h.hR, kl _ _ mem_W n2 h.hW, kl _ _ mem_G n3 h.hG, kl _ _ mem_E n4 h.hE, ?_, kl _ _ mem_N n5.symm h.hN, h.rR.imp fun q x _ hx e => e.keepT kt (h.flat x hx),
    h.rW.imp fun q x hq _ e => kd _ _ (mem_ws hq) e, h.rG.imp fun q x hq _ e => kd _ _ (mem_gs hq) e, (h.rC.imp fun q x hq _ e => kl _ _ (mem_cs hq) (nc q hq).2.2.2.2.1 e).snoc hpw, h.flat, ?_, h.ndD⟩
  · show upd H a.aC _ a.aC = some (.lst ((a.cs ++ [p]).map V.ref))
    rw [upd_same, List.map_append]; rfl
  · show (a.lists ++ [p]).Nodup
    refine List.nodup_append.mpr ⟨h.ndL, by simp, fun x hx y hy z => ?_⟩
    rw [List.mem_singleton.mp hy] at z
    exact hn (z ▸ hx)
theorem RoomsAt.setCalled (h : RoomsAt C H r S a) {i : Nat} {p : Addr} (hp : a.cs[i]? = some p) (l : List Nat) : RoomsAt C (upd H p (.lst (intV (nI l)))) r { S with called := S.called.set i l } a := by
  have hm := List.mem_of_getElem? hp
  obtain ⟨h0, kl, kd, kt⟩ := h.listUpd (o := .lst (intV (nI l))) (mem_cs hm)
  obtain ⟨-, -, -, -, -, nc⟩ := nd7 h.ndL
  obtain ⟨n1, n2, n3, n4, n5, n6⟩ := nc p hm
  have ncs : a.cs.Nodup := by
    have := h.ndL
    unfold RA.lists at this
    simp only [List.nodup_cons] at this
    exact this.2.2.2.2.2.2
  exact ⟨h0, kl _ _ mem_R n1.symm h.hR, kl _ _ mem_W n2.symm h.hW, kl _ _ mem_G n3.symm h.hG, kl _ _ mem_E n4.symm h.hE, kl _ _ mem_C n5.symm h.hC, kl _ _ mem_N n6.symm h.hN, h.rR.imp fun q x _ hx e => e.keepT kt (h.flat x hx),
    h.rW.imp fun q x hq _ e => kd _ _ (mem_ws hq) e, h.rG.imp fun q x hq _ e => kd _ _ (mem_gs hq) e, h.rC.set hp upd_same ncs fun q y hq n e => kl _ _ (mem_cs hq) n e, h.flat, h.ndL, h.ndD⟩
theorem RoomsAt.dictUpd (h : RoomsAt C H r S a) {q : Addr} {o : HO} (hq : q ∈ a.dicts) : upd H q o r = some (.ins C a.dx (flds S.L S.made a)) ∧ (∀ b x, b ∈ a.dicts → b ≠ q → H b = some x → upd H q o b = some x) ∧ (∀ b x, b ∈ a.lists → H b = some x → upd H q o b = some x) ∧ ∀ b xs, H b = some (.tup xs) → upd H q o b = some (.tup xs) :=
  ⟨by rw [upd_ne (h.rd hq)]; exact h.ins, fun b x _ n e => by rw [upd_ne n]; exact e, fun b x hb e => by rw [upd_ne (h.ld hb hq)]; exact e, fun b xs e => by rw [upd_ne (h.td e hq)]; exact e⟩
theorem RoomsAt.setWay (h : RoomsAt C H r S a) {i : Nat} {p : Addr} (hp : a.ws[i]? = some p) (l : List (Int × Nat)) : RoomsAt C (upd H p (.dK (wK l))) r { S with ways := S.ways.set i l } a := by
  have hm := List.mem_of_getElem? hp
  obtain ⟨h0, kd, kl, kt⟩ := h.dictUpd (o := .dK (wK l)) (mem_ws hm)
  have nd := List.nodup_append.mp h.ndD
  exact ⟨h0, kl _ _ mem_R h.hR, kl _ _ mem_W h.hW, kl _ _ mem_G h.hG, kl _ _ mem_E h.hE, kl _ _ mem_C h.hC, kl _ _ mem_N h.hN, h.rR.imp fun q x _ hx e => e.keepT kt (h.flat x hx),
    h.rW.set hp upd_same nd.1 fun q y hq n e => kd _ _ (mem_ws hq) n e, h.rG.imp fun q x hq _ e => kd _ _ (mem_gs hq) (fun z => nd.2.2 p hm q hq z.symm) e, h.rC.imp fun q x hq _ e => kl _ _ (mem_cs hq) e, h.flat, h.ndL, h.ndD⟩
theorem RoomsAt.setGap (h : RoomsAt C H r S a) {i : Nat} {p : Addr} (hp : a.gs[i]? = some p) (l : List Int) : RoomsAt C (upd H p (.dK (gK l))) r { S with gaps := S.gaps.set i l } a := by
  have hm := List.mem_of_getElem? hp
  obtain ⟨h0, kd, kl, kt⟩ := h.dictUpd (o := .dK (gK l)) (mem_gs hm)
  have nd := List.nodup_append.mp h.ndD
  exact ⟨h0, kl _ _ mem_R h.hR, kl _ _ mem_W h.hW, kl _ _ mem_G h.hG, kl _ _ mem_E h.hE, kl _ _ mem_C h.hC, kl _ _ mem_N h.hN, h.rR.imp fun q x _ hx e => e.keepT kt (h.flat x hx),
    h.rW.imp fun q x hq _ e => kd _ _ (mem_ws hq) (fun z => nd.2.2 q hq p hm z) e, h.rG.set hp upd_same nd.2.1 fun q y hq n e => kd _ _ (mem_gs hq) n e, h.rC.imp fun q x hq _ e => kl _ _ (mem_cs hq) e, h.flat, h.ndL, h.ndD⟩
end
def RS.setW (S : RS) (i : Nat) (l : List (Int × Nat)) : RS := { S with ways := S.ways.set i l }
def RS.setG (S : RS) (i : Nat) (l : List Int) : RS := { S with gaps := S.gaps.set i l }
def RS.way (S : RS) (c : Nat) : List (Int × Nat) := S.ways.getD c []
def RS.gap (S : RS) (c : Nat) : List Int := S.gaps.getD c []
def RS.by (S : RS) (c : Nat) (z : Int) : Option Nat := getW (S.way c) z
def RS.putWay (S : RS) (c : Nat) (z : Int) (d : Nat) : RS := S.setW c (putW (S.way c) z d)
def RS.noGap (S : RS) (c : Nat) (z : Int) : RS := S.setG c ((S.gap c).filter fun x => decide (x ≠ z))
def RS.keep (S : RS) (c : Nat) (z : Int) (d : Nat) : RS := (((S.putWay c z d).putWay d (-z) c).noGap c z).noGap d (-z)
def rowNew (c : Nat) (z : Int) (n : Nat) : Dt := .t [.s [110, 101, 119], .i c, .i z, .i n]
def RS.grown (S : RS) (c : Nat) (z : Int) (gaps : List Int) : RS := { S with made := S.made + 1, rows := S.rows ++ [rowNew c z S.made], ways := S.ways ++ [[]], gaps := S.gaps ++ [gaps], elders := S.elders ++ [S.made], called := S.called ++ [[S.made]] }
def RS.make (S : RS) (c : Nat) (z : Int) (gaps : List Int) : RS := (S.grown c z gaps).keep c z S.made
def RS.new (L : Nat) (gaps : List Int) : RS := ⟨L, 1, [], [[]], [gaps], [0], [[0]], []⟩
structure RS.Wf (S : RS) : Prop where
  w : S.ways.length = S.made
  g : S.gaps.length = S.made
  e : S.elders.length = S.made
  c : S.called.length = S.made
end L2
set_option Elab.async false
set_option linter.all false
set_option maxRecDepth 100000
set_option maxHeartbeats 4000000
namespace L2
open PySem PySem.Spec PyProof.Rows
section
variable {X : Cx} {e : Expr} {f : Str} {ta : TE} {pos : Pos}
end
theorem comp_make {α : Type} {J : It} {H : Hp} {fv : St} {te : TE} {Q : VK} (n : Nat) (xs : Nat → V) (R : Hp → V → Nat → Prop) (hR : ∀ H1 H2 v i, Same H1 H2 → R H1 v i → R H2 v i) (hfit : n ≤ sizeLine)
    (hgo : ∀ (i : Nat) H2, Same H H2 → i < n → J.go i H2) (hy : ∀ (i : Nat) (x : V) (H2 H3 : Hp), Same H H2 → i < n → J.yld i H2 x H3 → H3 = H2 ∧ x = xs i) (hst : ∀ H2, Same H H2 → J.stop n H2)
    (he : ∀ (i : Nat) (H2 : Hp) (Rr : VK), i < n → Same H H2 → (∀ v H3, Same H2 H3 → R H3 v i → Rr v H3) → te (some (xs i) :: fv) H2 Rr)
    (hQ : ∀ D H2 ys, Same H H2 → H2 D = none → ys.length = n → (∀ (i : Nat) (v : V), ys[i]? = some v → R H2 v i) → Q (.ref D) (upd H2 D (.lst ys))) : CompGo te fv Q J H := by
  refine ⟨fun i m ys H2 => m = n - i ∧ i ≤ n ∧ ys.length = i ∧ Same H H2 ∧ ∀ (j : Nat) (v : V), ys[j]? = some v → R H2 v j, ⟨n, by simp, Nat.zero_le _, rfl, fun _ _ e => e, fun j v h => by simp at h⟩, ?_⟩
  rintro i m ys H2 ⟨rfl, hi, hl, s2, hr⟩
  by_cases hlt : i < n
  · refine .inr ⟨hgo i H2 s2 hlt, by omega, fun x H3 hyl => ?_⟩
    obtain ⟨rfl, rfl⟩ := hy i x H2 H3 s2 hlt hyl
    refine he i _ _ hlt s2 fun v H4 s4 hv => ⟨n - (i + 1), by omega, rfl, hlt, by rw [List.length_append, hl]; rfl, s2.trans s4, fun j w hw => ?_⟩
    by_cases hj : j < ys.length
    · rw [List.getElem?_append_left hj] at hw
      exact hR _ _ _ _ s4 (hr j w hw)
    · rw [List.getElem?_append_right (by omega)] at hw
      have ej : j - ys.length = 0 := by
        have := (List.getElem?_eq_some_iff.mp hw).1
        rw [List.length_singleton] at this
        omega
      rw [ej] at hw
      have : j = i := by omega
      subst this
      rw [← Option.some.inj hw]
      exact hv
  · have e : i = n := by omega
    subst e
    exact .inl ⟨hst H2 s2, by omega, fun D hD => hQ D H2 ys s2 hD hl hr⟩
end L2
namespace L2
open PySem PySem.Spec PyProof.Rows
theorem refs_of {P : Nat → Addr → Prop} : ∀ (ys : List V) (k : Nat), (∀ (i : Nat) (v : V), ys[i]? = some v → ∃ p, v = .ref p ∧ P (k + i) p) → ∃ ps : List Addr, ys = ps.map V.ref ∧ ∀ (i : Nat) (p : Addr), ps[i]? = some p → P (k + i) p
  | [], _, _ => ⟨[], rfl, fun i p h => by simp at h⟩
  | v :: ys, k, h => by
    obtain ⟨p, rfl, hp⟩ := h 0 v rfl
    obtain ⟨ps, rfl, hps⟩ := refs_of (P := P) ys (k + 1) fun i w hw => by
      obtain ⟨q, e, hq⟩ := h (i + 1) w (by simpa using hw)
      exact ⟨q, e, by rw [show k + 1 + i = k + (i + 1) by omega]; exact hq⟩
    refine ⟨p :: ps, rfl, fun i q hq => ?_⟩
    cases i with
    | zero => obtain rfl : p = q := by simpa using hq
              exact hp
    | succ i =>
      have := hps i q (by simpa using hq)
      rw [show k + 1 + i = k + (i + 1) by omega] at this
      exact this
theorem putF_le {f : Str} {v : V} {n : Nat} : ∀ {fs : List (Str × V)}, fs.length ≤ n → (putF f v fs).length ≤ n + 1
  | [], h => by show 1 ≤ n + 1; omega
  | (g, x) :: r, h => by
    show (if g = f then (g, v) :: r else (g, x) :: putF f v r).length ≤ n + 1
    rw [List.length_cons] at h
    split
    · rw [List.length_cons]; omega
    · have := putF_le (f := f) (v := v) (n := n - 1) (fs := r) (by omega)
      rw [List.length_cons]; omega
theorem kit_int_tuple (K : PySem.W.Frag) : PySem.W.kitOne K (.type "int") (.type "tuple") = some false := by first | rfl | kernel_rfl
theorem kit_int_list (K : PySem.W.Frag) : PySem.W.kitOne K (.type "int") (.type "list") = some false := by first | rfl | kernel_rfl
theorem kit_int_dict (K : PySem.W.Frag) : PySem.W.kitOne K (.type "int") (.type "dict") = some false := by first | rfl | kernel_rfl
theorem kit_str_tuple (K : PySem.W.Frag) : PySem.W.kitOne K (.type "str") (.type "tuple") = some false := by first | rfl | kernel_rfl
theorem kit_str_list (K : PySem.W.Frag) : PySem.W.kitOne K (.type "str") (.type "list") = some false := by first | rfl | kernel_rfl
theorem kit_str_dict (K : PySem.W.Frag) : PySem.W.kitOne K (.type "str") (.type "dict") = some false := by first | rfl | kernel_rfl
end L2
set_option Elab.async false
set_option linter.all false
set_option maxRecDepth 100000
set_option maxHeartbeats 4000000
namespace L2
open PySem PySem.Spec PyProof.Rows
theorem pairs_rel {P : Program} {w : World} : ∀ {es : List DictEntry} {vs : List (Key × Value)} {kvs : List (Key × V)}, Pairs (mixKind P w) es vs → KV kvs vs → Vals (kvs.map fun kv => kV kv.1) (es.map (·.key))
  | [], _, _, .nil, r => by cases r; exact .nil
  | e :: es, _, _, .cons h1 h2 h3, r => by
    cases r with
    | cons a b =>
      rw [List.map_cons, List.map_cons]
      refine .cons ?_ (pairs_rel h3 b)
      rw [a.1]
      exact mix_rel h1
theorem pairs_len {P : Program} {w : World} : ∀ {es : List DictEntry} {vs : List (Key × Value)}, Pairs (mixKind P w) es vs → es.length = vs.length
  | _, _, .nil => rfl
  | _, _, .cons _ _ h => by rw [List.length_cons, List.length_cons, pairs_len h]
section
variable {X : Cx}
def rListK : List V → Hp → VK → Prop := fun xs H Q => ∃ (d : Addr) (kvs : List (Key × V)), xs = [.ref d] ∧ H d = some (.dK kvs) ∧ ∀ l, H l = none → Q (.ref l) (upd H l (.lst (kvs.map fun kv => kV kv.1)))
theorem call_list_dK (hc : X.calm = true) : CallR X (.type "list") rListK := by
  intro pins s σ H xs us Q I r h
  obtain ⟨d, kvs, rfl, hd, q⟩ := h
  obtain ⟨u, rfl, rx⟩ := vals1 r
  cases rx
  obtain ⟨hz, hsm, vs, rel, o, es, ep, ho, hcx, hdat, hk, hp, hn⟩ := dk_of I.hok hd
  have hlen : kvs.length = vs.length := rel.length
  have hel := pairs_len hp
  have hsz : es.size = kvs.length := by rw [← Array.length_toList, hel, hlen]
  refine Dk.call_list (I.ok.hd hc) hsm ⟨o, ho, hcx, hdat⟩ (by omega) fun g1 tk acc' c' hk' hS' hacc => ?_
  have ea : acc'.toList = es.toList.map (·.key) := by
    refine List.ext_getElem? fun i => ?_
    rw [Array.getElem?_toList, List.getElem?_map, Array.getElem?_toList]
    cases hv : acc'[i]? with
    | none =>
      have hi : es.size ≤ i := by
        have h1 : acc'.size ≤ i := Array.getElem?_eq_none_iff.mp hv
        rw [hacc.1] at h1
        exact h1
      rw [Array.getElem?_eq_none hi]; rfl
    | some v =>
      obtain ⟨en, e1, rfl⟩ := hacc.2 i v hv
      rw [e1]; rfl
  have eb : acc' = (es.toList.map (·.key)).toArray := by rw [← ea]
  rw [eb] at hS'
  have hv := pairs_rel hp rel
  exact ⟨.ref s.heap.objs.size, _, I.laid (t' := tk) hk' (Nat.le_refl _) (show ObjOk X.prog X.w _ g1 _ (.lst (kvs.map fun kv => kV kv.1)) from ⟨by rw [List.length_map]; exact hz, _, c', hv, hS'⟩), rfl, q _ (I.hok.fresh (Nat.le_refl _))⟩
end
end L2
set_option Elab.async false
set_option linter.all false
set_option maxRecDepth 100000
set_option maxHeartbeats 4000000
namespace L2
open PySem PySem.Spec PyProof.Rows
section
variable {C : Addr} {H H' : Hp} {r : Addr} {S : RS} {a : RA}
theorem RoomsAt.newWay (h : RoomsAt C H r S a) {i : Nat} (hi : i < a.ws.length) {q : Addr} {l : List (Int × Nat)} (hq : H q = some (.dK (wK l))) (hn : q ∉ a.dicts) : RoomsAt C (upd H a.aW (.lst ((a.ws.map V.ref).set i (.ref q)))) r { S with ways := S.ways.set i l } { a with ws := a.ws.set i q } := by
  obtain ⟨h0, kl, kd, kt⟩ := h.listUpd (o := .lst ((a.ws.map V.ref).set i (.ref q))) (mem_W (a := a))
  obtain ⟨⟨n1, -⟩, ⟨n2, n3, n4, n5⟩, -, -, -, nc⟩ := nd7 h.ndL
  have hqw : upd H a.aW (.lst ((a.ws.map V.ref).set i (.ref q))) q = some (.dK (wK l)) := by rw [upd_ne (ne_of hq h.hW (by intro z; cases z))]; exact hq
  have nd := List.nodup_append.mp h.ndD
  refine ⟨h0, kl _ _ mem_R n1 h.hR, ?_, kl _ _ mem_G n2.symm h.hG, kl _ _ mem_E n3.symm h.hE, kl _ _ mem_C n4.symm h.hC, kl _ _ mem_N n5.symm h.hN, h.rR.imp fun q x _ hx e => e.keepT kt (h.flat x hx),
    ?_, h.rG.imp fun q x hq _ e => kd _ _ (mem_gs hq) e, h.rC.imp fun q x hq _ e => kl _ _ (mem_cs hq) (nc q hq).2.1 e, h.flat, h.ndL, ?_⟩
  · show upd H a.aW _ a.aW = some (.lst ((a.ws.set i q).map V.ref))
    rw [upd_same, List.map_set]
  · refine ⟨by show (a.ws.set i q).length = (S.ways.set i l).length; rw [List.length_set, List.length_set]; exact h.rW.1, fun j p x e1 e2 => ?_⟩
    have e1' : (a.ws.set i q)[j]? = some p := e1
    have e2' : (S.ways.set i l)[j]? = some x := e2
    by_cases z : i = j
    · subst z
      rw [List.getElem?_set_self hi] at e1'
      rw [List.getElem?_set_self (by rw [← h.rW.1]; exact hi)] at e2'
      obtain rfl := Option.some.inj e1'
      obtain rfl := Option.some.inj e2'
      exact hqw
    · rw [List.getElem?_set_ne z] at e1' e2'
      exact kd _ _ (mem_ws (List.mem_of_getElem? e1')) (h.rW.2 j p x e1' e2')
  · show (a.ws.set i q ++ a.gs).Nodup
    have qw : q ∉ a.ws := fun z => hn (List.mem_append_left _ z)
    have qg : q ∉ a.gs := fun z => hn (List.mem_append_right _ z)
    refine List.nodup_append.mpr ⟨?_, nd.2.1, fun x hx y hy z => ?_⟩
    · have : ∀ (l : List Addr) (i : Nat), l.Nodup → q ∉ l → (l.set i q).Nodup := by
        intro l
        induction l with
        | nil => intro i _ _; simp
        | cons x l ih =>
          intro i h1 h2
          obtain ⟨h3, h4⟩ := List.nodup_cons.mp h1
          have h5 : q ≠ x := fun z => h2 (by rw [z]; exact List.mem_cons_self)
          have h6 : q ∉ l := fun z => h2 (List.mem_cons_of_mem _ z)
          cases i with
          | zero => exact List.nodup_cons.mpr ⟨h6, h4⟩
          | succ i =>
            refine List.nodup_cons.mpr ⟨fun z => ?_, ih i h4 h6⟩
            rcases List.mem_or_eq_of_mem_set z with z | z
            · exact h3 z
            · exact h5 z.symm
      exact this a.ws i nd.1 qw
    · rcases List.mem_or_eq_of_mem_set hx with hx | hx
      · exact nd.2.2 x hx y hy z
      · rw [← hx, z] at qg; exact qg hy
end
theorem wK_drop (l : List (Int × Nat)) (s : Int) : dropK (wK l) (Sum.inl s) = wK (l.filter fun p => decide (p.1 ≠ s)) := by
  unfold dropK wK
  rw [List.filter_map]
  congr 1
  refine List.filter_congr fun x _ => ?_
  show decide ((Sum.inl x.1 : Key) ≠ Sum.inl s) = decide (x.1 ≠ s)
  rw [Bool.eq_iff_iff, decide_eq_true_iff, decide_eq_true_iff]
  exact ⟨fun h z => h (congrArg Sum.inl z), fun h z => h (Sum.inl.inj z)⟩
theorem getW_drop (l : List (Int × Nat)) (s t : Int) : getW (l.filter fun p => decide (p.1 ≠ s)) t = if t = s then none else getW l t := by
  induction l with
  | nil => unfold getW; split <;> rfl
  | cons p l ih =>
    have hc : ∀ (q : Int × Nat) (m : List (Int × Nat)), getW (q :: m) t = if q.1 = t then some q.2 else getW m t := fun q m => by
      unfold getW
      by_cases h : q.1 = t
      · rw [List.find?_cons_of_pos (by exact decide_eq_true h), if_pos h]; rfl
      · rw [List.find?_cons_of_neg (by simpa using h), if_neg h]
    by_cases h : p.1 = s
    · rw [List.filter_cons_of_neg (by simpa using h), ih, hc]
      by_cases e : t = s
      · rw [if_pos e, if_pos e]
      · rw [if_neg e, if_neg e, if_neg (fun z => e (z.symm.trans h))]
    · rw [List.filter_cons_of_pos (by simpa using h), hc, hc, ih]
      by_cases e : p.1 = t
      · rw [if_pos e, if_pos e, if_neg (fun z => h (e.trans z))]
      · rw [if_neg e, if_neg e]
abbrev Way := Nat × Int × Nat
def RS.eld (S : RS) (c : Nat) : Nat := S.elders.getD c 0
def RS.cal (S : RS) (c : Nat) : List Nat := S.called.getD c []
def rowMeet (c : Nat) (z : Int) (x y : Nat) : Dt := .t [.s [109, 101, 101, 116], .i c, .i z, .i x, .i y]
def RS.joined (S : RS) (c : Nat) (z : Int) (x y : Nat) : RS :=
  { S with rows := S.rows ++ [rowMeet c z x y], went := S.went ++ [y], elders := (S.cal y).foldl (fun es n => es.set n x) S.elders, called := S.called.set x (S.cal x ++ S.cal y) }
def RS.dropWay (S : RS) (c : Nat) (z : Int) : RS := S.setW c ((S.way c).filter fun p => decide (p.1 ≠ z))
def offStep (c : Nat) (st : RS × List Way) (p : Int × Nat) : RS × List Way := (if p.2 ≠ c then st.1.dropWay p.2 (-p.1) else st.1, st.2 ++ [(c, p.1, p.2)])
def RS.putOff (S : RS) (c : Nat) (pend : List Way) : RS × List Way := (S.way c).foldl (offStep c) (S.setW c [], pend)
def RS.meet (S : RS) (c : Nat) (z : Int) (x y : Nat) (pend : List Way) : RS × List Way := (S.joined c z (min x y) (max x y)).putOff (max x y) pend
def RS.takeIn (S : RS) (pend : List Way) (w : Way) : RS × List Way :=
  if (S.by (S.eld w.1) w.2.1).getD (S.eld w.2.2) ≠ S.eld w.2.2 then S.meet (S.eld w.1) w.2.1 ((S.by (S.eld w.1) w.2.1).getD (S.eld w.2.2)) (S.eld w.2.2) pend
  else if (S.by (S.eld w.2.2) (-w.2.1)).getD (S.eld w.1) ≠ S.eld w.1 then S.meet (S.eld w.2.2) (-w.2.1) ((S.by (S.eld w.2.2) (-w.2.1)).getD (S.eld w.1)) (S.eld w.1) pend
  else (S.keep (S.eld w.1) w.2.1 (S.eld w.2.2), pend)
structure OffOk (S : RS) (c : Nat) : Prop where
  nd : ((S.way c).map (·.1)).Nodup
  lt : ∀ q ∈ S.way c, q.2 < S.made
  bk : ∀ q ∈ S.way c, q.2 ≠ c → (S.by q.2 (-q.1)).isSome = true
theorem way_setW {S : RS} {c c' : Nat} {l : List (Int × Nat)} (hc : c < S.ways.length) : (S.setW c l).way c' = if c' = c then l else S.way c' := by
  unfold RS.setW RS.way
  show (S.ways.set c l).getD c' [] = _
  rw [List.getD_eq_getElem?_getD, List.getD_eq_getElem?_getD]
  by_cases h : c = c'
  · subst h; rw [List.getElem?_set_self hc, if_pos rfl]; rfl
  · rw [List.getElem?_set_ne h, if_neg (Ne.symm h)]
theorem by_putWay {S : RS} {c c' d : Nat} {z z' : Int} (hc : c < S.ways.length) : (S.putWay c z d).by c' z' = if c' = c ∧ z' = z then some d else S.by c' z' := by
  unfold RS.putWay RS.by
  rw [way_setW hc]
  by_cases h : c' = c
  · subst h
    rw [if_pos rfl, getW_put]
    by_cases hz : z' = z
    · rw [if_pos hz, if_pos ⟨rfl, hz⟩]
    · rw [if_neg hz, if_neg (fun q => hz q.2)]
  · rw [if_neg h, if_neg (fun q => h q.1)]
theorem by_dropWay {S : RS} {c c' : Nat} {z z' : Int} (hc : c < S.ways.length) : (S.dropWay c z).by c' z' = if c' = c ∧ z' = z then none else S.by c' z' := by
  unfold RS.dropWay RS.by
  rw [way_setW hc]
  by_cases h : c' = c
  · subst h
    rw [if_pos rfl, getW_drop]
    by_cases hz : z' = z
    · rw [if_pos hz, if_pos ⟨rfl, hz⟩]
    · rw [if_neg hz, if_neg (fun q => hz q.2)]
  · rw [if_neg h, if_neg (fun q => h q.1)]
theorem by_setW {S : RS} {c c' : Nat} {l : List (Int × Nat)} {z : Int} (hc : c < S.ways.length) : (S.setW c l).by c' z = if c' = c then getW l z else S.by c' z := by
  unfold RS.by
  rw [way_setW hc]
  split <;> rfl
def offs (c : Nat) (S : RS) (pend : List Way) (ps : List (Int × Nat)) : RS × List Way := ps.foldl (offStep c) (S.setW c [], pend)
theorem offs_snoc (c : Nat) (S : RS) (pend : List Way) (ps : List (Int × Nat)) (p : Int × Nat) : offs c S pend (ps ++ [p]) = offStep c (offs c S pend ps) p := by unfold offs; rw [List.foldl_append]; rfl
theorem snoc_ind {α : Type} {P : List α → Prop} (h0 : P []) (h1 : ∀ l x, P l → P (l ++ [x])) : ∀ l, P l := fun l => by
  have : ∀ n (l : List α), l.length = n → P l := by
    intro n
    induction n with
    | zero => intro l e; rw [List.eq_nil_of_length_eq_zero e]; exact h0
    | succ n ih =>
      intro l e
      have hne : l ≠ [] := fun z => by rw [z] at e; cases e
      rw [← List.dropLast_concat_getLast hne]
      exact h1 _ _ (ih _ (by rw [List.length_dropLast]; omega))
  exact this _ l rfl
theorem offs_pend (c : Nat) (S : RS) (pend : List Way) : ∀ ps : List (Int × Nat), (offs c S pend ps).2 = pend ++ ps.map fun p => (c, p.1, p.2) := by
  refine snoc_ind (by simp [offs]) fun ps p ih => ?_
  rw [offs_snoc]
  show (offs c S pend ps).2 ++ _ = _
  rw [ih, List.map_append, List.append_assoc]; rfl
theorem offs_rest (c : Nat) (S : RS) (pend : List Way) : ∀ ps : List (Int × Nat), (offs c S pend ps).1.ways.length = S.ways.length ∧ (offs c S pend ps).1 = { S with ways := (offs c S pend ps).1.ways } := by
  refine snoc_ind ⟨by simp [offs, RS.setW], rfl⟩ fun ps p ih => ?_
  rw [offs_snoc]
  unfold offStep
  by_cases h : p.2 ≠ c
  · simp only [h, if_true, not_false_eq_true, ne_eq]
    refine ⟨?_, ?_⟩
    · show (List.set _ _ _).length = _
      rw [List.length_set]; exact ih.1
    · unfold RS.dropWay RS.setW
      rw [ih.2]
  · simp only [h, if_false]
    exact ih
theorem offs_by {c : Nat} {S : RS} {pend : List Way} (hc : c < S.ways.length) : ∀ ps : List (Int × Nat), (∀ q ∈ ps, q.2 < S.ways.length) → ∀ d z, (offs c S pend ps).1.by d z = if d = c ∨ ∃ q ∈ ps, q.2 = d ∧ z = -q.1 then none else S.by d z := by
  refine snoc_ind (fun _ d z => ?_) fun ps p ih hl d z => ?_
  · show (S.setW c []).by d z = _
    rw [by_setW hc]
    by_cases h : d = c
    · rw [if_pos h, if_pos (.inl h)]; rfl
    · rw [if_neg h, if_neg (by rintro (q | ⟨q, hq, _⟩); exact h q; cases hq)]
  · have ih' := ih (fun q hq => hl q (List.mem_append_left _ hq)) d z
    have hp := hl p (List.mem_append_right _ List.mem_cons_self)
    rw [offs_snoc]
    unfold offStep
    by_cases h : p.2 ≠ c
    · simp only [h, if_true, not_false_eq_true, ne_eq]
      rw [by_dropWay (by rw [(offs_rest c S pend ps).1]; exact hp), ih']
      by_cases e : d = p.2 ∧ z = -p.1
      · rw [if_pos e, if_pos (.inr ⟨p, List.mem_append_right _ List.mem_cons_self, e.1.symm, e.2⟩)]
      · rw [if_neg e]
        by_cases e2 : d = c ∨ ∃ q ∈ ps, q.2 = d ∧ z = -q.1
        · rw [if_pos e2, if_pos (e2.imp id fun ⟨q, hq, r⟩ => ⟨q, List.mem_append_left _ hq, r⟩)]
        · rw [if_neg e2, if_neg]
          rintro (q | ⟨q, hq, r⟩)
          · exact e2 (.inl q)
          · rcases List.mem_append.mp hq with hq | hq
            · exact e2 (.inr ⟨q, hq, r⟩)
            · rw [List.mem_singleton.mp hq] at r
              exact e ⟨r.1.symm, r.2⟩
    · simp only [h, if_false]
      rw [ih']
      have h' : p.2 = c := Decidable.not_not.mp h
      by_cases e2 : d = c ∨ ∃ q ∈ ps, q.2 = d ∧ z = -q.1
      · rw [if_pos e2, if_pos (e2.imp id fun ⟨q, hq, r⟩ => ⟨q, List.mem_append_left _ hq, r⟩)]
      · rw [if_neg e2, if_neg]
        rintro (q | ⟨q, hq, r⟩)
        · exact e2 (.inl q)
        · rcases List.mem_append.mp hq with hq | hq
          · exact e2 (.inr ⟨q, hq, r⟩)
          · rw [List.mem_singleton.mp hq] at r
            exact e2 (.inl (r.1.symm.trans h'))
end L2
set_option Elab.async false
set_option linter.all false
set_option maxRecDepth 100000
set_option maxHeartbeats 4000000
namespace L2
open PySem PySem.Spec PyProof.Rows
inductive Cg (R : Nat → Int → Nat → Prop) : Nat → Nat → Prop where
  | refl (a : Nat) : Cg R a a
  | symm {a b : Nat} : Cg R a b → Cg R b a
  | trans {a b c : Nat} : Cg R a b → Cg R b c → Cg R a c
  | step {a a' b b' : Nat} {z : Int} : R a z b → R a' z b' → Cg R a a' → Cg R b b'
theorem Cg.mono {R R' : Nat → Int → Nat → Prop} (h : ∀ a z b, R a z b → R' a z b) {a b : Nat} (c : Cg R a b) : Cg R' a b := by
  induction c with
  | refl => exact .refl _
  | symm _ ih => exact .symm ih
  | trans _ _ i1 i2 => exact .trans i1 i2
  | step r1 r2 _ ih => exact .step (h _ _ _ r1) (h _ _ _ r2) ih
def Im (S : RS) (R : Nat → Int → Nat → Prop) (c : Nat) (z : Int) (d : Nat) : Prop := ∃ c' d', R c' z d' ∧ S.eld c' = c ∧ S.eld d' = d
def Cov (S : RS) (pend : List Way) (c : Nat) (z : Int) (d : Nat) : Prop := S.by c z = some d ∨ ∃ w ∈ pend, (S.eld w.1 = c ∧ w.2.1 = z ∧ S.eld w.2.2 = d) ∨ (S.eld w.1 = d ∧ w.2.1 = -z ∧ S.eld w.2.2 = c)
structure Good (S : RS) (pend : List Way) (R : Nat → Int → Nat → Prop) : Prop where
  wf : S.Wf
  el : ∀ c, c < S.made → S.eld c ≤ c ∧ S.eld (S.eld c) = S.eld c
  ca : ∀ e, e < S.made → S.eld e = e → ∀ c, c ∈ S.cal e ↔ c < S.made ∧ S.eld c = e
  cb : ∀ e c, c ∈ S.cal e → c < S.made
  cn : ∀ e, (S.cal e).Nodup
  kn : ∀ c, ((S.way c).map (·.1)).Nodup
  st : ∀ c z d, S.by c z = some d → c < S.made ∧ d < S.made ∧ S.eld c = c ∧ S.eld d = d
  sy : ∀ c z d, S.by c z = some d → S.by d (-z) = some c
  pl : ∀ w ∈ pend, w.1 < S.made ∧ w.2.2 < S.made
  rl : ∀ c z d, R c z d → c < S.made ∧ d < S.made ∧ R d (-z) c
  cv : ∀ c z d, R c z d → Cov S pend (S.eld c) z (S.eld d)
  so : ∀ c z d, S.by c z = some d → Im S R c z d
  sp : ∀ w ∈ pend, Im S R (S.eld w.1) w.2.1 (S.eld w.2.2)
  cg : ∀ c, c < S.made → Cg R c (S.eld c)
section
variable {S : RS} {pend : List Way} {R : Nat → Int → Nat → Prop}
theorem Good.lt (h : Good S pend R) {c : Nat} (hc : c < S.made) : S.eld c < S.made := Nat.lt_of_le_of_lt (h.el c hc).1 hc
theorem Im.back (h : Good S pend R) {c d : Nat} {z : Int} (i : Im S R c z d) : Im S R d (-z) c := by
  obtain ⟨c', d', r, e1, e2⟩ := i
  exact ⟨d', c', (h.rl _ _ _ r).2.2, e2, e1⟩
theorem Good.must (h : Good S pend R) {c x y : Nat} {z : Int} (i : Im S R c z x) (j : Im S R c z y) : Cg R x y := by
  obtain ⟨c1, x1, r1, e1, e2⟩ := i
  obtain ⟨c2, y2, r2, f1, f2⟩ := j
  obtain ⟨l1, l2, _⟩ := h.rl _ _ _ r1
  obtain ⟨m1, m2, _⟩ := h.rl _ _ _ r2
  have a1 := h.cg _ l1
  have a2 := h.cg _ l2
  have b1 := h.cg _ m1
  have b2 := h.cg _ m2
  rw [e1] at a1
  rw [e2] at a2
  rw [f1] at b1
  rw [f2] at b2
  exact a2.symm.trans ((Cg.step r1 r2 (a1.trans b1.symm)).trans b2)
theorem Good.keep (h : Good S pend R) {c d : Nat} {z : Int} (hc : c < S.made) (hd : d < S.made) (ec : S.eld c = c) (ed : S.eld d = d) (i : Im S R c z d) (h1 : S.by c z = none ∨ S.by c z = some d) (h2 : S.by d (-z) = none ∨ S.by d (-z) = some c) {pend' : List Way} (hp : ∀ w ∈ pend', w ∈ pend)
    (hcv : ∀ w ∈ pend, w ∉ pend' → S.eld w.1 = c ∧ w.2.1 = z ∧ S.eld w.2.2 = d) : Good (S.keep c z d) pend' R := by
  have hcw : c < S.ways.length := by rw [h.wf.w]; exact hc
  have hdw : d < S.ways.length := by rw [h.wf.w]; exact hd
  have hby : ∀ a s, (S.keep c z d).by a s = if a = d ∧ s = -z then some c else if a = c ∧ s = z then some d else S.by a s := fun a s => by
    show ((S.putWay c z d).putWay d (-z) c).by a s = _
    rw [by_putWay (by show d < (S.ways.set c _).length; rw [List.length_set]; exact hdw), by_putWay hcw]
  have old : ∀ a s b, S.by a s = some b → (S.keep c z d).by a s = some b := fun a s b e => by
    rw [hby]
    by_cases q1 : a = d ∧ s = -z
    · rw [if_pos q1]
      obtain ⟨rfl, rfl⟩ := q1
      rcases h2 with q | q <;> rw [q] at e <;> cases e
      rfl
    · rw [if_neg q1]
      by_cases q2 : a = c ∧ s = z
      · rw [if_pos q2]
        obtain ⟨rfl, rfl⟩ := q2
        rcases h1 with q | q <;> rw [q] at e <;> cases e
        rfl
      · rw [if_neg q2]; exact e
  have el : ∀ a, (S.keep c z d).eld a = S.eld a := fun a => rfl
  have new : ∀ a s b, (S.keep c z d).by a s = some b → (a = d ∧ s = -z ∧ b = c) ∨ (a = c ∧ s = z ∧ b = d) ∨ S.by a s = some b := fun a s b e => by
    rw [hby] at e
    by_cases q1 : a = d ∧ s = -z
    · rw [if_pos q1] at e; exact .inl ⟨q1.1, q1.2, (Option.some.inj e).symm⟩
    · rw [if_neg q1] at e
      by_cases q2 : a = c ∧ s = z
      · rw [if_pos q2] at e; exact .inr (.inl ⟨q2.1, q2.2, (Option.some.inj e).symm⟩)
      · rw [if_neg q2] at e; exact .inr (.inr e)
  have put1 : (S.keep c z d).by d (-z) = some c := by rw [hby, if_pos ⟨rfl, rfl⟩]
  have put2 : (S.keep c z d).by c z = some d := by
    rw [hby]
    by_cases q1 : c = d ∧ z = -z
    · rw [if_pos q1, q1.1]
    · rw [if_neg q1, if_pos ⟨rfl, rfl⟩]
  have knp : ∀ (l : List (Int × Nat)) (s : Int) (r : Nat), (l.map (·.1)).Nodup → ((putW l s r).map (·.1)).Nodup := fun l s r hl => by
    unfold putW
    split
    · rw [List.map_map]
      have : ((fun x : Int × Nat => x.1) ∘ fun p : Int × Nat => if p.1 = s then (p.1, r) else p) = fun x => x.1 := by
        funext p
        show (if p.1 = s then (p.1, r) else p).1 = p.1
        split <;> rfl
      rw [this]; exact hl
    · rename_i q
      rw [List.map_append]
      refine List.nodup_append.mpr ⟨hl, by simp, fun a ha b hb e => q ?_⟩
      obtain ⟨p, hp, rfl⟩ := List.mem_map.mp ha
      have : b = s := by simpa using hb
      exact List.any_eq_true.mpr ⟨p, hp, decide_eq_true (e.trans this)⟩
  refine ⟨⟨?_, ?_, h.wf.e, h.wf.c⟩, h.el, h.ca, h.cb, h.cn, fun a => ?_, fun a s b e => ?_, fun a s b e => ?_, fun w hw => h.pl w (hp w hw), h.rl, fun a s b r => ?_, fun a s b e => ?_, fun w hw => h.sp w (hp w hw), h.cg⟩
  · show ((List.set _ _ _).set _ _).length = S.made
    rw [List.length_set, List.length_set]; exact h.wf.w
  · show ((List.set _ _ _).set _ _).length = S.made
    rw [List.length_set, List.length_set]; exact h.wf.g
  · show ((((S.putWay c z d).putWay d (-z) c).way a).map (·.1)).Nodup
    unfold RS.putWay
    rw [way_setW (by show d < (S.ways.set c _).length; rw [List.length_set]; exact hdw)]
    have k1 : ∀ a, (((S.setW c (putW (S.way c) z d)).way a).map (·.1)).Nodup := fun a => by
      rw [way_setW hcw]
      split
      · exact knp _ _ _ (h.kn c)
      · exact h.kn a
    split
    · exact knp _ _ _ (k1 d)
    · exact k1 a
  · rcases new a s b e with ⟨rfl, rfl, rfl⟩ | ⟨rfl, rfl, rfl⟩ | e
    · exact ⟨hd, hc, ed, ec⟩
    · exact ⟨hc, hd, ec, ed⟩
    · exact h.st a s b e
  · rcases new a s b e with ⟨rfl, rfl, rfl⟩ | ⟨rfl, rfl, rfl⟩ | e
    · rw [Int.neg_neg]; exact put2
    · exact put1
    · exact old _ _ _ (h.sy _ _ _ e)
  · rcases h.cv a s b r with q | ⟨w, hw, q⟩
    · exact .inl (old _ _ _ q)
    · by_cases hm : w ∈ pend'
      · exact .inr ⟨w, hm, q⟩
      · obtain ⟨f1, f2, f3⟩ := hcv w hw hm
        refine .inl ?_
        show (S.keep c z d).by (S.eld a) s = some (S.eld b)
        rcases q with ⟨q1, q2, q3⟩ | ⟨q1, q2, q3⟩
        · rw [← q1, ← q2, ← q3, f1, f2, f3]; exact put2
        · have es : s = -z := by rw [← f2, q2, Int.neg_neg]
          rw [← q1, ← q3, f1, f3, es]; exact put1
  · rcases new a s b e with ⟨rfl, rfl, rfl⟩ | ⟨rfl, rfl, rfl⟩ | e
    · exact Im.back h i
    · exact i
    · exact h.so a s b e
end
theorem fold_set (x : Nat) : ∀ (l es : List Nat) (a : Nat), (∀ n ∈ l, n < es.length) → (l.foldl (fun es n => es.set n x) es).getD a 0 = if a ∈ l then x else es.getD a 0
  | [], es, a, _ => by simp
  | n :: l, es, a, h => by
    rw [List.foldl_cons, fold_set x l (es.set n x) a (fun m hm => by rw [List.length_set]; exact h m (List.mem_cons_of_mem _ hm))]
    by_cases h1 : a ∈ l
    · rw [if_pos h1, if_pos (List.mem_cons_of_mem _ h1)]
    · rw [if_neg h1]
      by_cases h2 : a = n
      · subst h2
        rw [if_pos List.mem_cons_self, List.getD_eq_getElem?_getD, List.getElem?_set_self (h a List.mem_cons_self)]; rfl
      · rw [if_neg (fun z => (List.mem_cons.mp z).elim h2 h1), List.getD_eq_getElem?_getD, List.getElem?_set_ne (Ne.symm h2), ← List.getD_eq_getElem?_getD]
theorem fold_setL (x : Nat) : ∀ (l es : List Nat), (l.foldl (fun es n => es.set n x) es).length = es.length
  | [], _ => rfl
  | n :: l, es => by rw [List.foldl_cons, fold_setL x l, List.length_set]
theorem getW_some {l : List (Int × Nat)} {s : Int} {r : Nat} (h : getW l s = some r) : (s, r) ∈ l := by
  unfold getW at h
  obtain ⟨q, hq, rfl⟩ := Option.map_eq_some_iff.mp h
  have h1 := List.find?_some hq
  have h2 := List.mem_of_find?_eq_some hq
  have : q.1 = s := of_decide_eq_true h1
  rw [← this]; exact h2
theorem getW_of {l : List (Int × Nat)} (nd : (l.map (·.1)).Nodup) {q : Int × Nat} (h : q ∈ l) : getW l q.1 = some q.2 := by
  induction l with
  | nil => cases h
  | cons p l ih =>
    unfold getW
    rw [List.map_cons, List.nodup_cons] at nd
    by_cases e : p.1 = q.1
    · rw [List.find?_cons_of_pos (by exact decide_eq_true e)]
      rcases List.mem_cons.mp h with rfl | h
      · rfl
      · exact absurd (by rw [e]; exact List.mem_map_of_mem h) nd.1
    · rw [List.find?_cons_of_neg (by simpa using e)]
      rcases List.mem_cons.mp h with rfl | h
      · exact absurd rfl e
      · exact ih nd.2 h
theorem nodup_lenN : ∀ (n : Nat) (l : List Nat), l.Nodup → (∀ x ∈ l, x < n) → l.length ≤ n
  | 0, [], _, _ => Nat.le_refl _
  | 0, a :: l, _, h => absurd (h a (List.mem_cons_self ..)) (by omega)
  | n + 1, l, hn, h => by
    by_cases hm : n ∈ l
    · have := nodup_lenN n (l.erase n) (hn.erase n) (fun x hx => by
        have h1 := (hn.mem_erase_iff).mp hx
        have h2 := h x h1.2
        have h3 := h1.1
        omega)
      rw [List.length_erase_of_mem hm] at this
      omega
    · have := nodup_lenN n l hn (fun x hx => by
        have h2 := h x hx
        have h3 : x ≠ n := fun z => hm (by rw [← z]; exact hx)
        omega)
      omega
theorem nodup_sub : ∀ (k l : List Int), l.Nodup → (∀ x ∈ l, x ∈ k) → l.length ≤ k.length
  | [], [], _, _ => Nat.le_refl _
  | [], a :: l, _, h => by have := h a List.mem_cons_self; cases this
  | y :: k, l, hn, h => by
    by_cases hm : y ∈ l
    · have := nodup_sub k (l.erase y) (hn.erase y) (fun x hx => by
        have h1 := (hn.mem_erase_iff).mp hx
        rcases List.mem_cons.mp (h x h1.2) with e | e
        · exact absurd e h1.1
        · exact e)
      rw [List.length_erase_of_mem hm] at this
      have : 1 ≤ l.length := List.length_pos_of_mem hm
      rw [List.length_cons]; omega
    · have := nodup_sub k l hn (fun x hx => by
        rcases List.mem_cons.mp (h x hx) with e | e
        · exact absurd (e ▸ hx) hm
        · exact e)
      rw [List.length_cons]; omega
theorem offs_kn {c : Nat} {S : RS} {pend : List Way} (hc : c < S.ways.length) (kn : ∀ a, ((S.way a).map (·.1)).Nodup) : ∀ ps : List (Int × Nat), (∀ q ∈ ps, q.2 < S.ways.length) → ∀ a, (((offs c S pend ps).1.way a).map (·.1)).Nodup := by
  refine snoc_ind (fun _ a => ?_) fun ps p ih hl a => ?_
  · show (((S.setW c []).way a).map (·.1)).Nodup
    rw [way_setW hc]
    split
    · exact List.nodup_nil
    · exact kn a
  · have ih' := ih (fun q hq => hl q (List.mem_append_left _ hq))
    rw [offs_snoc]
    unfold offStep
    by_cases h : p.2 ≠ c
    · simp only [h, if_true, not_false_eq_true, ne_eq]
      unfold RS.dropWay
      rw [way_setW (by rw [(offs_rest c S pend ps).1]; exact hl p (List.mem_append_right _ List.mem_cons_self))]
      split
      · exact List.Nodup.sublist (List.Sublist.map _ List.filter_sublist) (ih' p.2)
      · exact ih' a
    · simp only [h, if_false]
      exact ih' a
section
variable {S : RS} {pend : List Way} {R : Nat → Int → Nat → Prop}
theorem Cov.back (h : Good S pend R) {S' : RS} {pend' : List Way} (sy : ∀ c z d, S'.by c z = some d → S'.by d (-z) = some c) {c d : Nat} {z : Int} (i : Cov S' pend' c z d) : Cov S' pend' d (-z) c := by
  rcases i with q | ⟨w, hw, q⟩
  · exact .inl (sy _ _ _ q)
  · refine .inr ⟨w, hw, ?_⟩
    rcases q with ⟨q1, q2, q3⟩ | ⟨q1, q2, q3⟩
    · exact .inr ⟨q1, by rw [q2, Int.neg_neg], q3⟩
    · exact .inl ⟨q1, q2, q3⟩
theorem Good.meet (h : Good S pend R) {c x y : Nat} {z : Int} (hx : S.by c z = some x) (hy : y < S.made) (ey : S.eld y = y) (hxy : x ≠ y) (iy : Im S R c z y) {pend' : List Way} (hp : ∀ w ∈ pend', w ∈ pend)
    (hcv : ∀ w ∈ pend, w ∉ pend' → (S.eld w.1 = c ∧ w.2.1 = z ∧ S.eld w.2.2 = y) ∨ (S.eld w.1 = y ∧ w.2.1 = -z ∧ S.eld w.2.2 = c)) :
    Good (S.meet c z x y pend').1 (S.meet c z x y pend').2 R ∧ (∀ a, (S.meet c z x y pend').1.eld a = if S.eld a = max x y then min x y else S.eld a) ∧ (S.meet c z x y pend').2 = pend' ++ (S.way (max x y)).map (fun p => (max x y, p.1, p.2)) := by
  obtain ⟨hc, hxm, ec, ex⟩ := h.st _ _ _ hx
  have hcgxy : Cg R x y := h.must (h.so _ _ _ hx) iy
  have hu : min x y < S.made := by omega
  have hv : max x y < S.made := by omega
  have huv : min x y < max x y := by omega
  have eu : S.eld (min x y) = min x y := by rcases Nat.lt_or_ge x y with q | q; rw [Nat.min_eq_left (by omega)]; exact ex; rw [Nat.min_eq_right (by omega)]; exact ey
  have ev : S.eld (max x y) = max x y := by rcases Nat.lt_or_ge x y with q | q; rw [Nat.max_eq_right (by omega)]; exact ey; rw [Nat.max_eq_left (by omega)]; exact ex
  have xuv : x = min x y ∨ x = max x y := by omega
  have yuv : y = min x y ∨ y = max x y := by omega
  have hcguv : Cg R (max x y) (min x y) := by
    rcases Nat.lt_or_ge x y with q | q
    · rw [Nat.max_eq_right (by omega), Nat.min_eq_left (by omega)]; exact hcgxy.symm
    · rw [Nat.max_eq_left (by omega), Nat.min_eq_right (by omega)]; exact hcgxy
  unfold RS.meet
  generalize max x y = v at hv huv ev xuv yuv hcguv ⊢
  generalize min x y = u at hu huv eu xuv yuv hcguv ⊢
  have hvw : v < S.ways.length := by rw [h.wf.w]; exact hv
  have hqs : ∀ q ∈ S.way v, q.2 < S.ways.length := fun q hq => by
    rw [h.wf.w]; exact (h.st v q.1 q.2 (getW_of (h.kn v) hq)).2.1
  have hP : ((S.joined c z u v).putOff v pend') = offs v (S.joined c z u v) pend' (S.way v) := rfl
  rw [hP]
  have rest := offs_rest v (S.joined c z u v) pend' (S.way v)
  have byJ : ∀ a s, (S.joined c z u v).by a s = S.by a s := fun a s => rfl
  have hby : ∀ a s, (offs v (S.joined c z u v) pend' (S.way v)).1.by a s = if a = v ∨ S.by a s = some v then none else S.by a s := fun a s => by
    rw [offs_by (S := S.joined c z u v) hvw _ hqs, byJ]
    have : (a = v ∨ ∃ q ∈ S.way v, q.2 = a ∧ s = -q.1) ↔ (a = v ∨ S.by a s = some v) := by
      refine or_congr Iff.rfl ⟨?_, fun e => ?_⟩
      · rintro ⟨q, hq, rfl, rfl⟩
        exact h.sy _ _ _ (getW_of (h.kn v) hq)
      · have := getW_some (h.sy _ _ _ e)
        exact ⟨_, this, rfl, (Int.neg_neg s).symm⟩
    simp only [this]
  have hpe : (offs v (S.joined c z u v) pend' (S.way v)).2 = pend' ++ (S.way v).map fun p => (v, p.1, p.2) := offs_pend _ _ _ _
  have hkn := offs_kn (S := S.joined c z u v) (pend := pend') hvw h.kn (S.way v) hqs
  have heq : ∀ a, (offs v (S.joined c z u v) pend' (S.way v)).1.eld a = if S.eld a = v then u else S.eld a := fun a => by
    rw [rest.2]
    show ((S.cal v).foldl (fun es n => es.set n u) S.elders).getD a 0 = _
    rw [fold_set u _ _ _ (fun n hn => by rw [h.wf.e]; exact h.cb v n hn)]
    by_cases ha : a < S.made
    · have := h.ca v hv ev a
      by_cases e : S.eld a = v
      · rw [if_pos (this.mpr ⟨ha, e⟩), if_pos e]
      · rw [if_neg (fun q => e (this.mp q).2), if_neg e]; rfl
    · have e0 : S.eld a = 0 := by unfold RS.eld; rw [List.getD_eq_getElem?_getD, List.getElem?_eq_none (by rw [h.wf.e]; omega)]; rfl
      rw [if_neg (fun q => ha (h.cb v a q)), if_neg (by rw [e0]; omega)]; rfl
  have hcal : ∀ e, (offs v (S.joined c z u v) pend' (S.way v)).1.cal e = if e = u then S.cal u ++ S.cal v else S.cal e := fun e => by
    rw [rest.2]
    show (S.called.set u (S.cal u ++ S.cal v)).getD e [] = _
    rw [List.getD_eq_getElem?_getD]
    by_cases q : e = u
    · subst q; rw [List.getElem?_set_self (by rw [h.wf.c]; exact hu), if_pos rfl]; rfl
    · rw [List.getElem?_set_ne (Ne.symm q), if_neg q]; unfold RS.cal; rw [List.getD_eq_getElem?_getD]
  have hmade : (offs v (S.joined c z u v) pend' (S.way v)).1.made = S.made := by rw [rest.2]; rfl
  have hwf : (offs v (S.joined c z u v) pend' (S.way v)).1.Wf := by
    refine ⟨by rw [rest.1, hmade]; exact h.wf.w, ?_, ?_, ?_⟩
    · rw [rest.2]; exact h.wf.g
    · rw [rest.2]; show ((S.cal v).foldl (fun es n => es.set n u) S.elders).length = S.made; rw [fold_setL]; exact h.wf.e
    · rw [rest.2]; show (S.called.set u (S.cal u ++ S.cal v)).length = S.made; rw [List.length_set]; exact h.wf.c
  generalize (offs v (S.joined c z u v) pend' (S.way v)).2 = P2 at hpe ⊢
  generalize (offs v (S.joined c z u v) pend' (S.way v)).1 = S2 at rest hby hkn heq hcal hmade hwf ⊢
  clear rest
  refine ⟨?_, heq, hpe⟩
  have bo : ∀ a s b, S2.by a s = some b ↔ S.by a s = some b ∧ a ≠ v ∧ b ≠ v := fun a s b => by
    rw [hby]
    by_cases q : a = v ∨ S.by a s = some v
    · rw [if_pos q]
      refine ⟨(fun z => by cases z), fun ⟨e, n1, n2⟩ => ?_⟩
      rcases q with q | q
      · exact absurd q n1
      · rw [q] at e; exact absurd (Option.some.inj e).symm n2
    · rw [if_neg q]
      refine ⟨fun e => ⟨e, fun z => q (.inl z), fun z => q (.inr (by rw [e, z]))⟩, fun e => e.1⟩
  have nv2 : ∀ a, S2.eld (S.eld a) = S2.eld a := fun a => by
    rw [heq, heq]
    by_cases ha : a < S.made
    · rw [(h.el a ha).2]
    · have e0 : ∀ a, ¬ a < S.made → S.eld a = 0 := fun a ha => by unfold RS.eld; rw [List.getD_eq_getElem?_getD, List.getElem?_eq_none (by rw [h.wf.e]; omega)]; rfl
      rw [e0 a ha]
      have : S.eld 0 = 0 := by have := (h.el 0 (by omega)).1; omega
      rw [this]
  have eqv : ∀ {a b}, S.eld a = S.eld b → S2.eld a = S2.eld b := fun {a b} e => by rw [heq, heq, e]
  have sy2 : ∀ a s b, S2.by a s = some b → S2.by b (-s) = some a := fun a s b e => by
    rw [bo] at e ⊢
    exact ⟨h.sy _ _ _ e.1, e.2.2, e.2.1⟩
  have std : ∀ {a}, S.eld a = a → S2.eld a = if a = v then u else a := fun {a} e => by rw [heq, e]
  have kept : ∀ p s q, S.by p s = some q → Cov S2 P2 (S2.eld p) s (S2.eld q) := fun p s q e => by
    obtain ⟨lp, lq, ep, eq⟩ := h.st _ _ _ e
    by_cases h1 : p = v
    · refine .inr ⟨(v, s, q), ?_, .inl ⟨by rw [h1], rfl, rfl⟩⟩
      rw [hpe]
      rw [h1] at e
      exact List.mem_append_right _ (List.mem_map.mpr ⟨(s, q), getW_some e, rfl⟩)
    · by_cases h2 : q = v
      · refine .inr ⟨(v, -s, p), ?_, .inr ⟨by rw [h2], rfl, rfl⟩⟩
        rw [hpe]
        have e' := h.sy _ _ _ e
        rw [h2] at e'
        exact List.mem_append_right _ (List.mem_map.mpr ⟨(-s, p), getW_some e', rfl⟩)
      · refine .inl ?_
        rw [std ep, std eq, if_neg h1, if_neg h2]
        exact (bo _ _ _).mpr ⟨e, h1, h2⟩
  have eu2 : S2.eld u = u := by rw [std eu, if_neg (by omega)]
  have ev2 : S2.eld v = u := by rw [std ev, if_pos rfl]
  have exy : S2.eld x = S2.eld y := by
    have q1 : S2.eld x = u := by rcases xuv with q | q <;> rw [q] <;> assumption
    have q2 : S2.eld y = u := by rcases yuv with q | q <;> rw [q] <;> assumption
    rw [q1, q2]
  have imq : ∀ {a b s}, Im S R (S.eld a) s (S.eld b) → Im S2 R (S2.eld a) s (S2.eld b) := fun {a b s} ⟨a', b', r, e1, e2⟩ => ⟨a', b', r, eqv e1, eqv e2⟩
  refine ⟨hwf, fun a ha => ?_, fun e he ee a => ?_, fun e a ha => ?_, fun e => ?_, hkn, fun a s b e => ?_, sy2, fun w hw => ?_, fun a s b r => ?_, fun a s b r => ?_, fun a s b e => ?_, fun w hw => ?_, fun a ha => ?_⟩
  · rw [hmade] at ha
    obtain ⟨l1, l2⟩ := h.el a ha
    rw [heq]
    by_cases q : S.eld a = v
    · rw [if_pos q]
      exact ⟨by omega, eu2⟩
    · rw [if_neg q]
      exact ⟨l1, by rw [heq, l2, if_neg q]⟩
  · rw [hmade] at he ⊢
    rw [hcal]
    have nev : e ≠ v := fun z => by rw [z, ev2] at ee; omega
    by_cases q : e = u
    · subst q
      rw [if_pos rfl, List.mem_append, h.ca _ hu eu, h.ca v hv ev, heq]
      constructor
      · rintro (⟨q1, q2⟩ | ⟨q1, q2⟩)
        · exact ⟨q1, by rw [if_neg (by omega)]; exact q2⟩
        · exact ⟨q1, by rw [if_pos q2]⟩
      · rintro ⟨q1, q2⟩
        by_cases q3 : S.eld a = v
        · exact .inr ⟨q1, q3⟩
        · rw [if_neg q3] at q2; exact .inl ⟨q1, q2⟩
    · rw [if_neg q]
      have e0 : S.eld e = e := by
        rw [heq] at ee
        by_cases q3 : S.eld e = v
        · rw [if_pos q3] at ee; exact absurd ee.symm q
        · rw [if_neg q3] at ee; exact ee
      rw [h.ca e he e0, heq]
      constructor
      · rintro ⟨q1, q2⟩
        exact ⟨q1, by rw [if_neg (by rw [q2]; exact nev)]; exact q2⟩
      · rintro ⟨q1, q2⟩
        by_cases q3 : S.eld a = v
        · rw [if_pos q3] at q2; exact absurd q2.symm q
        · rw [if_neg q3] at q2; exact ⟨q1, q2⟩
  · rw [hmade]
    rw [hcal] at ha
    split at ha
    · rcases List.mem_append.mp ha with ha | ha
      · exact h.cb _ _ ha
      · exact h.cb _ _ ha
    · exact h.cb _ _ ha
  · rw [hcal]
    split
    · refine List.nodup_append.mpr ⟨h.cn _, h.cn _, fun a ha b hb e => ?_⟩
      have q1 := ((h.ca _ hu eu a).mp ha).2
      have q2 := ((h.ca v hv ev b).mp hb).2
      rw [e, q2] at q1
      omega
    · exact h.cn _
  · rw [bo] at e
    obtain ⟨l1, l2, l3, l4⟩ := h.st _ _ _ e.1
    exact ⟨by rw [hmade]; exact l1, by rw [hmade]; exact l2, by rw [std l3, if_neg e.2.1], by rw [std l4, if_neg e.2.2]⟩
  · rw [hmade]
    rw [hpe] at hw
    rcases List.mem_append.mp hw with hw | hw
    · exact h.pl w (hp w hw)
    · obtain ⟨q, hq, rfl⟩ := List.mem_map.mp hw
      exact ⟨hv, (h.st v q.1 q.2 (getW_of (h.kn v) hq)).2.1⟩
  · rw [hmade]; exact h.rl a s b r
  · rcases h.cv a s b r with q | ⟨w, hw, q⟩
    · have := kept _ _ _ q
      rw [nv2, nv2] at this
      exact this
    · by_cases hm : w ∈ pend'
      · refine .inr ⟨w, by rw [hpe]; exact List.mem_append_left _ hm, ?_⟩
        rcases q with ⟨q1, q2, q3⟩ | ⟨q1, q2, q3⟩
        · exact .inl ⟨eqv q1, q2, eqv q3⟩
        · exact .inr ⟨eqv q1, q2, eqv q3⟩
      · have base : Cov S2 P2 (S2.eld c) z (S2.eld y) := by rw [← exy]; exact kept _ _ _ hx
        have one : ∀ {p q : Nat}, S.eld p = c → S.eld q = y → S2.eld p = S2.eld c ∧ S2.eld q = S2.eld y := fun {p q} e1 e2 => ⟨by rw [← nv2 p, e1], by rw [← nv2 q, e2]⟩
        rcases hcv w hw hm with ⟨f1, f2, f3⟩ | ⟨f1, f2, f3⟩
        · rcases q with ⟨q1, q2, q3⟩ | ⟨q1, q2, q3⟩
          · obtain ⟨g1, g2⟩ := one (q1.symm.trans f1) (q3.symm.trans f3)
            rw [g1, g2, ← q2, f2]; exact base
          · obtain ⟨g1, g2⟩ := one (q1.symm.trans f1) (q3.symm.trans f3)
            have es : s = -z := by rw [← f2, q2, Int.neg_neg]
            rw [g1, g2, es]; exact Cov.back h sy2 base
        · rcases q with ⟨q1, q2, q3⟩ | ⟨q1, q2, q3⟩
          · obtain ⟨g1, g2⟩ := one (q3.symm.trans f3) (q1.symm.trans f1)
            have es : s = -z := by rw [← q2, f2]
            rw [g1, g2, es]; exact Cov.back h sy2 base
          · obtain ⟨g1, g2⟩ := one (q3.symm.trans f3) (q1.symm.trans f1)
            have es : s = z := by have := q2.symm.trans f2; omega
            rw [g1, g2, es]; exact base
  · rw [bo] at e
    obtain ⟨l1, l2, l3, l4⟩ := h.st _ _ _ e.1
    have := h.so _ _ _ e.1
    rw [← l3, ← l4] at this
    have q := imq this
    rw [std l3, std l4, if_neg e.2.1, if_neg e.2.2] at q
    exact q
  · rw [hpe] at hw
    rcases List.mem_append.mp hw with hw | hw
    · exact imq (h.sp w (hp w hw))
    · obtain ⟨q, hq, rfl⟩ := List.mem_map.mp hw
      have e := getW_of (h.kn v) hq
      obtain ⟨l1, l2, l3, l4⟩ := h.st v q.1 q.2 e
      have := h.so _ _ _ e
      rw [← l3, ← l4] at this
      exact imq this
  · rw [hmade] at ha
    rw [heq]
    split
    · rename_i q
      have := h.cg a ha
      rw [q] at this
      exact this.trans hcguv
    · exact h.cg a ha
end
def RS.stand (S : RS) : Nat := (List.range S.made).countP fun c => decide (S.eld c = c)
theorem count_less {p p' : Nat → Bool} {v : Nat} (h : ∀ a, p' a = (p a && decide (a ≠ v))) (hv : p v = true) : ∀ n, (List.range n).countP p' + (if v < n then 1 else 0) = (List.range n).countP p
  | 0 => rfl
  | n + 1 => by
    have ih := count_less h hv n
    rw [List.range_succ, List.countP_append, List.countP_append, ← ih]
    rw [List.countP_singleton, List.countP_singleton, h n]
    by_cases e : n = v
    · subst e
      rw [hv, if_neg (Nat.lt_irrefl n), if_pos (Nat.lt_succ_self n)]
      simp
    · have : decide (n ≠ v) = true := decide_eq_true e
      rw [this, Bool.and_true]
      have hh : (v < n + 1) = (v < n) := propext ⟨fun _ => by omega, fun _ => by omega⟩
      simp only [hh]
      omega
def mu (k : Nat) (S : RS) (pend : List Way) : Nat := S.stand * (k + 1) + pend.length
section
variable {S : RS} {pend : List Way} {R : Nat → Int → Nat → Prop} {w : Way} {ks : List Int}
theorem Good.wayLen (h : Good S pend R) (hk : ∀ c z d, R c z d → z ∈ ks) (c : Nat) : (S.way c).length ≤ ks.length := by
  have := nodup_sub ks ((S.way c).map (·.1)) (h.kn c) (fun x hx => by
    obtain ⟨q, hq, rfl⟩ := List.mem_map.mp hx
    obtain ⟨a, b, r, _⟩ := h.so c q.1 q.2 (getW_of (h.kn c) hq)
    exact hk _ _ _ r)
  rw [List.length_map] at this
  exact this
theorem Good.calLen (h : Good S pend R) (c : Nat) : (S.cal c).length ≤ S.made := nodup_lenN _ _ (h.cn c) fun x hx => h.cb c x hx
theorem Good.take (h : Good S (pend ++ [w]) R) (hk : ∀ c z d, R c z d → z ∈ ks) : Good (S.takeIn pend w).1 (S.takeIn pend w).2 R ∧ mu ks.length (S.takeIn pend w).1 (S.takeIn pend w).2 < mu ks.length S (pend ++ [w]) ∧ (S.takeIn pend w).1.made = S.made ∧ (S.takeIn pend w).1.L = S.L ∧
    ((S.takeIn pend w).1.stand = S.stand ∧ (S.takeIn pend w).1.rows = S.rows ∧ (S.takeIn pend w).1.went = S.went ∨ (S.takeIn pend w).1.stand + 1 = S.stand ∧ ∃ c z x y, S.by c z = some x ∧ Im S R c z y ∧ y < S.made ∧ S.eld y = y ∧ x ≠ y ∧ (S.takeIn pend w).1.rows = S.rows ++ [rowMeet c z (min x y) (max x y)] ∧ (S.takeIn pend w).1.went = S.went ++ [max x y] ∧ ∀ a, (S.takeIn pend w).1.eld a = if S.eld a = max x y then min x y else S.eld a) := by
  have hw := h.pl w (List.mem_append_right _ List.mem_cons_self)
  have iw := h.sp w (List.mem_append_right _ List.mem_cons_self)
  have hc := h.lt hw.1
  have hd := h.lt hw.2
  have ec := (h.el _ hw.1).2
  have ed := (h.el _ hw.2).2
  have hp : ∀ x ∈ pend, x ∈ pend ++ [w] := fun x hx => List.mem_append_left _ hx
  have last : ∀ x ∈ pend ++ [w], x ∉ pend → x = w := fun x hx nx => by
    rcases List.mem_append.mp hx with q | q
    · exact absurd q nx
    · exact List.mem_singleton.mp q
  have met : ∀ {c x y : Nat} {z : Int}, S.by c z = some x → y < S.made → S.eld y = y → x ≠ y → Im S R c z y → ((S.eld w.1 = c ∧ w.2.1 = z ∧ S.eld w.2.2 = y) ∨ (S.eld w.1 = y ∧ w.2.1 = -z ∧ S.eld w.2.2 = c)) →
      Good (S.meet c z x y pend).1 (S.meet c z x y pend).2 R ∧ mu ks.length (S.meet c z x y pend).1 (S.meet c z x y pend).2 < mu ks.length S (pend ++ [w]) ∧ (S.meet c z x y pend).1.made = S.made ∧ (S.meet c z x y pend).1.L = S.L ∧ (S.meet c z x y pend).1.stand + 1 = S.stand ∧ (S.meet c z x y pend).1.rows = S.rows ++ [rowMeet c z (min x y) (max x y)] ∧ (S.meet c z x y pend).1.went = S.went ++ [max x y] ∧ ∀ a, (S.meet c z x y pend).1.eld a = if S.eld a = max x y then min x y else S.eld a := by
    intro c x y z hx hy ey hxy iy hcv
    obtain ⟨g, g1, g2⟩ := h.meet hx hy ey hxy iy hp (fun x hx nx => by rw [last x hx nx]; exact hcv)
    obtain ⟨hc, hxm, ec, ex⟩ := h.st _ _ _ hx
    have rest := (offs_rest (max x y) (S.joined c z (min x y) (max x y)) pend ((S.joined c z (min x y) (max x y)).way (max x y))).2
    have hm : (S.meet c z x y pend).1.made = S.made := by
      show (offs (max x y) (S.joined c z (min x y) (max x y)) pend ((S.joined c z (min x y) (max x y)).way (max x y))).1.made = _
      rw [rest]; rfl
    have hL : (S.meet c z x y pend).1.L = S.L := by
      show (offs (max x y) (S.joined c z (min x y) (max x y)) pend ((S.joined c z (min x y) (max x y)).way (max x y))).1.L = _
      rw [rest]; rfl
    have hr : (S.meet c z x y pend).1.rows = S.rows ++ [rowMeet c z (min x y) (max x y)] := by
      show (offs (max x y) (S.joined c z (min x y) (max x y)) pend ((S.joined c z (min x y) (max x y)).way (max x y))).1.rows = _
      rw [rest]; rfl
    have hn : (S.meet c z x y pend).1.went = S.went ++ [max x y] := by
      show (offs (max x y) (S.joined c z (min x y) (max x y)) pend ((S.joined c z (min x y) (max x y)).way (max x y))).1.went = _
      rw [rest]; rfl
    have huv : min x y < max x y := by omega
    have ev : S.eld (max x y) = max x y := by rcases Nat.lt_or_ge x y with q | q; rw [Nat.max_eq_right (by omega)]; exact ey; rw [Nat.max_eq_left (by omega)]; exact ex
    have hs : (S.meet c z x y pend).1.stand + 1 = S.stand := by
      unfold RS.stand
      rw [hm]
      have := count_less (p := fun c => decide (S.eld c = c)) (p' := fun a => decide ((S.meet c z x y pend).1.eld a = a)) (v := max x y) (fun a => by
        rw [g1, Bool.eq_iff_iff, Bool.and_eq_true, decide_eq_true_iff, decide_eq_true_iff, decide_eq_true_iff]
        by_cases q : S.eld a = max x y
        · rw [if_pos q]
          constructor
          · intro e
            have e2 : S.eld (min x y) = min x y := by rcases Nat.lt_or_ge x y with q | q; rw [Nat.min_eq_left (by omega)]; exact ex; rw [Nat.min_eq_right (by omega)]; exact ey
            rw [e] at e2; rw [e2] at q; omega
          · rintro ⟨e1, e2⟩
            exact absurd (e1.symm.trans q) e2
        · rw [if_neg q]
          exact ⟨fun e => ⟨e, fun e2 => q (by rw [e2]; exact ev)⟩, fun e => e.1⟩) (decide_eq_true ev) S.made
      rw [if_pos (by omega)] at this
      exact this
    have hl := h.wayLen hk (max x y)
    refine ⟨g, ?_, hm, hL, hs, hr, hn, g1⟩
    unfold mu
    rw [g2, ← hs, List.length_append, List.length_append, List.length_map, Nat.add_mul, Nat.one_mul]
    have : ([w] : List Way).length = 1 := rfl
    omega
  unfold RS.takeIn
  by_cases h1 : (S.by (S.eld w.1) w.2.1).getD (S.eld w.2.2) ≠ S.eld w.2.2
  · rw [if_pos h1]
    cases e : S.by (S.eld w.1) w.2.1 with
    | none => rw [e] at h1; exact absurd rfl h1
    | some x =>
      rw [e] at h1
      obtain ⟨a1, a2, a3, a4, a5, a6, a7, a8⟩ := met e hd ed h1 iw (.inl ⟨rfl, rfl, rfl⟩)
      exact ⟨a1, a2, a3, a4, .inr ⟨a5, _, _, x, _, e, iw, hd, ed, h1, a6, a7, a8⟩⟩
  · rw [if_neg h1]
    by_cases h2 : (S.by (S.eld w.2.2) (-w.2.1)).getD (S.eld w.1) ≠ S.eld w.1
    · rw [if_pos h2]
      cases e : S.by (S.eld w.2.2) (-w.2.1) with
      | none => rw [e] at h2; exact absurd rfl h2
      | some x =>
        rw [e] at h2
        have ib := Im.back h iw
        obtain ⟨a1, a2, a3, a4, a5, a6, a7, a8⟩ := met e hc ec h2 ib (.inr ⟨rfl, (Int.neg_neg _).symm, rfl⟩)
        exact ⟨a1, a2, a3, a4, .inr ⟨a5, _, _, x, _, e, ib, hc, ec, h2, a6, a7, a8⟩⟩
    · rw [if_neg h2]
      have k1 : S.by (S.eld w.1) w.2.1 = none ∨ S.by (S.eld w.1) w.2.1 = some (S.eld w.2.2) := by
        cases e : S.by (S.eld w.1) w.2.1 with
        | none => exact .inl rfl
        | some x => rw [e] at h1; exact .inr (congrArg some (Decidable.not_not.mp h1))
      have k2 : S.by (S.eld w.2.2) (-w.2.1) = none ∨ S.by (S.eld w.2.2) (-w.2.1) = some (S.eld w.1) := by
        cases e : S.by (S.eld w.2.2) (-w.2.1) with
        | none => exact .inl rfl
        | some x => rw [e] at h2; exact .inr (congrArg some (Decidable.not_not.mp h2))
      refine ⟨h.keep hc hd ec ed iw k1 k2 hp (fun x hx nx => by rw [last x hx nx]; exact ⟨rfl, rfl, rfl⟩), ?_, rfl, rfl, .inl ⟨rfl, rfl, rfl⟩⟩
      unfold mu
      show S.stand * _ + pend.length < S.stand * _ + (pend ++ [w]).length
      rw [List.length_append]
      have : ([w] : List Way).length = 1 := rfl
      omega
theorem Good.fin (h : Good S [] R) {a b : Nat} (ha : a < S.made) (hb : b < S.made) : S.eld a = S.eld b ↔ Cg R a b := by
  have det : ∀ {a a' b b' : Nat} {z : Int}, R a z b → R a' z b' → S.eld a = S.eld a' → S.eld b = S.eld b' := fun {a a' b b' z} r1 r2 e => by
    rcases h.cv _ _ _ r1 with q1 | ⟨w, hw, _⟩
    · rcases h.cv _ _ _ r2 with q2 | ⟨w, hw, _⟩
      · rw [e, q2] at q1; exact (Option.some.inj q1).symm
      · cases hw
    · cases hw
  constructor
  · intro e
    have h1 := h.cg a ha
    have h2 := h.cg b hb
    rw [e] at h1
    exact h1.trans h2.symm
  · intro c
    clear ha hb
    induction c with
    | refl => rfl
    | symm _ ih => exact ih.symm
    | trans _ _ i1 i2 => exact i1.trans i2
    | step r1 r2 _ ih => exact det r1 r2 ih
theorem Good.by_iff (h : Good S [] R) {c d : Nat} {z : Int} : S.by c z = some d ↔ Im S R c z d := by
  constructor
  · exact h.so c z d
  · rintro ⟨c', d', r, rfl, rfl⟩
    rcases h.cv _ _ _ r with q | ⟨w, hw, _⟩
    · exact q
    · cases hw
end
end L2
set_option Elab.async false
set_option linter.all false
set_option maxRecDepth 100000
set_option maxHeartbeats 4000000
namespace L2
open PySem PySem.Spec PyProof.Rows
section
variable {X : Cx}
end
def RAdd (R : Nat → Int → Nat → Prop) (c : Nat) (z : Int) (d : Nat) : Nat → Int → Nat → Prop := fun a s b => R a s b ∨ (a = c ∧ s = z ∧ b = d) ∨ (a = d ∧ s = -z ∧ b = c)
theorem radd_sub {R : Nat → Int → Nat → Prop} {c d : Nat} {z : Int} : ∀ a s b, R a s b → RAdd R c z d a s b := fun _ _ _ r => .inl r
theorem radd_new {R : Nat → Int → Nat → Prop} {c d : Nat} {z : Int} : RAdd R c z d c z d := .inr (.inl ⟨rfl, rfl, rfl⟩)
theorem good_new (L : Nat) (g : List Int) : Good (RS.new L g) [] (fun _ _ _ => False) where
  wf := ⟨rfl, rfl, rfl, rfl⟩
  el := fun c hc => by
    have : c = 0 := by have : c < 1 := hc; omega
    subst this
    exact ⟨Nat.le_refl _, rfl⟩
  ca := fun e he _ c => by
    have : e = 0 := by have : e < 1 := he; omega
    subst this
    show c ∈ [0] ↔ c < 1 ∧ (RS.new L g).eld c = 0
    rw [List.mem_singleton]
    constructor
    · rintro rfl; exact ⟨by decide, rfl⟩
    · rintro ⟨h, _⟩; omega
  cb := fun e c hc => by
    have : (RS.new L g).cal e = [0] ∨ (RS.new L g).cal e = [] := by
      rcases e with _ | e
      · exact .inl rfl
      · exact .inr rfl
    show c < 1
    rcases this with q | q <;> rw [q] at hc
    · rw [List.mem_singleton.mp hc]; decide
    · cases hc
  cn := fun e => by
    rcases e with _ | e
    · show [0].Nodup; simp
    · exact List.nodup_nil
  kn := fun c => by
    rcases c with _ | c <;> exact List.nodup_nil
  st := fun c z d h => by
    have : (RS.new L g).by c z = none := by rcases c with _ | c <;> rfl
    rw [this] at h; cases h
  sy := fun c z d h => by
    have : (RS.new L g).by c z = none := by rcases c with _ | c <;> rfl
    rw [this] at h; cases h
  pl := fun w hw => by cases hw
  rl := fun _ _ _ h => h.elim
  cv := fun _ _ _ h => h.elim
  so := fun c z d h => by
    have : (RS.new L g).by c z = none := by rcases c with _ | c <;> rfl
    rw [this] at h; cases h
  sp := fun w hw => by cases hw
  cg := fun c hc => by
    have : c = 0 := by have : c < 1 := hc; omega
    subst this
    exact .refl _
section
variable {S : RS} {R : Nat → Int → Nat → Prop}
theorem Good.lay (h : Good S [] R) {c d : Nat} (z : Int) (hc : c < S.made) (hd : d < S.made) (rows : List Dt) : Good { S with rows := rows } [(c, z, d)] (RAdd R c z d) where
  wf := ⟨h.wf.w, h.wf.g, h.wf.e, h.wf.c⟩
  el := h.el
  ca := h.ca
  cb := h.cb
  cn := h.cn
  kn := h.kn
  st := h.st
  sy := h.sy
  pl := fun w hw => by rw [List.mem_singleton.mp hw]; exact ⟨hc, hd⟩
  rl := by
    rintro a s b (r | ⟨rfl, rfl, rfl⟩ | ⟨rfl, rfl, rfl⟩)
    · obtain ⟨q1, q2, q3⟩ := h.rl _ _ _ r; exact ⟨q1, q2, .inl q3⟩
    · exact ⟨hc, hd, .inr (.inr ⟨rfl, rfl, rfl⟩)⟩
    · exact ⟨hd, hc, .inr (.inl ⟨rfl, Int.neg_neg _, rfl⟩)⟩
  cv := by
    rintro a s b (r | ⟨rfl, rfl, rfl⟩ | ⟨rfl, rfl, rfl⟩)
    · rcases h.cv _ _ _ r with q | ⟨w, hw, _⟩
      · exact .inl q
      · cases hw
    · exact .inr ⟨_, List.mem_cons_self, .inl ⟨rfl, rfl, rfl⟩⟩
    · exact .inr ⟨_, List.mem_cons_self, .inr ⟨rfl, (Int.neg_neg _).symm, rfl⟩⟩
  so := fun a s b e => by
    obtain ⟨c', d', r, e1, e2⟩ := h.so a s b e
    exact ⟨c', d', .inl r, e1, e2⟩
  sp := fun w hw => by
    rw [List.mem_singleton.mp hw]
    exact ⟨c, d, radd_new, rfl, rfl⟩
  cg := fun a ha => (h.cg a ha).mono radd_sub
theorem eld_grown (hw : S.Wf) (c : Nat) (z : Int) (g : List Int) (a : Nat) : (S.grown c z g).eld a = if a = S.made then S.made else S.eld a := by
  unfold RS.eld
  show (S.elders ++ [S.made]).getD a 0 = _
  rw [List.getD_eq_getElem?_getD]
  by_cases e : a = S.made
  · rw [if_pos e, e, List.getElem?_append_right (by rw [hw.e]; exact Nat.le_refl _), hw.e, Nat.sub_self]; rfl
  · rw [if_neg e, List.getD_eq_getElem?_getD]
    by_cases q : a < S.made
    · rw [List.getElem?_append_left (by rw [hw.e]; exact q)]
    · rw [List.getElem?_eq_none (by rw [List.length_append, hw.e]; show S.made + 1 ≤ a; omega), List.getElem?_eq_none (by rw [hw.e]; omega)]
theorem cal_grown (hw : S.Wf) (c : Nat) (z : Int) (g : List Int) (a : Nat) : (S.grown c z g).cal a = if a = S.made then [S.made] else S.cal a := by
  unfold RS.cal
  show (S.called ++ [[S.made]]).getD a [] = _
  rw [List.getD_eq_getElem?_getD]
  by_cases e : a = S.made
  · rw [if_pos e, e, List.getElem?_append_right (by rw [hw.c]; exact Nat.le_refl _), hw.c, Nat.sub_self]; rfl
  · rw [if_neg e, List.getD_eq_getElem?_getD]
    by_cases q : a < S.made
    · rw [List.getElem?_append_left (by rw [hw.c]; exact q)]
    · rw [List.getElem?_eq_none (by rw [List.length_append, hw.c]; show S.made + 1 ≤ a; omega), List.getElem?_eq_none (by rw [hw.c]; omega)]
theorem way_grown (hw : S.Wf) (c : Nat) (z : Int) (g : List Int) (a : Nat) : (S.grown c z g).way a = S.way a := by
  unfold RS.way
  show (S.ways ++ [[]]).getD a [] = _
  rw [List.getD_eq_getElem?_getD, List.getD_eq_getElem?_getD]
  by_cases q : a < S.ways.length
  · rw [List.getElem?_append_left q]
  · rw [List.getElem?_append_right (by omega), List.getElem?_eq_none (l := S.ways) (by omega)]
    by_cases h2 : a - S.ways.length = 0
    · rw [h2]; rfl
    · rw [List.getElem?_eq_none (by simp; omega)]
theorem Good.make (h : Good S [] R) {c : Nat} {z : Int} (hc : c < S.made) (ec : S.eld c = c) (hn : S.by c z = none) (g : List Int) : Good (S.make c z g) [] (RAdd R c z S.made) := by
  have hw := h.wf
  have elo : ∀ a, a < S.made → (S.grown c z g).eld a = S.eld a := fun a ha => by rw [eld_grown hw, if_neg (by omega)]
  have eln : (S.grown c z g).eld S.made = S.made := by rw [eld_grown hw, if_pos rfl]
  have byg : ∀ a s, (S.grown c z g).by a s = S.by a s := fun a s => by unfold RS.by; rw [way_grown hw]
  have G : Good (S.grown c z g) [(c, z, S.made)] (RAdd R c z S.made) := by
    refine ⟨⟨?_, ?_, ?_, ?_⟩, fun a ha => ?_, fun e he ee a => ?_, fun e a ha => ?_, fun e => ?_, fun a => ?_, fun a s b e => ?_, fun a s b e => ?_, fun w hw => ?_, ?_, ?_, fun a s b e => ?_, fun w hw => ?_, fun a ha => ?_⟩
    · show (S.ways ++ [[]]).length = S.made + 1; rw [List.length_append, hw.w]; rfl
    · show (S.gaps ++ [_]).length = S.made + 1; rw [List.length_append, hw.g]; rfl
    · show (S.elders ++ [_]).length = S.made + 1; rw [List.length_append, hw.e]; rfl
    · show (S.called ++ [_]).length = S.made + 1; rw [List.length_append, hw.c]; rfl
    · have ha' : a < S.made + 1 := ha
      by_cases e : a = S.made
      · rw [e, eln]; exact ⟨Nat.le_refl _, eln⟩
      · have hl : a < S.made := by omega
        rw [elo a hl]
        obtain ⟨q1, q2⟩ := h.el a hl
        exact ⟨q1, by rw [elo _ (by omega)]; exact q2⟩
    · have he' : e < S.made + 1 := he
      show _ ↔ a < S.made + 1 ∧ _
      rw [cal_grown hw, eld_grown hw]
      by_cases q : e = S.made
      · subst q
        rw [if_pos rfl, List.mem_singleton]
        constructor
        · rintro rfl; exact ⟨by omega, by rw [if_pos rfl]⟩
        · rintro ⟨q1, q2⟩
          by_cases q3 : a = S.made
          · exact q3
          · rw [if_neg q3] at q2
            have := (h.el a (by omega)).1
            omega
      · have hl : e < S.made := by omega
        rw [elo e hl] at ee
        rw [if_neg q, h.ca e hl ee a]
        constructor
        · rintro ⟨q1, q2⟩; exact ⟨by omega, by rw [if_neg (by omega)]; exact q2⟩
        · rintro ⟨q1, q2⟩
          by_cases q3 : a = S.made
          · rw [if_pos q3] at q2; exact absurd q2.symm q
          · rw [if_neg q3] at q2; exact ⟨by omega, q2⟩
    · show a < S.made + 1
      rw [cal_grown hw] at ha
      split at ha
      · rw [List.mem_singleton.mp ha]; omega
      · exact Nat.lt_succ_of_lt (h.cb e a ha)
    · rw [cal_grown hw]
      split
      · simp
      · exact h.cn e
    · rw [way_grown hw]; exact h.kn a
    · rw [byg] at e
      obtain ⟨q1, q2, q3, q4⟩ := h.st a s b e
      exact ⟨Nat.lt_succ_of_lt q1, Nat.lt_succ_of_lt q2, by rw [elo a q1]; exact q3, by rw [elo b q2]; exact q4⟩
    · rw [byg] at e ⊢; exact h.sy a s b e
    · rw [List.mem_singleton.mp hw]; exact ⟨Nat.lt_succ_of_lt hc, Nat.lt_succ_self _⟩
    · rintro a s b (r | ⟨rfl, rfl, rfl⟩ | ⟨rfl, rfl, rfl⟩)
      · obtain ⟨q1, q2, q3⟩ := h.rl _ _ _ r; exact ⟨Nat.lt_succ_of_lt q1, Nat.lt_succ_of_lt q2, .inl q3⟩
      · exact ⟨Nat.lt_succ_of_lt hc, Nat.lt_succ_self _, .inr (.inr ⟨rfl, rfl, rfl⟩)⟩
      · exact ⟨Nat.lt_succ_self _, Nat.lt_succ_of_lt hc, .inr (.inl ⟨rfl, Int.neg_neg _, rfl⟩)⟩
    · rintro a s b (r | ⟨rfl, rfl, rfl⟩ | ⟨rfl, rfl, rfl⟩)
      · obtain ⟨q1, q2, _⟩ := h.rl _ _ _ r
        rcases h.cv _ _ _ r with q | ⟨w, hw, _⟩
        · exact .inl (by rw [elo a q1, elo b q2, byg]; exact q)
        · cases hw
      · exact .inr ⟨_, List.mem_cons_self, .inl ⟨rfl, rfl, rfl⟩⟩
      · exact .inr ⟨_, List.mem_cons_self, .inr ⟨rfl, (Int.neg_neg _).symm, rfl⟩⟩
    · rw [byg] at e
      obtain ⟨c', d', r, e1, e2⟩ := h.so a s b e
      obtain ⟨q1, q2, _⟩ := h.rl _ _ _ r
      exact ⟨c', d', .inl r, by rw [elo c' q1]; exact e1, by rw [elo d' q2]; exact e2⟩
    · rw [List.mem_singleton.mp hw]
      exact ⟨c, S.made, radd_new, rfl, rfl⟩
    · have ha' : a < S.made + 1 := ha
      by_cases e : a = S.made
      · rw [e, eln]; exact .refl _
      · rw [elo a (by omega)]; exact (h.cg a (by omega)).mono radd_sub
  have e1 : (S.grown c z g).eld c = c := by rw [elo c hc]; exact ec
  have i := G.sp _ List.mem_cons_self
  rw [show (c, z, S.made).1 = c from rfl, show (c, z, S.made).2.2 = S.made from rfl, e1, eln] at i
  refine G.keep (Nat.lt_succ_of_lt hc) (Nat.lt_succ_self _) e1 eln i (.inl (by rw [byg]; exact hn)) (.inl ?_) (fun w hw => by cases hw) (fun w hw _ => by rw [List.mem_singleton.mp hw]; exact ⟨e1, rfl, eln⟩)
  rw [byg]
  cases e : S.by S.made (-z) with
  | none => rfl
  | some b => have := (h.st _ _ _ e).1; omega
end
end L2
set_option Elab.async false
set_option linter.all false
set_option maxRecDepth 100000
set_option maxHeartbeats 4000000
namespace L2
open PySem PySem.Spec PyProof.Rows
def RowR (n : Nat) (s : Int) : Nat → Int → Nat → Prop := fun a z b => (z = s ∧ b = a + 1 ∧ b < n) ∨ (z = -s ∧ a = b + 1 ∧ a < n)
section
variable {n one other : Nat} {s : Int}
variable (hs : s = 1 ∨ s = -1) (h1 : one < n) (h2 : other < n) {S : RS} (g : Good S [] (RAdd (RowR n s) one s other)) (hm : S.made = n)
include hs h1 h2 g hm
end
end L2
set_option Elab.async false
set_option linter.all false
set_option maxRecDepth 100000
set_option maxHeartbeats 4000000
namespace L2
open PySem PySem.Spec PyProof.Rows
section
variable {X : Cx}
end
end L2
set_option Elab.async false
set_option linter.all false
set_option maxRecDepth 100000
set_option maxHeartbeats 4000000
namespace L2
open PySem PySem.Spec PyProof.Rows
section
variable {X : Cx}
theorem compScope3 {x y z v : Str} {scope : Scope} {c d e : Addr} {i j l : Nat} (hclos : closureFor scope X.env = pure [(y, c), (z, d), (v, e)]) (hy : X.env.cells.lookup y = some c) (hz : X.env.cells.lookup z = some d) (hv : X.env.cells.lookup v = some e) (hc : ∀ q ∈ scope.names, q.2 ≠ .cell) (hk : scope.kind = .function)
    (hn : ∀ q ∈ scope.names, q.2 = .local → scope.names.lookup q.1 = some .local) (hx : scope.names.lookup x = some .local) (hfree : ∀ q ∈ scope.names, q.2 = .free → q.1 = y ∨ q.1 = z ∨ q.1 = v) (hxy : (x ≠ y ∧ x ≠ z ∧ x ≠ v) ∧ y ≠ z ∧ y ≠ v ∧ z ≠ v) (hi : X.N[i]? = some y) (hj : X.N[j]? = some z) (hl : X.N[l]? = some v)
    (hky : X.env.kindOf y = some .cell) (hkz : X.env.kindOf z = some .cell) (hkv : X.env.kindOf v = some .cell) (hkf : X.env.scope.kind = .function) (hys : scope.names.lookup y = some .free) (hzs : scope.names.lookup z = some .free) (hvs : scope.names.lookup v = some .free) : CompScope X x [y, z, v] [i, j, l] scope [(y, c), (z, d), (v, e)] where
  clos := hclos
  sub := fun w q h => by
    by_cases e1 : w = y
    · subst e1
      have : c = q := by simpa [List.lookup_cons] using h
      rw [← this]
      exact hy
    · have hb : (w == y) = false := beq_eq_false_iff_ne.mpr e1
      by_cases e2 : w = z
      · subst e2
        have : d = q := by simpa [List.lookup_cons, hb] using h
        rw [← this]
        exact hz
      · have hb2 : (w == z) = false := beq_eq_false_iff_ne.mpr e2
        by_cases e3 : w = v
        · subst e3
          have : e = q := by simpa [List.lookup_cons, hb, hb2] using h
          rw [← this]
          exact hv
        · have hb3 : (w == v) = false := beq_eq_false_iff_ne.mpr e3
          simp [List.lookup_cons, hb, hb2, hb3] at h
  cell := hc
  kind := hk
  names := hn
  own := hx
  has := fun w h => by
    have ew : w = y ∨ w = z ∨ w = v := by
      rcases h with h | h
      · exact hfree _ (relabel_mem h (.inl rfl) hc) rfl
      · exact hfree _ (relabel_mem h (.inr rfl) hc) rfl
    rcases ew with rfl | rfl | rfl
    · exact ⟨c, by simp [List.lookup_cons]⟩
    · have hb : (w == y) = false := beq_eq_false_iff_ne.mpr (fun q => hxy.2.1 q.symm)
      exact ⟨d, by simp [List.lookup_cons, hb]⟩
    · have hb : (w == y) = false := beq_eq_false_iff_ne.mpr (fun q => hxy.2.2.1 q.symm)
      have hb2 : (w == z) = false := beq_eq_false_iff_ne.mpr (fun q => hxy.2.2.2 q.symm)
      exact ⟨e, by simp [List.lookup_cons, hb, hb2]⟩
  nd := by simp [hxy.1.1, hxy.1.2.1, hxy.1.2.2, hxy.2.1, hxy.2.2.1, hxy.2.2.2]
  len := rfl
  at_ := fun k w h => by
    match k, h with
    | 0, h =>
      have e : y = w := by simpa using h
      subst e
      exact ⟨i, rfl, hi, .inl hky, c, by simp [List.lookup_cons], .inl (lookup_relabel_free hkf hky hys)⟩
    | 1, h =>
      have e : z = w := by simpa using h
      subst e
      have hb : (z == y) = false := beq_eq_false_iff_ne.mpr (fun q => hxy.2.1 q.symm)
      exact ⟨j, rfl, hj, .inl hkz, d, by simp [List.lookup_cons, hb], .inl (lookup_relabel_free hkf hkz hzs)⟩
    | 2, h =>
      have ew : v = w := by simpa using h
      subst ew
      have hb : (v == y) = false := beq_eq_false_iff_ne.mpr (fun q => hxy.2.2.1 q.symm)
      have hb2 : (v == z) = false := beq_eq_false_iff_ne.mpr (fun q => hxy.2.2.2 q.symm)
      exact ⟨l, rfl, hl, .inl hkv, e, by simp [List.lookup_cons, hb, hb2], .inl (lookup_relabel_free hkf hkv hvs)⟩
    | k + 3, h => simp at h
end
end L2
set_option Elab.async false
set_option linter.all false
set_option maxRecDepth 100000
set_option maxHeartbeats 4000000
namespace M11
def flip (k : Nat) : Nat := if k % 2 = 0 then k + 1 else k - 1
def nx (T : List (List Int)) (k i : Nat) : Nat := ((T.getD i []).getD k 0).toNat
structure Tab (L : Nat) (T : List (List Int)) : Prop where
  pos : 1 ≤ T.length
  top : T.length ≤ 300
  let1 : 1 ≤ L
  let2 : L ≤ 40
  row : ∀ (i : Nat) (r : List Int), T[i]? = some r → r.length = 2 * L
  val : ∀ i k, i < T.length → k < 2 * L → ∃ r : List Int, T[i]? = some r ∧ r[k]? = some ((nx T k i : Nat) : Int)
  lt : ∀ i k, i < T.length → k < 2 * L → nx T k i < T.length
  back : ∀ i k, i < T.length → k < 2 * L → nx T (flip k) (nx T k i) = i
def pl (s : Int) : Nat := if 0 < s then 2 * s.natAbs - 2 else 2 * s.natAbs - 1
def walk (T : List (List Int)) (w : List Int) (i : Nat) : Nat := w.foldl (fun i s => nx T (pl s) i) i
def Steps (L : Nat) (w : List Int) : Prop := ∀ s ∈ w, s ≠ 0 ∧ s.natAbs ≤ L
def back (w : List Int) : List Int := w.reverse.map fun z => -z
theorem pl_lt {L : Nat} {s : Int} (h : s ≠ 0 ∧ s.natAbs ≤ L) : pl s < 2 * L := by
  unfold pl
  split <;> omega
theorem pl_flip {s : Int} (h : s ≠ 0) : pl (-s) = flip (pl s) := by
  unfold pl flip
  rw [Int.natAbs_neg]
  by_cases h1 : 0 < s
  · rw [if_pos h1, if_neg (show ¬ 0 < -s by omega), if_pos (by omega)]
    omega
  · rw [if_neg h1, if_pos (show 0 < -s by omega), if_neg (by omega)]
    omega
theorem walk_lt {L : Nat} {T : List (List Int)} (hT : Tab L T) : ∀ {w : List Int} {i : Nat}, Steps L w → i < T.length → walk T w i < T.length
  | [], i, _, hi => hi
  | s :: w, i, hw, hi => walk_lt hT (w := w) (fun s hs => hw s (List.mem_cons_of_mem _ hs)) (hT.lt i (pl s) hi (pl_lt (hw s (List.mem_cons_self ..))))
theorem walk_app (T : List (List Int)) (w u : List Int) (i : Nat) : walk T (w ++ u) i = walk T u (walk T w i) := List.foldl_append ..
theorem walk_back {L : Nat} {T : List (List Int)} (hT : Tab L T) : ∀ {w : List Int} {i : Nat}, Steps L w → i < T.length → walk T (w ++ back w) i = i
  | [], i, _, _ => rfl
  | s :: w, i, hw, hi => by
    have hs := hw s (List.mem_cons_self ..)
    have hw' : Steps L w := fun s hs => hw s (List.mem_cons_of_mem _ hs)
    have e : back (s :: w) = back w ++ [-s] := by unfold back; rw [List.reverse_cons, List.map_append]; rfl
    have ih := walk_back hT (i := nx T (pl s) i) hw' (hT.lt i (pl s) hi (pl_lt hs))
    rw [e, List.cons_append, ← List.append_assoc]
    show walk T ((w ++ back w) ++ [-s]) (nx T (pl s) i) = i
    rw [walk_app, ih]
    show nx T (pl (-s)) (nx T (pl s) i) = i
    rw [pl_flip hs.1]
    exact hT.back i (pl s) hi (pl_lt hs)
theorem steps_back {L : Nat} {w : List Int} (h : Steps L w) : Steps L (back w) := fun s hs => by
  unfold back at hs
  obtain ⟨y, hy, rfl⟩ := List.mem_map.mp hs
  have := h y (List.mem_reverse.mp hy)
  omega
structure Pm (p : Nat) (r : List Int) : Prop where
  len : r.length = p
  nd : r.Nodup
  rg : ∀ z ∈ r, 0 ≤ z ∧ z < (p : Int)
theorem Pm.at {p : Nat} {r : List Int} (h : Pm p r) {i : Nat} (hi : i < p) : ∃ j : Nat, r[i]? = some (j : Int) ∧ j < p := by
  have hl : i < r.length := by rw [h.len]; exact hi
  have := h.rg r[i] (List.getElem_mem hl)
  exact ⟨r[i].toNat, by rw [List.getElem?_eq_getElem hl, show ((r[i].toNat : Nat) : Int) = r[i] by omega], by omega⟩
theorem flip_lt {k L : Nat} (h : k < 2 * L) : flip k < 2 * L := by unfold flip; split <;> omega
def RowOk (L : Nat) (f : Nat → Int → Int) (come : List Int) (x : Int) (r : List Int) (m : Nat) : Prop := r.length = m ∧ ∀ k, k < m → ∃ j : Nat, r[k]? = some (j : Int) ∧ come[j]? = some (f k x)
theorem nodup_len : ∀ (n : Nat) (l : List Nat), l.Nodup → (∀ x ∈ l, x < n) → l.length ≤ n
  | 0, [], _, _ => Nat.le_refl _
  | 0, a :: l, _, h => absurd (h a (List.mem_cons_self ..)) (by omega)
  | n + 1, l, hn, h => by
    by_cases hm : n ∈ l
    · have := nodup_len n (l.erase n) (hn.erase n) (fun x hx => by
        have h1 := (hn.mem_erase_iff).mp hx
        have h2 := h x h1.2
        have h3 := h1.1
        omega)
      rw [List.length_erase_of_mem hm] at this
      omega
    · have := nodup_len n l hn (fun x hx => by
        have h2 := h x hx
        have h3 : x ≠ n := fun z => hm (by rw [← z]; exact hx)
        omega)
      omega
theorem nodup_lenI {n : Nat} {l : List Int} (hn : l.Nodup) (h : ∀ x ∈ l, 0 ≤ x ∧ x < (n : Int)) : l.length ≤ n := by
  have h1 : (l.map Int.toNat).Nodup := by
    refine List.pairwise_map.mpr (List.Pairwise.imp_of_mem ?_ hn)
    intro a b ha hb hab z
    have := h a ha
    have := h b hb
    exact hab (by omega)
  have := nodup_len n (l.map Int.toNat) h1 (fun x hx => by
    obtain ⟨y, hy, rfl⟩ := List.mem_map.mp hx
    have := h y hy
    omega)
  rw [List.length_map] at this
  exact this
theorem Pm.surj {p : Nat} {r : List Int} (h : Pm p r) {x : Nat} (hx : x < p) : ∃ i : Nat, r[i]? = some (x : Int) ∧ i < p := by
  have hm : (x : Int) ∈ r := by
    refine Classical.byContradiction fun hm => ?_
    have := nodup_lenI (n := p) (l := (x : Int) :: r) (List.nodup_cons.mpr ⟨hm, h.nd⟩) (fun y hy => by
      rcases List.mem_cons.mp hy with e | hy
      · rw [e]; omega
      · exact h.rg y hy)
    rw [List.length_cons, h.len] at this
    omega
  obtain ⟨i, hi, e⟩ := List.mem_iff_getElem.mp hm
  exact ⟨i, by rw [List.getElem?_eq_getElem hi, e], by rw [← h.len]; exact hi⟩
def InvOf (p : Nat) (r t : List Int) : Prop := t.length = p ∧ ∀ k j : Nat, r[k]? = some (j : Int) → t[j]? = some (k : Int)
def InvTo (p : Nat) (r t : List Int) (n : Nat) : Prop := t.length = p ∧ ∀ k j : Nat, k < n → r[k]? = some (j : Int) → t[j]? = some (k : Int)
end M11
namespace M12
open M11
def Fc (W : Nat) (E : List Int) (N : Nat) : Prop := (∀ z ∈ E, 0 ≤ z ∧ z < (N : Int)) ∧ ∀ j : Nat, 0 < j → j < N → ∃ p : Nat, p < j * W ∧ E[p]? = some (j : Int) ∧ ∀ (q : Nat) (z : Int), q < p → E[q]? = some z → z < (j : Int)
theorem flat_at {W : Nat} (hW : 0 < W) : ∀ {T : List (List Int)} {i k : Nat} {r : List Int}, (∀ (i : Nat) (r : List Int), T[i]? = some r → r.length = W) → T[i]? = some r → k < W → T.flatten[i * W + k]? = r[k]?
  | [], i, k, r, _, hr, _ => by simp at hr
  | s :: T, 0, k, r, h, hr, hk => by
    have e : s = r := Option.some.inj hr
    subst e
    rw [List.flatten_cons, Nat.zero_mul, Nat.zero_add, List.getElem?_append_left (by rw [h 0 s rfl]; exact hk)]
  | s :: T, i + 1, k, r, h, hr, hk => by
    have hs := h 0 s rfl
    rw [List.flatten_cons, List.getElem?_append_right (by rw [hs, Nat.succ_mul]; omega), hs]
    have e : (i + 1) * W + k - W = i * W + k := by rw [Nat.succ_mul]; omega
    rw [e]
    exact flat_at hW (fun i r hr => h (i + 1) r hr) hr hk
def st (k : Nat) : Int := if k % 2 = 0 then ((k / 2 + 1 : Nat) : Int) else -((k / 2 + 1 : Nat) : Int)
theorem pl_st (k : Nat) : pl (st k) = k := by
  unfold pl st
  by_cases h : k % 2 = 0
  · rw [if_pos h, if_pos (by omega)]; omega
  · rw [if_neg h, if_neg (by omega)]; omega
theorem st_ok {k L : Nat} (h : k < 2 * L) : st k ≠ 0 ∧ (st k).natAbs ≤ L := by
  unfold st
  split <;> omega
def lexL : List Nat → List Nat → Prop
  | a :: u, b :: v => a < b ∨ (a = b ∧ lexL u v)
  | _, _ => False
def aheadN (u v : List Nat) : Prop := u.length < v.length ∨ (u.length = v.length ∧ lexL u v)
theorem lex_snoc : ∀ {u v : List Nat} {a b : Nat}, u.length = v.length → lexL u v → lexL (u ++ [a]) (v ++ [b])
  | x :: u, y :: v, a, b, hl, h => by
    rcases h with h | ⟨e, h⟩
    · exact .inl h
    · exact .inr ⟨e, lex_snoc (by simpa using hl) h⟩
theorem lex_last : ∀ {u : List Nat} {a b : Nat}, a < b → lexL (u ++ [a]) (u ++ [b])
  | [], a, b, h => .inl h
  | x :: u, a, b, h => .inr ⟨rfl, lex_last h⟩
theorem ahead_snoc {u v : List Nat} {a b : Nat} (h : aheadN u v) : aheadN (u ++ [a]) (v ++ [b]) := by
  rcases h with h | ⟨e, h⟩
  · exact .inl (by simp only [List.length_append, List.length_cons, List.length_nil]; omega)
  · exact .inr ⟨by simp only [List.length_append, List.length_cons, List.length_nil]; omega, lex_snoc e h⟩
theorem ahead_last {u : List Nat} {a b : Nat} (h : a < b) : aheadN (u ++ [a]) (u ++ [b]) := .inr ⟨by simp, lex_last h⟩
def Lw (L : Nat) (T : List (List Int)) (ws : List (List Nat)) : Prop := ws.length = T.length ∧ ws[0]? = some [] ∧
  ∀ (j p : Nat), 0 < j → j < T.length → T.flatten[p]? = some (j : Int) → (∀ (q : Nat) (z : Int), q < p → T.flatten[q]? = some z → z < (j : Int)) → ∃ u, ws[p / (2 * L)]? = some u ∧ ws[j]? = some (u ++ [p % (2 * L)])
section
variable {L : Nat} {T : List (List Int)} {ws : List (List Nat)} (hT : Tab L T) (hF : Fc (2 * L) T.flatten T.length) (hw : Lw L T ws)
include hT hF hw
theorem mono : ∀ (i' i : Nat), i < i' → i' < T.length → ∀ u v, ws[i]? = some u → ws[i']? = some v → aheadN u v := by
  have hL := hT.let1
  intro i'
  induction i' using Nat.strongRecOn with
  | _ i' ih =>
    intro i hlt hi' u v hu hv
    obtain ⟨p', a1, a2, a3⟩ := hF.2 i' (by omega) hi'
    obtain ⟨v0, b1, b2⟩ := hw.2.2 i' p' (by omega) hi' a2 a3
    have ev : v = v0 ++ [p' % (2 * L)] := Option.some.inj (hv.symm.trans b2)
    by_cases h0 : i = 0
    · subst h0
      have eu : u = [] := Option.some.inj (hu.symm.trans hw.2.1)
      rw [eu, ev]
      exact .inl (by simp)
    · obtain ⟨p, c1, c2, c3⟩ := hF.2 i (by omega) (by omega)
      obtain ⟨u0, d1, d2⟩ := hw.2.2 i p (by omega) (by omega) c2 c3
      have eu : u = u0 ++ [p % (2 * L)] := Option.some.inj (hu.symm.trans d2)
      have hpp : p < p' := by
        refine Classical.byContradiction fun hn => ?_
        by_cases e : p = p'
        · rw [e, a2] at c2
          have := Option.some.inj c2
          omega
        · have := c3 p' _ (by omega) a2
          omega
      have hrow : p' / (2 * L) < i' := by
        rw [Nat.div_lt_iff_lt_mul (by omega)]
        exact a1
      rw [eu, ev]
      by_cases er : p / (2 * L) = p' / (2 * L)
      · rw [er] at d1
        have e0 : u0 = v0 := Option.some.inj (d1.symm.trans b1)
        rw [e0]
        refine ahead_last ?_
        have h1 := Nat.div_add_mod p (2 * L)
        have h2 := Nat.div_add_mod p' (2 * L)
        rw [er] at h1
        omega
      · have hlt2 : p / (2 * L) < p' / (2 * L) := by
          have := Nat.div_le_div_right (c := 2 * L) (Nat.le_of_lt hpp)
          omega
        exact ahead_snoc (ih _ hrow _ hlt2 (by omega) _ _ d1 b1)
end
end M12
namespace M24
def add (come : List Nat) (y : Nat) : List Nat := if y ∈ come then come else come ++ [y]
def addR (f : Nat → Nat → Nat) (x : Nat) (come : List Nat) (k : Nat) : List Nat := (List.range k).foldl (fun c i => add c (f i x)) come
theorem addR_succ (f : Nat → Nat → Nat) (x : Nat) (come : List Nat) (k : Nat) : addR f x come (k + 1) = add (addR f x come k) (f k x) := by
  unfold addR
  rw [List.range_succ, List.foldl_append]
  rfl
def orb (f : Nat → Nat → Nat) (k x0 : Nat) : Nat → List Nat
  | 0 => [x0]
  | n + 1 => match (orb f k x0 n)[n]? with
    | some x => addR f x (orb f k x0 n) k
    | none => orb f k x0 n
theorem orb_zero (f : Nat → Nat → Nat) (k x0 : Nat) : orb f k x0 0 = [x0] := rfl
theorem orb_some {f : Nat → Nat → Nat} {k x0 n x : Nat} (h : (orb f k x0 n)[n]? = some x) : orb f k x0 (n + 1) = addR f x (orb f k x0 n) k := by
  rw [orb, h]
theorem orb_none {f : Nat → Nat → Nat} {k x0 n : Nat} (h : (orb f k x0 n)[n]? = none) : orb f k x0 (n + 1) = orb f k x0 n := by
  rw [orb, h]
theorem add_pre (come : List Nat) (y : Nat) : ∃ t, add come y = come ++ t := by
  unfold add
  split
  · exact ⟨[], (List.append_nil _).symm⟩
  · exact ⟨[y], rfl⟩
theorem addR_pre (f : Nat → Nat → Nat) (x : Nat) (come : List Nat) : ∀ k, ∃ t, addR f x come k = come ++ t
  | 0 => ⟨[], (List.append_nil _).symm⟩
  | k + 1 => by
    obtain ⟨t, ht⟩ := addR_pre f x come k
    obtain ⟨u, hu⟩ := add_pre (addR f x come k) (f k x)
    exact ⟨t ++ u, by rw [addR_succ, hu, ht, List.append_assoc]⟩
theorem orb_pre1 (f : Nat → Nat → Nat) (k x0 n : Nat) : ∃ t, orb f k x0 (n + 1) = orb f k x0 n ++ t := by
  cases h : (orb f k x0 n)[n]? with
  | none => exact ⟨[], by rw [orb_none h, List.append_nil]⟩
  | some x => obtain ⟨t, ht⟩ := addR_pre f x (orb f k x0 n) k; exact ⟨t, by rw [orb_some h, ht]⟩
theorem orb_pre (f : Nat → Nat → Nat) (k x0 n : Nat) : ∀ m, ∃ t, orb f k x0 (n + m) = orb f k x0 n ++ t
  | 0 => ⟨[], (List.append_nil _).symm⟩
  | m + 1 => by
    obtain ⟨t, ht⟩ := orb_pre f k x0 n m
    obtain ⟨u, hu⟩ := orb_pre1 f k x0 (n + m)
    exact ⟨t ++ u, by rw [← Nat.add_assoc, hu, ht, List.append_assoc]⟩
theorem mem_add {come : List Nat} {y z : Nat} : z ∈ add come y ↔ z ∈ come ∨ z = y := by
  unfold add
  split
  · rename_i h
    exact ⟨.inl, fun q => q.elim id fun e => by rw [e]; exact h⟩
  · rw [List.mem_append, List.mem_singleton]
theorem add_nd {come : List Nat} (h : come.Nodup) (y : Nat) : (add come y).Nodup := by
  unfold add
  split
  · exact h
  · rename_i hy
    rw [List.nodup_append]
    exact ⟨h, by simp, fun a ha b hb => by rw [List.mem_singleton.mp hb]; exact fun z => hy (by rw [← z]; exact ha)⟩
theorem addR_nd {f : Nat → Nat → Nat} {x : Nat} {come : List Nat} (h : come.Nodup) : ∀ k, (addR f x come k).Nodup
  | 0 => h
  | k + 1 => by rw [addR_succ]; exact add_nd (addR_nd h k) _
theorem orb_nd (f : Nat → Nat → Nat) (k x0 : Nat) : ∀ n, (orb f k x0 n).Nodup
  | 0 => by rw [orb_zero]; simp
  | n + 1 => by
    cases h : (orb f k x0 n)[n]? with
    | none => rw [orb_none h]; exact orb_nd f k x0 n
    | some x => rw [orb_some h]; exact addR_nd (orb_nd f k x0 n) k
theorem mem_addR {f : Nat → Nat → Nat} {x : Nat} {come : List Nat} {z : Nat} : ∀ {k : Nat}, z ∈ addR f x come k ↔ z ∈ come ∨ ∃ i, i < k ∧ z = f i x
  | 0 => ⟨.inl, fun q => q.elim id fun ⟨i, hi, _⟩ => absurd hi (Nat.not_lt_zero _)⟩
  | k + 1 => by
    rw [addR_succ, mem_add, mem_addR (k := k)]
    constructor
    · rintro ((h | ⟨i, hi, e⟩) | h)
      · exact .inl h
      · exact .inr ⟨i, by omega, e⟩
      · exact .inr ⟨k, by omega, h⟩
    · rintro (h | ⟨i, hi, e⟩)
      · exact .inl (.inl h)
      · by_cases hk : i = k
        · rw [hk] at e; exact .inr e
        · exact .inl (.inr ⟨i, by omega, e⟩)
theorem orb_all {f : Nat → Nat → Nat} {k x0 : Nat} {P : Nat → Prop} (h0 : P x0) (hs : ∀ x i, P x → i < k → P (f i x)) : ∀ n, ∀ z ∈ orb f k x0 n, P z
  | 0, z, hz => by rw [orb_zero, List.mem_singleton] at hz; rw [hz]; exact h0
  | n + 1, z, hz => by
    cases h : (orb f k x0 n)[n]? with
    | none => rw [orb_none h] at hz; exact orb_all h0 hs n z hz
    | some x =>
      rw [orb_some h, mem_addR] at hz
      rcases hz with hz | ⟨i, hi, rfl⟩
      · exact orb_all h0 hs n z hz
      · exact hs _ _ (orb_all h0 hs n x (List.mem_of_getElem? h)) hi
theorem orb_closed {f : Nat → Nat → Nat} {k x0 : Nat} : ∀ {n j x i : Nat}, j < n → (orb f k x0 n)[j]? = some x → i < k → f i x ∈ orb f k x0 n
  | n + 1, j, x, i, hj, hx, hi => by
    cases h : (orb f k x0 n)[n]? with
    | none =>
      rw [orb_none h] at hx ⊢
      have h1 := List.getElem?_eq_none_iff.mp h
      have h2 := (List.getElem?_eq_some_iff.mp hx).1
      exact orb_closed (show j < n by omega) hx hi
    | some y =>
      obtain ⟨t, ht⟩ := addR_pre f y (orb f k x0 n) k
      have hn := (List.getElem?_eq_some_iff.mp h).1
      have hx' : (orb f k x0 n)[j]? = some x := by
        rw [orb_some h, ht, List.getElem?_append_left (by omega)] at hx
        exact hx
      by_cases e : j = n
      · rw [e, h] at hx'
        rw [orb_some h, mem_addR]
        exact .inr ⟨i, hi, by rw [Option.some.inj hx']⟩
      · rw [orb_some h, mem_addR]
        exact .inl (orb_closed (show j < n by omega) hx' hi)
theorem orb_stop {f : Nat → Nat → Nat} {k x0 n : Nat} (h : (orb f k x0 n).length = n) : ∀ m, orb f k x0 (n + m) = orb f k x0 n
  | 0 => rfl
  | m + 1 => by
    have ih := orb_stop h m
    rw [← Nat.add_assoc, orb_none (by rw [ih]; exact List.getElem?_eq_none_iff.mpr (by omega)), ih]
theorem orb_end {f : Nat → Nat → Nat} {k x0 n m : Nat} (h : (orb f k x0 n).length = n) (h' : (orb f k x0 m).length = m) : n = m := by
  rcases Nat.le_total n m with q | q
  · have := orb_stop h (m - n)
    rw [show n + (m - n) = m by omega] at this
    rw [this, h] at h'; exact h'
  · have := orb_stop h' (n - m)
    rw [show m + (n - m) = n by omega] at this
    rw [this, h'] at h; exact h.symm
section
variable {f g : Nat → Nat → Nat} {φ : Nat → Nat} {P : Nat → Prop} {k : Nat} (inj : ∀ a b, P a → P b → φ a = φ b → a = b) (cl : ∀ x i, P x → i < k → P (f i x)) (co : ∀ x i, P x → i < k → φ (f i x) = g i (φ x))
theorem mem_of_map {come : List Nat} {y : Nat} (inj : ∀ a b, P a → P b → φ a = φ b → a = b) (hP : ∀ x ∈ come, P x) (hy : P y) : φ y ∈ come.map φ ↔ y ∈ come := by
  constructor
  · intro h
    obtain ⟨x, hx, e⟩ := List.mem_map.mp h
    rw [← inj _ _ (hP x hx) hy e]; exact hx
  · exact fun h => List.mem_map_of_mem h
theorem add_map {come : List Nat} {y : Nat} (inj : ∀ a b, P a → P b → φ a = φ b → a = b) (hP : ∀ x ∈ come, P x) (hy : P y) : (add come y).map φ = add (come.map φ) (φ y) := by
  unfold add
  by_cases h : y ∈ come
  · rw [if_pos h, if_pos ((mem_of_map inj hP hy).mpr h)]
  · rw [if_neg h, if_neg (fun q => h ((mem_of_map inj hP hy).mp q)), List.map_append]; rfl
include inj cl co in
theorem addR_map {come : List Nat} {x : Nat} (hP : ∀ x ∈ come, P x) (hx : P x) : ∀ m, m ≤ k → (addR f x come m).map φ = addR g (φ x) (come.map φ) m
  | 0, _ => rfl
  | m + 1, hm => by
    have ih := addR_map hP hx m (by omega)
    rw [addR_succ, addR_succ, ← ih, ← co x m hx (by omega)]
    refine add_map inj (fun z hz => ?_) (cl x m hx (by omega))
    rcases mem_addR.mp hz with q | ⟨i, hi, rfl⟩
    · exact hP z q
    · exact cl x i hx (by omega)
include inj cl co in
theorem orb_map {x0 : Nat} (h0 : P x0) : ∀ n, (orb f k x0 n).map φ = orb g k (φ x0) n
  | 0 => rfl
  | n + 1 => by
    have ih := orb_map h0 n
    have hP := orb_all h0 cl n
    cases h : (orb f k x0 n)[n]? with
    | none =>
      have h' : (orb g k (φ x0) n)[n]? = none := by rw [← ih, List.getElem?_map, h]; rfl
      rw [orb_none h, orb_none h', ih]
    | some x =>
      have h' : (orb g k (φ x0) n)[n]? = some (φ x) := by rw [← ih, List.getElem?_map, h]; rfl
      rw [orb_some h, orb_some h', ← ih]
      exact addR_map inj cl co hP (hP x (List.mem_of_getElem? h)) k (Nat.le_refl _)
end
def ix (come : List Nat) (y : Nat) : Nat := come.findIdx fun z => z == y
theorem ix_at : ∀ {come : List Nat} {i y : Nat}, come.Nodup → come[i]? = some y → ix come y = i
  | [], i, y, _, h => by simp at h
  | a :: l, 0, y, _, h => by
    have e : a = y := Option.some.inj h
    unfold ix
    rw [List.findIdx_cons, e]
    simp
  | a :: l, i + 1, y, hn, h => by
    rw [List.getElem?_cons_succ] at h
    have hm := List.mem_of_getElem? h
    have hne : (a == y) = false := by
      rw [beq_eq_false_iff_ne]
      intro e
      exact (List.nodup_cons.mp hn).1 (by rw [e]; exact hm)
    have ih : ix l y = i := ix_at (List.nodup_cons.mp hn).2 h
    unfold ix at ih ⊢
    rw [List.findIdx_cons, hne]
    show l.findIdx _ + 1 = i + 1
    rw [ih]
theorem ix_mem {come : List Nat} {y : Nat} (hn : come.Nodup) (h : y ∈ come) : come[ix come y]? = some y := by
  obtain ⟨i, hi⟩ := List.getElem?_of_mem h
  rw [ix_at hn hi]; exact hi
theorem ix_app {come t : List Nat} {y : Nat} (hn : (come ++ t).Nodup) (h : y ∈ come) : ix (come ++ t) y = ix come y := by
  obtain ⟨i, hi⟩ := List.getElem?_of_mem h
  have h' : (come ++ t)[i]? = some y := by rw [List.getElem?_append_left (List.getElem?_eq_some_iff.mp hi).1]; exact hi
  rw [ix_at hn h', ix_at (List.nodup_append.mp hn).1 hi]
theorem ix_map {φ : Nat → Nat} {come : List Nat} {y : Nat} (hn : come.Nodup) (hm : (come.map φ).Nodup) (h : y ∈ come) : ix (come.map φ) (φ y) = ix come y := by
  obtain ⟨i, hi⟩ := List.getElem?_of_mem h
  rw [ix_at hn hi, ix_at hm (by rw [List.getElem?_map, hi]; rfl)]
def tabO (f : Nat → Nat → Nat) (k : Nat) (come : List Nat) : List (List Int) := come.map fun x => (List.range k).map fun i => ((ix come (f i x) : Nat) : Int)
theorem tabO_map {f g : Nat → Nat → Nat} {φ : Nat → Nat} {k : Nat} {come : List Nat} (hn : come.Nodup) (hm : (come.map φ).Nodup) (hc : ∀ x ∈ come, ∀ i, i < k → f i x ∈ come) (co : ∀ x ∈ come, ∀ i, i < k → φ (f i x) = g i (φ x)) : tabO g k (come.map φ) = tabO f k come := by
  unfold tabO
  rw [List.map_map]
  refine List.map_congr_left fun x hx => ?_
  refine List.map_congr_left fun i hi => ?_
  have hi := List.mem_range.mp hi
  show ((ix (come.map φ) (g i (φ x)) : Nat) : Int) = _
  rw [← co x hx i hi, ix_map hn hm (hc x hx i hi)]
theorem ix_new {come : List Nat} {y : Nat} (h : y ∉ come) : ix (come ++ [y]) y = come.length := by
  induction come with
  | nil => unfold ix; rw [List.nil_append, List.findIdx_cons]; simp
  | cons a l ih =>
    rw [List.mem_cons, not_or] at h
    have hne : (a == y) = false := by rw [beq_eq_false_iff_ne]; exact fun e => h.1 e.symm
    have := ih h.2
    unfold ix at this ⊢
    rw [List.cons_append, List.findIdx_cons, hne]
    show (l ++ [y]).findIdx _ + 1 = l.length + 1
    rw [this]
def tabN (f : Nat → Nat → Nat) (k x0 n : Nat) : List (List Int) := ((orb f k x0 n).take n).map fun x => (List.range k).map fun i => ((ix (orb f k x0 n) (f i x) : Nat) : Int)
theorem tabN_succ {f : Nat → Nat → Nat} {k x0 n x : Nat} (h : (orb f k x0 n)[n]? = some x) : tabN f k x0 (n + 1) = tabN f k x0 n ++ [(List.range k).map fun i => ((ix (orb f k x0 (n + 1)) (f i x) : Nat) : Int)] := by
  obtain ⟨t, ht⟩ := orb_pre1 f k x0 n
  have hnd := orb_nd f k x0 (n + 1)
  have hl := (List.getElem?_eq_some_iff.mp h).1
  have e1 : (orb f k x0 (n + 1)).take (n + 1) = (orb f k x0 n).take n ++ [x] := by
    rw [ht, List.take_append_of_le_length (by omega), List.take_succ, h]; rfl
  unfold tabN
  rw [e1, List.map_append]
  congr 1
  refine List.map_congr_left fun c hc => ?_
  refine List.map_congr_left fun i hi => ?_
  obtain ⟨j, hj⟩ := List.getElem?_of_mem hc
  have hjn : j < n := by
    have := (List.getElem?_eq_some_iff.mp hj).1
    rw [List.length_take] at this
    omega
  rw [List.getElem?_take_of_lt hjn] at hj
  have hm := orb_closed hjn hj (List.mem_range.mp hi)
  rw [ht] at hnd ⊢
  rw [ix_app hnd hm]
theorem tabN_end {f : Nat → Nat → Nat} {k x0 n : Nat} (h : (orb f k x0 n).length = n) : tabN f k x0 n = tabO f k (orb f k x0 n) := by
  unfold tabN tabO
  rw [List.take_of_length_le (by omega)]
end M24
namespace K32
open PySem L2
def top (i : Nat) : Stmt := PySem.Challenge.pw_cosetyard_k32_numbered.main.body.getD i (.Pass ⟨0, 0, 0, 0⟩)
abbrev s_steps_of : Stmt := top 2
abbrev s_numbered : Stmt := top 4
abbrev s_led : Stmt := top 5
abbrev s_place_of : Stmt := top 6
abbrev s_all_gaps : Stmt := top 9
abbrev s_own : Stmt := top 10
abbrev s__law_cell_at : Stmt := top 12
abbrev s__law_whole : Stmt := top 13
abbrev s__law_step : Stmt := top 14
abbrev s__law_turning : Stmt := top 15
abbrev s__law_moved : Stmt := top 16
abbrev s__law_steps : Stmt := top 17
abbrev s__law_orbit : Stmt := top 18
abbrev s__law_built : Stmt := top 19
abbrev s__law_same : Stmt := top 20
abbrev s_law : Stmt := top 21
abbrev s_Rooms___init__ : Stmt := inClass (top 8) 0
abbrev s_Rooms_make : Stmt := inClass (top 8) 1
abbrev s_Rooms_lay : Stmt := inClass (top 8) 2
abbrev s_Rooms_by : Stmt := inClass (top 8) 3
abbrev s_Rooms_elder : Stmt := inClass (top 8) 4
abbrev s_Rooms_paper : Stmt := inClass (top 8) 6
abbrev s_Rooms_keep : Stmt := inClass (top 8) 8
abbrev s_Rooms_take_in : Stmt := inClass (top 8) 9
abbrev s_Rooms_put_together : Stmt := inClass (top 8) 10
abbrev s_Rooms_put_off : Stmt := inClass (top 8) 11
set_option genInjectivity false in
structure Adr where
  f_steps_of : Addr
  d_steps_of : FuncData
  f_numbered : Addr
  d_numbered : FuncData
  f_led : Addr
  d_led : FuncData
  f_place_of : Addr
  d_place_of : FuncData
  f_all_gaps : Addr
  d_all_gaps : FuncData
  f_own : Addr
  d_own : FuncData
  f__law_cell_at : Addr
  d__law_cell_at : FuncData
  f__law_whole : Addr
  d__law_whole : FuncData
  f__law_step : Addr
  d__law_step : FuncData
  f__law_turning : Addr
  d__law_turning : FuncData
  f__law_moved : Addr
  d__law_moved : FuncData
  f__law_steps : Addr
  d__law_steps : FuncData
  f__law_orbit : Addr
  d__law_orbit : FuncData
  f__law_built : Addr
  d__law_built : FuncData
  f__law_same : Addr
  d__law_same : FuncData
  f_law : Addr
  d_law : FuncData
  f_Rooms___init__ : Addr
  d_Rooms___init__ : FuncData
  f_Rooms_make : Addr
  d_Rooms_make : FuncData
  f_Rooms_lay : Addr
  d_Rooms_lay : FuncData
  f_Rooms_by : Addr
  d_Rooms_by : FuncData
  f_Rooms_elder : Addr
  d_Rooms_elder : FuncData
  f_Rooms_paper : Addr
  d_Rooms_paper : FuncData
  f_Rooms_keep : Addr
  d_Rooms_keep : FuncData
  f_Rooms_take_in : Addr
  d_Rooms_take_in : FuncData
  f_Rooms_put_together : Addr
  d_Rooms_put_together : FuncData
  f_Rooms_put_off : Addr
  d_Rooms_put_off : FuncData
  c_Rooms : Addr
set_option genInjectivity false in
structure Txt (K : PySem.W.Frag) (mg : Str → Option Value) (A : Adr) : Prop where
  steps_of : Def K mg "steps_of" s_steps_of ["letters"] A.f_steps_of A.d_steps_of
  numbered : Def K mg "numbered" s_numbered ["rooms"] A.f_numbered A.d_numbered
  led : Def K mg "led" s_led ["table", "room", "word"] A.f_led A.d_led
  place_of : Def K mg "place_of" s_place_of ["step"] A.f_place_of A.d_place_of
  all_gaps : Def K mg "all_gaps" s_all_gaps ["letters"] A.f_all_gaps A.d_all_gaps
  own : Def K mg "own" s_own ["value"] A.f_own A.d_own
  _law_cell_at : Def K mg "_law_cell_at" s__law_cell_at ["_law_script", "_law_k"] A.f__law_cell_at A.d__law_cell_at
  _law_whole : Def K mg "_law_whole" s__law_whole ["_law_found"] A.f__law_whole A.d__law_whole
  _law_step : Def K mg "_law_step" s__law_step ["_law_number", "_law_letters"] A.f__law_step A.d__law_step
  _law_turning : Def K mg "_law_turning" s__law_turning ["_law_number", "_law_many", "_law_plain"] A.f__law_turning A.d__law_turning
  _law_moved : Def K mg "_law_moved" s__law_moved ["_law_turns", "_law_point", "_law_word"] A.f__law_moved A.d__law_moved
  _law_steps : Def K mg "_law_steps" s__law_steps ["_law_letters"] A.f__law_steps A.d__law_steps
  _law_orbit : Def K mg "_law_orbit" s__law_orbit ["_law_turns", "_law_letters", "_law_first"] A.f__law_orbit A.d__law_orbit
  _law_built : Def K mg "_law_built" s__law_built ["_law_script", "_law_turns", "_law_letters", "_law_first"] A.f__law_built A.d__law_built
  _law_same : Def K mg "_law_same" s__law_same ["_law_table", "_law_due"] A.f__law_same A.d__law_same
  law : Def K mg "law" s_law ["_law_script"] A.f_law A.d_law
  Rooms___init__ : MDef K A.c_Rooms "__init__" "Rooms.__init__" s_Rooms___init__ ["self", "letters"] A.f_Rooms___init__ A.d_Rooms___init__
  Rooms_make : MDef K A.c_Rooms "make" "Rooms.make" s_Rooms_make ["self", "room", "step"] A.f_Rooms_make A.d_Rooms_make
  Rooms_lay : MDef K A.c_Rooms "lay" "Rooms.lay" s_Rooms_lay ["self", "room", "step", "other", "row"] A.f_Rooms_lay A.d_Rooms_lay
  Rooms_by : MDef K A.c_Rooms "by" "Rooms.by" s_Rooms_by ["self", "room", "step"] A.f_Rooms_by A.d_Rooms_by
  Rooms_elder : MDef K A.c_Rooms "elder" "Rooms.elder" s_Rooms_elder ["self", "room"] A.f_Rooms_elder A.d_Rooms_elder
  Rooms_paper : MDef K A.c_Rooms "paper" "Rooms.paper" s_Rooms_paper ["self"] A.f_Rooms_paper A.d_Rooms_paper
  Rooms_keep : MDef K A.c_Rooms "keep" "Rooms.keep" s_Rooms_keep ["self", "room", "step", "other"] A.f_Rooms_keep A.d_Rooms_keep
  Rooms_take_in : MDef K A.c_Rooms "take_in" "Rooms.take_in" s_Rooms_take_in ["self", "way", "pending"] A.f_Rooms_take_in A.d_Rooms_take_in
  Rooms_put_together : MDef K A.c_Rooms "put_together" "Rooms.put_together" s_Rooms_put_together ["self", "room", "step", "one", "other", "pending"] A.f_Rooms_put_together A.d_Rooms_put_together
  Rooms_put_off : MDef K A.c_Rooms "put_off" "Rooms.put_off" s_Rooms_put_off ["self", "room", "pending"] A.f_Rooms_put_off A.d_Rooms_put_off
  z_min : mg "min" = none
  z_max : mg "max" = none
  z_range : mg "range" = none
  z_len : mg "len" = none
  z_tuple : mg "tuple" = none
  z_list : mg "list" = none
  z_isinstance : mg "isinstance" = none
  z_bool : mg "bool" = none
  z_int : mg "int" = none
  z_dict : mg "dict" = none
  m_Rooms : mg "Rooms" = some (.ref A.c_Rooms)
  pg_Rooms : PySem.W.plainGet K A.c_Rooms Str.empty = true
  hd_Rooms : PySem.W.hasDictIn K A.c_Rooms = true
  po_Rooms : PySem.W.plainOver K A.c_Rooms = true
  sa_Rooms : PySem.W.findIn K (.ref A.c_Rooms) "__setattr__" = some (some (.builtin "object.__setattr__"))
  mk_Rooms : PySem.W.makesIn K A.c_Rooms = true
  kc_Rooms : PySem.W.keepIn K (.ref A.c_Rooms) = true
  n_letters : PySem.W.findIn K (.ref A.c_Rooms) "letters" = some none
  n_made : PySem.W.findIn K (.ref A.c_Rooms) "made" = some none
  n_rows : PySem.W.findIn K (.ref A.c_Rooms) "rows" = some none
  n_ways : PySem.W.findIn K (.ref A.c_Rooms) "ways" = some none
  n_gaps : PySem.W.findIn K (.ref A.c_Rooms) "gaps" = some none
  n_elders : PySem.W.findIn K (.ref A.c_Rooms) "elders" = some none
  n_called : PySem.W.findIn K (.ref A.c_Rooms) "called" = some none
  n_went : PySem.W.findIn K (.ref A.c_Rooms) "went" = some none
theorem cl_Rooms {K : PySem.W.Frag} {mg : Str → Option Value} {A : Adr} (T : Txt K mg A) : Cls K A.c_Rooms := ⟨T.pg_Rooms, T.hd_Rooms, T.po_Rooms, T.sa_Rooms⟩
theorem mk_Rooms {K : PySem.W.Frag} {mg : Str → Option Value} {A : Adr} (T : Txt K mg A) : Mk K A.c_Rooms A.f_Rooms___init__ := ⟨T.mk_Rooms, T.Rooms___init__.m.at_, T.Rooms___init__.m.fn, T.kc_Rooms⟩
theorem sc_steps_of : FnScope ["letters", "steps", "letter"] ["letters"] (defScope s_steps_of) := ⟨rfl, rfl, rfl, by decide +kernel, rfl, by decide +kernel, by decide +kernel⟩
theorem sc_numbered : FnScope ["rooms", "steps", "found", "numbers", "rows", "others", "other"] ["rooms"] (defScope s_numbered) := ⟨rfl, rfl, rfl, by decide +kernel, rfl, by decide +kernel, by decide +kernel⟩
theorem sc_led : FnScope ["table", "room", "word", "step"] ["table", "room", "word"] (defScope s_led) := ⟨rfl, rfl, rfl, by decide +kernel, rfl, by decide +kernel, by decide +kernel⟩
theorem sc_place_of : FnScope ["step"] ["step"] (defScope s_place_of) := ⟨rfl, rfl, rfl, by decide +kernel, rfl, by decide +kernel, by decide +kernel⟩
theorem sc_all_gaps : FnScope ["letters"] ["letters"] (defScope s_all_gaps) := ⟨rfl, rfl, rfl, by decide +kernel, rfl, by decide +kernel, by decide +kernel⟩
theorem sc_own : FnScope ["value"] ["value"] (defScope s_own) := ⟨rfl, rfl, rfl, by decide +kernel, rfl, by decide +kernel, by decide +kernel⟩
theorem sc__law_cell_at : FnScope ["_law_script", "_law_k"] ["_law_script", "_law_k"] (defScope s__law_cell_at) := ⟨rfl, rfl, rfl, by decide +kernel, rfl, by decide +kernel, by decide +kernel⟩
theorem sc__law_whole : FnScope ["_law_found"] ["_law_found"] (defScope s__law_whole) := ⟨rfl, rfl, rfl, by decide +kernel, rfl, by decide +kernel, by decide +kernel⟩
theorem sc__law_step : FnScope ["_law_number", "_law_letters"] ["_law_number", "_law_letters"] (defScope s__law_step) := ⟨rfl, rfl, rfl, by decide +kernel, rfl, by decide +kernel, by decide +kernel⟩
theorem sc__law_turning : FnScope ["_law_number", "_law_many", "_law_plain", "_law_by", "_law_some", "_law_turned"] ["_law_number", "_law_many", "_law_plain"] (defScope s__law_turning) := ⟨rfl, rfl, rfl, by decide +kernel, rfl, by decide +kernel, by decide +kernel⟩
theorem sc__law_moved : FnScope ["_law_turns", "_law_point", "_law_word", "_law_step_here"] ["_law_turns", "_law_point", "_law_word"] (defScope s__law_moved) := ⟨rfl, rfl, rfl, by decide +kernel, rfl, by decide +kernel, by decide +kernel⟩
theorem sc__law_steps : FnScope ["_law_letters", "_law_found", "_law_letter"] ["_law_letters"] (defScope s__law_steps) := ⟨rfl, rfl, rfl, by decide +kernel, rfl, by decide +kernel, by decide +kernel⟩
theorem sc__law_orbit : FnScope ["_law_turns", "_law_letters", "_law_first", "_law_come", "_law_at", "_law_step_here", "_law_point"] ["_law_turns", "_law_letters", "_law_first"] (defScope s__law_orbit) := ⟨rfl, rfl, rfl, by decide +kernel, rfl, by decide +kernel, by decide +kernel⟩
theorem sc__law_built : FnScope ["_law_script", "_law_turns", "_law_letters", "_law_first", "_law_rooms", "_law_points", "_law_at", "_law_count", "_law_steps_here", "_law_turned", "_law_step_here", "_law_room", "_law_point", "_law_same_here"] ["_law_script", "_law_turns", "_law_letters", "_law_first"] (defScope s__law_built) := ⟨rfl, rfl, rfl, by decide +kernel, rfl, by decide +kernel, by decide +kernel⟩
theorem sc__law_same : FnScope ["_law_table", "_law_due", "_law_row", "_law_room"] ["_law_table", "_law_due"] (defScope s__law_same) := ⟨rfl, rfl, rfl, by decide +kernel, rfl, by decide +kernel, by decide +kernel⟩
theorem sc_law : FnScope ["_law_script", "_law_plain", "_law_many", "_law_letters", "_law_turns", "_law_first", "_law_rooms", "_law_rows", "_law_come", "_law_due", "_law_point", "_law_table", "_law_word", "_law_cell", "_law_room", "_law_found"] ["_law_script"] (defScope s_law) := ⟨rfl, rfl, rfl, by decide +kernel, rfl, by decide +kernel, by decide +kernel⟩
theorem sc_Rooms___init__ : FnScope ["self", "letters"] ["self", "letters"] (defScope s_Rooms___init__) := ⟨rfl, rfl, rfl, by decide +kernel, rfl, by decide +kernel, by decide +kernel⟩
theorem sc_Rooms_make : FnScope ["self", "room", "step", "number"] ["self", "room", "step"] (defScope s_Rooms_make) := ⟨rfl, rfl, rfl, by decide +kernel, rfl, by decide +kernel, by decide +kernel⟩
theorem sc_Rooms_lay : FnScope ["self", "room", "step", "other", "row", "pending"] ["self", "room", "step", "other", "row"] (defScope s_Rooms_lay) := ⟨rfl, rfl, rfl, by decide +kernel, rfl, by decide +kernel, by decide +kernel⟩
theorem sc_Rooms_by : FnScope ["self", "room", "step"] ["self", "room", "step"] (defScope s_Rooms_by) := ⟨rfl, rfl, rfl, by decide +kernel, rfl, by decide +kernel, by decide +kernel⟩
theorem sc_Rooms_elder : FnScope ["self", "room"] ["self", "room"] (defScope s_Rooms_elder) := ⟨rfl, rfl, rfl, by decide +kernel, rfl, by decide +kernel, by decide +kernel⟩
theorem sc_Rooms_paper : FnScope ["self"] ["self"] (defScope s_Rooms_paper) := ⟨rfl, rfl, rfl, by decide +kernel, rfl, by decide +kernel, by decide +kernel⟩
theorem sc_Rooms_keep : FnScope ["self", "room", "step", "other"] ["self", "room", "step", "other"] (defScope s_Rooms_keep) := ⟨rfl, rfl, rfl, by decide +kernel, rfl, by decide +kernel, by decide +kernel⟩
theorem sc_Rooms_take_in : FnScope ["self", "way", "pending", "room", "step", "other", "led_to", "come_from"] ["self", "way", "pending"] (defScope s_Rooms_take_in) := ⟨rfl, rfl, rfl, by decide +kernel, rfl, by decide +kernel, by decide +kernel⟩
theorem sc_Rooms_put_together : FnScope ["self", "room", "step", "one", "other", "pending", "less", "more", "number"] ["self", "room", "step", "one", "other", "pending"] (defScope s_Rooms_put_together) := ⟨rfl, rfl, rfl, by decide +kernel, rfl, by decide +kernel, by decide +kernel⟩
theorem sc_Rooms_put_off : FnScope ["self", "room", "pending", "ways", "step", "other"] ["self", "room", "pending"] (defScope s_Rooms_put_off) := ⟨rfl, rfl, rfl, by decide +kernel, rfl, by decide +kernel, by decide +kernel⟩
section
variable {P : Program} {w : World} {K : PySem.W.Frag} {mg : Str → Option Value} {base : Heap} {A : Adr}
def spLaw (K : PySem.W.Frag) : Sp := fun vs H Q _ => ∃ (a : Addr) (ns : List Int), vs = [.ref a] ∧ SqL K H a (ns.map V.int) ∧ ns.length ≤ 63 ∧ ∀ H', Q (.bl true) H'
def stL (n : Nat) : List Int := (List.range n).map M12.st
theorem stL_len (n : Nat) : (stL n).length = n := by unfold stL; rw [List.length_map, List.length_range]
theorem stL_at {n i : Nat} (h : i < n) : (stL n)[i]? = some (M12.st i) := by
  unfold stL
  rw [List.getElem?_map, List.getElem?_range h]
  rfl
theorem stL_two (i : Nat) : stL (2 * i) ++ [1 + (i : Int)] ++ [-(1 + (i : Int))] = stL (2 * (i + 1)) := by
  have e : 2 * (i + 1) = 2 * i + 1 + 1 := by omega
  rw [e]
  unfold stL
  rw [List.range_succ, List.range_succ, List.map_append, List.map_append]
  have e1 : M12.st (2 * i) = 1 + (i : Int) := by unfold M12.st; rw [if_pos (by omega)]; omega
  have e2 : M12.st (2 * i + 1) = -(1 + (i : Int)) := by unfold M12.st; rw [if_neg (by omega)]; omega
  show _ = (List.range (2 * i)).map M12.st ++ [M12.st (2 * i)] ++ [M12.st (2 * i + 1)]
  rw [e1, e2]
theorem stL_nd (n : Nat) : (stL n).Nodup := by
  unfold stL
  refine List.pairwise_map.mpr (List.Pairwise.imp ?_ List.nodup_range)
  intro a b hab z
  have h1 := M12.pl_st a
  rw [z, M12.pl_st] at h1
  exact hab h1.symm
theorem ref_at {rs : List Addr} {i : Nat} {r : Addr} (h : rs[i]? = some r) : atI (rs.map V.ref) (i : Int) = some (V.ref r) := atI_nat (by rw [List.getElem?_map, h]; rfl)
def spStepsO : Sp := fun vs H Q _ => ∃ L : Nat, vs = [.int L] ∧ 1 ≤ L ∧ L ≤ 200 ∧ ∀ l H', Same H H' → H' l = some (.lst (intV ((List.range (2 * L)).map M12.st))) → Q (.ref l) H'
def spGaps : Sp := fun vs H Q _ => ∃ L : Nat, vs = [.int L] ∧ 1 ≤ L ∧ L ≤ 200 ∧ ∀ d H', Same H H' → H d = none → H' d = some (.dK (gK (stL (2 * L)))) → Q (.ref d) H'
def spNew (C : Addr) : Sp := fun vs H Q _ => ∃ (x dx : Addr) (L : Nat), vs = [.ref x, .int L] ∧ H x = some (.ins C dx []) ∧ 1 ≤ L ∧ L ≤ 200 ∧ ∀ a H', (∀ b o, H b = some o → b ≠ x → H' b = some o) → RoomsAt C H' x (RS.new L (stL (2 * L))) a → (∀ b, a.own x b → b = x ∨ H b = none) → Q .non H'
def ButO (a : RA) (r : Addr) (H H' : Hp) : Prop := ∀ b o, ¬ a.own r b → H b = some o → H' b = some o
def spKeep (C : Addr) : Sp := fun vs H Q _ => ∃ (r : Addr) (S : RS) (a : RA) (c d : Nat) (z : Int), vs = [.ref r, .int c, .int z, .int d] ∧ RoomsAt C H r S a ∧ S.Wf ∧ c < S.made ∧ d < S.made ∧ (∀ l ∈ S.ways, l.length ≤ 100000) ∧ ∀ H', ButO a r H H' → RoomsAt C H' r (S.keep c z d) a → Q .non H'
def spMake (C : Addr) : Sp := fun vs H Q _ => ∃ (r : Addr) (S : RS) (a : RA) (c : Nat) (z : Int), vs = [.ref r, .int c, .int z] ∧ RoomsAt C H r S a ∧ S.Wf ∧ 1 ≤ S.L ∧ S.L ≤ 200 ∧ c < S.made ∧ S.made ≤ 100000 ∧ S.rows.length ≤ 1000000 ∧ (∀ l ∈ S.ways, l.length ≤ 100000) ∧ ∀ a' H', ButO a r H H' → RoomsAt C H' r (S.make c z (stL (2 * S.L))) a' → (∀ b, a'.own r b → a.own r b ∨ H b = none) → Q (.int S.made) H'
def spRBy (C : Addr) : Sp := fun vs H Q _ => ∃ (r : Addr) (S : RS) (a : RA) (c : Nat) (z : Int), vs = [.ref r, .int c, .int z] ∧ RoomsAt C H r S a ∧ c < S.ways.length ∧ Q (((S.by c z).map fun n : Nat => V.int (n : Int)).getD .non) H
def spElder (C : Addr) : Sp := fun vs H Q _ => ∃ (r : Addr) (S : RS) (a : RA) (c e : Nat), vs = [.ref r, .int c] ∧ RoomsAt C H r S a ∧ S.elders[c]? = some e ∧ Q (.int e) H
def spOwn (k : Nat) : Sp := fun vs H Q _ => ∃ (v : V) (d : Dt), vs = [v] ∧ DtAt H k v d ∧ NoL d ∧ ∀ v' H', Same H H' → DtAt H' k v' d → Q v' H'
def spPaper (k : Nat) (C : Addr) : Sp := fun vs H Q _ => ∃ (r : Addr) (S : RS) (a : RA), vs = [.ref r] ∧ RoomsAt C H r S a ∧ S.rows.length ≤ 1000000 ∧ (∀ p d, d ∈ S.rows → DtAt H 4 (.ref p) d → DtAt H k (.ref p) d) ∧ ∀ l ps H', Same H H' → H l = none → H' l = some (.lst (ps.map V.ref)) → Each (fun p d => DtAt H' 4 (.ref p) d) ps S.rows → Q (.ref l) H'
theorem ok_own_vF (T : Txt K mg A) : FnOk P w K mg base CX0 1 A.f_own A.d_own ["value"] (fun _ _ _ _ => False) := ⟨fun _ _ _ _ h => h.elim, fun _ _ _ _ _ _ _ _ _ _ _ _ _ h => h.elim⟩
theorem ok_own_v0 (T : Txt K mg A) : FnOk P w K mg base CX0 2 A.f_own A.d_own ["value"] (spOwn 0) := by
  have G_own : FnOk P w K mg base CX0 1 A.f_own A.d_own ["value"] (fun _ _ _ _ => False) := ok_own_vF T
  refine T.own.F.ok sc_own (fun vs H Q E h => ?_) (fun cdv AA outer s H vs Q E hr h => ?_)
  · obtain ⟨v, d, rfl, _⟩ := h
    rfl
  · obtain ⟨v, d, rfl, hv, hd, k⟩ := h
    refine ⟨_, (pss_cons (ps_if (pt_val (pe_callB call_isi rfl T.z_isinstance PyProof.Rows.boot_isinstance (pa_cons (pv 0) (pa_cons (pe_bltn (v := .ty "tuple") rfl T.z_tuple PyProof.Rows.boot_tuple rfl) pa_nil))))
        (pss_one (ps_ret (pe_callTy call_tuple_of rfl T.z_tuple PyProof.Rows.boot_tuple (pa_cons (pe_comp (fns := []) (ixs := []) (cl := []) rfl (pi_tup (pv 0)) (compScope0 (by decide +kernel) (by decide +kernel) rfl (by decide +kernel) rfl) (fun C s H ex => (pe_call (G_own) (hr.mono (by decide)) rfl T.own.m T.own.F.kp T.own.b .nil pass0 (pa_cons (pv 0) pa_nil)))) pa_nil))))
        pss_nil)
      (pss_cons (ps_if (pt_val (pe_callB call_isi rfl T.z_isinstance PyProof.Rows.boot_isinstance (pa_cons (pv 0) (pa_cons (pe_bltn (v := .ty "list") rfl T.z_list PyProof.Rows.boot_list rfl) pa_nil))))
        (pss_one (ps_ret (pe_comp (fns := []) (ixs := []) (cl := []) rfl (pi_tup (pv 0)) (compScope0 (by decide +kernel) (by decide +kernel) rfl (by decide +kernel) rfl) (fun C s H ex => (pe_call (G_own) (hr.mono (by decide)) rfl T.own.m T.own.F.kp T.own.b .nil pass0 (pa_cons (pv 0) pa_nil))))))
        pss_nil)
      (pss_cons (ps_if (pt_val (pe_callB call_isi rfl T.z_isinstance PyProof.Rows.boot_isinstance (pa_cons (pv 0) (pa_cons (pe_bltn (v := .ty "dict") rfl T.z_dict PyProof.Rows.boot_dict rfl) pa_nil))))
        (pss_one (ps_ret (pe_callTy (call_dict_pairs rfl) rfl T.z_dict PyProof.Rows.boot_dict (pa_cons (pe_comp (fns := ["value"]) (ixs := [0]) (cl := _) rfl (pi_tup (pv 0)) (compScope1 rfl rfl (by decide +kernel) rfl (by decide +kernel) rfl (by decide +kernel) (by decide +kernel) rfl rfl rfl rfl) (fun C s H ex => (pe_tup (pa_cons (pv 0) (pa_cons (pe_call (G_own) (hr.mono (by decide)) rfl T.own.m T.own.F.kp T.own.b .nil pass0 (pa_cons (pe_ix (ix_tupK (K := K) rfl) (pv 1) (pv 0) (fun _ _ => rfl)) pa_nil)) pa_nil))))) pa_nil))))
        pss_nil)
      (pss_one (ps_ret (pv 0)))))), ?_⟩
    have atom : (∃ n, v = .int n) ∨ (∃ l, v = .str (tx l)) ∨ ∃ (a : Addr) (vs : List V) (ds : List Dt), v = .ref a ∧ d = .t ds ∧ False := by
      cases hv with
      | i => exact .inl ⟨_, rfl⟩
      | s => exact .inr (.inl ⟨_, rfl⟩)
      | n => cases hd
      | b => cases hd
    rcases atom with ⟨n, rfl⟩ | ⟨l, rfl⟩ | ⟨a, vs, ds, rfl, rfl, hx⟩
    · refine ⟨_, rfl, _, _, _, _, rfl, .int n, kit_int_tuple K, _, rfl, iteF ?_⟩
      refine ⟨_, rfl, _, _, _, _, rfl, .int n, kit_int_list K, _, rfl, iteF ?_⟩
      refine ⟨_, rfl, _, _, _, _, rfl, .int n, kit_int_dict K, _, rfl, iteF ?_⟩
      exact ⟨_, rfl, k _ H (fun _ _ e => e) hv⟩
    · refine ⟨_, rfl, _, _, _, _, rfl, .str (tx l), kit_str_tuple K, _, rfl, iteF ?_⟩
      refine ⟨_, rfl, _, _, _, _, rfl, .str (tx l), kit_str_list K, _, rfl, iteF ?_⟩
      refine ⟨_, rfl, _, _, _, _, rfl, .str (tx l), kit_str_dict K, _, rfl, iteF ?_⟩
      exact ⟨_, rfl, k _ H (fun _ _ e => e) hv⟩
    · exact hx.elim
theorem ok_own_v1 (T : Txt K mg A) : FnOk P w K mg base CX0 3 A.f_own A.d_own ["value"] (spOwn 1) := by
  have G_own : FnOk P w K mg base CX0 2 A.f_own A.d_own ["value"] (spOwn 0) := ok_own_v0 T
  refine T.own.F.ok sc_own (fun vs H Q E h => ?_) (fun cdv AA outer s H vs Q E hr h => ?_)
  · obtain ⟨v, d, rfl, _⟩ := h
    rfl
  · obtain ⟨v, d, rfl, hv, hd, k⟩ := h
    refine ⟨_, (pss_cons (ps_if (pt_val (pe_callB call_isi rfl T.z_isinstance PyProof.Rows.boot_isinstance (pa_cons (pv 0) (pa_cons (pe_bltn (v := .ty "tuple") rfl T.z_tuple PyProof.Rows.boot_tuple rfl) pa_nil))))
        (pss_one (ps_ret (pe_callTy call_tuple_of rfl T.z_tuple PyProof.Rows.boot_tuple (pa_cons (pe_comp (fns := []) (ixs := []) (cl := []) rfl (pi_tup (pv 0)) (compScope0 (by decide +kernel) (by decide +kernel) rfl (by decide +kernel) rfl) (fun C s H ex => (pe_call (G_own) (hr.mono (by decide)) rfl T.own.m T.own.F.kp T.own.b .nil pass0 (pa_cons (pv 0) pa_nil)))) pa_nil))))
        pss_nil)
      (pss_cons (ps_if (pt_val (pe_callB call_isi rfl T.z_isinstance PyProof.Rows.boot_isinstance (pa_cons (pv 0) (pa_cons (pe_bltn (v := .ty "list") rfl T.z_list PyProof.Rows.boot_list rfl) pa_nil))))
        (pss_one (ps_ret (pe_comp (fns := []) (ixs := []) (cl := []) rfl (pi_tup (pv 0)) (compScope0 (by decide +kernel) (by decide +kernel) rfl (by decide +kernel) rfl) (fun C s H ex => (pe_call (G_own) (hr.mono (by decide)) rfl T.own.m T.own.F.kp T.own.b .nil pass0 (pa_cons (pv 0) pa_nil))))))
        pss_nil)
      (pss_cons (ps_if (pt_val (pe_callB call_isi rfl T.z_isinstance PyProof.Rows.boot_isinstance (pa_cons (pv 0) (pa_cons (pe_bltn (v := .ty "dict") rfl T.z_dict PyProof.Rows.boot_dict rfl) pa_nil))))
        (pss_one (ps_ret (pe_callTy (call_dict_pairs rfl) rfl T.z_dict PyProof.Rows.boot_dict (pa_cons (pe_comp (fns := ["value"]) (ixs := [0]) (cl := _) rfl (pi_tup (pv 0)) (compScope1 rfl rfl (by decide +kernel) rfl (by decide +kernel) rfl (by decide +kernel) (by decide +kernel) rfl rfl rfl rfl) (fun C s H ex => (pe_tup (pa_cons (pv 0) (pa_cons (pe_call (G_own) (hr.mono (by decide)) rfl T.own.m T.own.F.kp T.own.b .nil pass0 (pa_cons (pe_ix (ix_tupK (K := K) rfl) (pv 1) (pv 0) (fun _ _ => rfl)) pa_nil)) pa_nil))))) pa_nil))))
        pss_nil)
      (pss_one (ps_ret (pv 0)))))), ?_⟩
    have atom : (∃ n, v = .int n) ∨ (∃ l, v = .str (tx l)) ∨ ∃ (a : Addr) (vs : List V) (ds : List Dt), v = .ref a ∧ d = .t ds ∧ (H a = some (.tup vs) ∧ vs.length = ds.length ∧ ∀ (j : Nat) (v : V) (x : Dt), vs[j]? = some v → ds[j]? = some x → DtAt H 0 v x) := by
      cases hv with
      | i => exact .inl ⟨_, rfl⟩
      | s => exact .inr (.inl ⟨_, rfl⟩)
      | n => cases hd
      | b => cases hd
      | t h1 h2 h3 => exact .inr (.inr ⟨_, _, _, rfl, rfl, h1, h2, h3⟩)
      | l => cases hd
    rcases atom with ⟨n, rfl⟩ | ⟨l, rfl⟩ | ⟨a, vs, ds, rfl, rfl, hx⟩
    · refine ⟨_, rfl, _, _, _, _, rfl, .int n, kit_int_tuple K, _, rfl, iteF ?_⟩
      refine ⟨_, rfl, _, _, _, _, rfl, .int n, kit_int_list K, _, rfl, iteF ?_⟩
      refine ⟨_, rfl, _, _, _, _, rfl, .int n, kit_int_dict K, _, rfl, iteF ?_⟩
      exact ⟨_, rfl, k _ H (fun _ _ e => e) hv⟩
    · refine ⟨_, rfl, _, _, _, _, rfl, .str (tx l), kit_str_tuple K, _, rfl, iteF ?_⟩
      refine ⟨_, rfl, _, _, _, _, rfl, .str (tx l), kit_str_list K, _, rfl, iteF ?_⟩
      refine ⟨_, rfl, _, _, _, _, rfl, .str (tx l), kit_str_dict K, _, rfl, iteF ?_⟩
      exact ⟨_, rfl, k _ H (fun _ _ e => e) hv⟩
    · obtain ⟨h1, h2, h3⟩ := hx
      obtain ⟨hz, hds⟩ : ds.length ≤ 100000 ∧ ∀ x ∈ ds, NoL x := by cases hd with | t a b => exact ⟨a, b⟩
      refine ⟨_, rfl, _, _, _, _, rfl, .tup h1, kit_self K "tuple", _, rfl, iteT ?_⟩
      refine ⟨_, rfl, a, rfl, ⟨_, SqT.of h1⟩, ?_⟩
      refine comp_make (α := Unit) vs.length (fun i => vs.getD i .non) (fun H2 v i => ∃ x, ds[i]? = some x ∧ NoL x ∧ DtAt H2 0 v x) (fun H1 H2 v i s ⟨x, e, hn, q⟩ => ⟨x, e, hn, q.same s⟩) ?_ (fun i H2 s2 hi => itt_go (SqT.of (s2 _ _ h1)) i hi) (fun i x H2 H3 s2 hi y => ?_) (fun H2 s2 => itt_stop (SqT.of (s2 _ _ h1))) (fun i H2 Rr hi s2 kk => ?_) (fun D H2 ys s2 hD hl hr => ?_)
      · exact Nat.le_trans (by omega) (show 100000 ≤ sizeLine by decide)
      · obtain ⟨e, hx⟩ := itt_yld (SqT.of (s2 _ _ h1)) i x H3 hi y
        refine ⟨e, ?_⟩
        rw [List.getD_eq_getElem?_getD, hx]; rfl
      · have hx : vs[i]? = some (vs.getD i .non) := by rw [List.getD_eq_getElem?_getD, List.getElem?_eq_getElem hi]; rfl
        have hy : ds[i]? = some (ds[i]'(by omega)) := List.getElem?_eq_getElem (by omega)
        refine ⟨_, rfl, _, _, rfl, (h3 i _ _ hx hy).same s2, hds _ (List.mem_of_getElem? hy), fun v' H' s' q' => kk v' H' s' ⟨_, hy, hds _ (List.mem_of_getElem? hy), q'⟩⟩
      · refine ⟨D, ys, rfl, .inl ⟨SqL.of upd_same, fun l hl2 => ?_⟩⟩
        have sD : Same H2 (upd H2 D (.lst ys)) := Same.upd hD
        have sl : Same (upd H2 D (.lst ys)) (upd (upd H2 D (.lst ys)) l (.tup ys)) := Same.upd hl2
        refine k _ _ (s2.trans (sD.trans sl)) (.t upd_same (by omega) fun j v x e1 e2 => ?_)
        obtain ⟨y, e3, -, q⟩ := hr j v e1
        obtain rfl : y = x := Option.some.inj (e3.symm.trans e2)
        exact q.same (sD.trans sl)
theorem ok_steps_of (T : Txt K mg A) : FnOk P w K mg base CX0 1 A.f_steps_of A.d_steps_of ["letters"] spStepsO := by
  refine T.steps_of.F.ok sc_steps_of (fun vs H Q E h => ?_) (fun cdv AA outer s H vs Q E hr h => ?_)
  · obtain ⟨L, rfl, _⟩ := h
    rfl
  · obtain ⟨L, rfl, hL1, hL2, k⟩ := h
    refine ⟨_, (pss_cons (ps_set (i := 1) sc_steps_of.nd rfl (Or.inl rfl) (pe_lst pa_nil))
      (pss_cons (ps_for PassesOwn.never rfl (pi_range2 rfl T.z_range (pa_cons pe_int (pa_cons (pe_op op_add (pv 0) pe_int) pa_nil))) (pg_name (i := 2) sc_steps_of.nd rfl (Or.inl rfl))
        (pss_cons (ps_expr (pe_bm PySem.F.plainAttrs_list PySem.F.slot_list_append PySem.F.type_list_append mt_append (pv 1) (pa_cons (pv 2) pa_nil)))
        (pss_one (ps_expr (pe_bm PySem.F.plainAttrs_list PySem.F.slot_list_append PySem.F.type_list_append mt_append (pv 1) (pa_cons (pe_un un_neg (pv 2)) pa_nil))))))
      (pss_one (ps_ret (pv 1))))), ?_⟩
    refine ⟨Nat.zero_le _, fun l hl => ?_⟩
    have s0 : Same H (upd H l (.lst [])) := Same.upd hl
    have h0 : upd H l (.lst []) l = some (.lst (intV (stL (2 * 0)))) := upd_same
    generalize upd H l (.lst []) = H0 at s0 h0 ⊢
    refine ⟨_, rfl, _, _, rfl, rfl, 1, (L : Int) + 1, rfl, ⟨by omega, by omega, by omega, by omega⟩, ?_⟩
    refine for_range (lo := 1) (n := ((L : Int) + 1 - 1).toNat) (fun i σ H2 => ∃ v : Option V, σ = [some (.int L), some (.ref l), v] ∧ Same H H2 ∧ H2 l = some (.lst (intV (stL (2 * i))))) ⟨none, rfl, s0, h0⟩ ?_ ?_
    · rintro i σ H2 hi ⟨v, rfl, s2, h2⟩
      have hi' : i < L := by omega
      refine ⟨_, rfl, .inl ⟨rfl, _, SqL.of h2⟩, _, rfl, l, _, _, rfl, rfl, h2, ?_, ?_⟩
      · rw [ints_len, stL_len]
        exact Nat.lt_of_le_of_lt (show 2 * i ≤ 400 by omega) (by decide)
      refine ⟨_, rfl, .inl ⟨rfl, _, SqL.of upd_same⟩, _, rfl, _, rfl, l, _, _, rfl, rfl, upd_same, ?_, ?_⟩
      · rw [List.length_append, ints_len, stL_len]
        exact Nat.lt_of_le_of_lt (show 2 * i + 1 ≤ 400 by omega) (by decide)
      refine ⟨_, rfl, fun b o e => ?_, ?_⟩
      · rw [upd_ne (ne_of_none e hl), upd_ne (ne_of_none e hl)]
        exact s2 _ _ e
      · rw [upd_same, ← stL_two, ints_app, ints_app]
        rfl
    · rintro σ H2 ⟨v, rfl, s2, h2⟩
      rw [show ((L : Int) + 1 - 1).toNat = L by omega] at h2
      exact ⟨_, rfl, k l H2 s2 h2⟩
theorem ok_all_gaps (T : Txt K mg A) : FnOk P w K mg base CX0 2 A.f_all_gaps A.d_all_gaps ["letters"] spGaps := by
  have G_steps_of : FnOk P w K mg base CX0 1 A.f_steps_of A.d_steps_of ["letters"] spStepsO := ok_steps_of T
  refine T.all_gaps.F.ok sc_all_gaps (fun vs H Q E h => ?_) (fun cdv AA outer s H vs Q E hr h => ?_)
  · obtain ⟨L, rfl, _⟩ := h
    rfl
  · obtain ⟨L, rfl, hL1, hL2, k⟩ := h
    refine ⟨_, (pss_one (ps_ret (pe_callTy (call_dict_pairs rfl) rfl T.z_dict PyProof.Rows.boot_dict (pa_cons (pe_comp (fns := []) (ixs := []) (cl := []) rfl (pi_list (pe_call (G_steps_of) (hr.mono (by decide)) rfl T.steps_of.m T.steps_of.F.kp T.steps_of.b .nil pass0 (pa_cons (pv 0) pa_nil))) (compScope0 (by decide +kernel) (by decide +kernel) rfl (by decide +kernel) rfl) (fun C s H ex => (pe_tup (pa_cons (pv 0) (pa_cons pe_bl pa_nil))))) pa_nil)))), ?_⟩
    refine ⟨_, rfl, L, rfl, hL1, hL2, fun l H1 s1 h1 => ⟨l, rfl, ⟨_, SqL.of h1⟩, ?_⟩⟩
    have hn : (intV ((List.range (2 * L)).map M12.st)).length = 2 * L := by rw [ints_len, List.length_map, List.length_range]
    refine comp_make (α := Unit) (2 * L) (fun i => .int (M12.st i)) (fun H2 v i => ∃ p, v = .ref p ∧ H2 p = some (.tup [.int (M12.st i), .bl true])) (fun H1 H2 v i s ⟨p, e, q⟩ => ⟨p, e, s _ _ q⟩) ?_ (fun i H2 s2 hi => itl_go (SqL.of (s2 _ _ h1)) i (by omega)) (fun i x H2 H3 s2 hi y => ?_) (fun H2 s2 => ?_) (fun i H2 Rr hi s2 kk => ?_) (fun D H2 ys s2 hD hl hr => ?_)
    · exact Nat.le_trans (show 2 * L ≤ 400 by omega) (by decide)
    · obtain ⟨e, hx⟩ := itl_yld (SqL.of (s2 _ _ h1)) i x H3 (by omega) y
      refine ⟨e, ?_⟩
      rw [show (intV ((List.range (2 * L)).map M12.st))[i]? = some (.int (M12.st i)) from ints_at (stL_at hi)] at hx
      exact (Option.some.inj hx).symm
    · have := itl_stop (SqL.of (K := K) (s2 _ _ h1))
      rw [hn] at this
      exact this
    · refine ⟨_, rfl, (by show 2 ≤ sizeLine; decide), fun t ht => kk _ _ (Same.upd ht) ⟨t, rfl, upd_same⟩⟩
    · obtain ⟨ps, rfl, hps⟩ := refs_of (P := fun i p => H2 p = some (.tup [.int (M12.st i), .bl true])) ys 0 (fun i v hv => by rw [Nat.zero_add]; exact hr i v hv)
      have sD : Same H2 (upd H2 D (.lst (ps.map V.ref))) := Same.upd hD
      rw [List.length_map] at hl
      refine ⟨D, ps, gK (stL (2 * L)), rfl, upd_same, by rw [gK_len, stL_len, hl], fun i p kv e1 e2 => ?_, fun d hd => ?_⟩
      · have hi : i < 2 * L := by rw [← hl]; exact (List.getElem?_eq_some_iff.mp e1).1
        have := hps i p e1
        rw [Nat.zero_add] at this
        unfold gK at e2
        rw [List.getElem?_map, stL_at hi] at e2
        rw [← Option.some.inj e2]
        exact sD _ _ this
      · have e : mergeK [] (gK (stL (2 * L))) = gK (stL (2 * L)) := by
          rw [merge_new _ _ ?_, List.nil_append]
          rw [List.nil_append]
          unfold gK
          rw [List.map_map]
          exact List.pairwise_map.mpr (List.Pairwise.imp (fun {a b} hab z => hab (Sum.inl.inj z)) (stL_nd _))
        rw [e]
        have sd : Same (upd H2 D (.lst (ps.map V.ref))) (upd (upd H2 D (.lst (ps.map V.ref))) d (.dK (gK (stL (2 * L))))) := Same.upd hd
        have sa := s1.trans (s2.trans sD)
        exact k d _ (sa.trans sd) (sa.free hd) upd_same
theorem ok_Rooms_by (T : Txt K mg A) : FnOk P w K mg base CX0 1 A.f_Rooms_by A.d_Rooms_by ["self", "room", "step"] (spRBy A.c_Rooms) := by
  refine T.Rooms_by.F.ok sc_Rooms_by (fun vs H Q E h => ?_) (fun cdv AA outer s H vs Q E hr h => ?_)
  · obtain ⟨r, S, a, c, z, rfl, _⟩ := h
    rfl
  · obtain ⟨r, S, a, c, z, rfl, h, hc, k⟩ := h
    have hu2 := hu_of hr
    refine ⟨_, (pss_one (ps_ret (pe_dget1 hu2 (pe_ix ix_list (pe_fld (pv 0) rfl) (pv 1) (fun _ _ => rfl)) (pv 2) ⟨rfl, rfl, rfl, rfl⟩))), ?_⟩
    have hl : S.ways[c]? = some (S.way c) := by unfold RS.way; rw [List.getD_eq_getElem?_getD, List.getElem?_eq_getElem hc]; rfl
    obtain ⟨p, hp, hd⟩ := h.rW.at hl
    refine ⟨_, rfl, r, _, a.dx, _, _, rfl, h.ins, cl_Rooms T, T.n_ways, lk_ways _ _ _, _, rfl, a.aW, _, _, _, rfl, rfl, SqL.of h.hW, ref_at hp, p, rfl, .inl ⟨_, .inl hd⟩, _, rfl, _, DGet.k (k := Sum.inl z) hd, ?_⟩
    rw [wK_val]
    exact k
theorem ok_Rooms_elder (T : Txt K mg A) : FnOk P w K mg base CX0 1 A.f_Rooms_elder A.d_Rooms_elder ["self", "room"] (spElder A.c_Rooms) := by
  refine T.Rooms_elder.F.ok sc_Rooms_elder (fun vs H Q E h => ?_) (fun cdv AA outer s H vs Q E hr h => ?_)
  · obtain ⟨r, S, a, c, e, rfl, _⟩ := h
    rfl
  · obtain ⟨r, S, a, c, e, rfl, h, he, k⟩ := h
    refine ⟨_, (pss_one (ps_ret (pe_ix ix_list (pe_fld (pv 0) rfl) (pv 1) (fun _ _ => rfl)))), ?_⟩
    exact ⟨_, rfl, r, _, a.dx, _, _, rfl, h.ins, cl_Rooms T, T.n_elders, lk_elders _ _ _, _, rfl, a.aE, _, _, _, rfl, rfl, SqL.of h.hE, atI_nat (ints_at (nI_get he)), k⟩
theorem way_at {S : RS} {c : Nat} (h : c < S.ways.length) : S.ways[c]? = some (S.way c) := by unfold RS.way; rw [List.getD_eq_getElem?_getD, List.getElem?_eq_getElem h]; rfl
theorem gap_at {S : RS} {c : Nat} (h : c < S.gaps.length) : S.gaps[c]? = some (S.gap c) := by unfold RS.gap; rw [List.getD_eq_getElem?_getD, List.getElem?_eq_getElem h]; rfl
theorem way_le {S : RS} {c n : Nat} (h : ∀ l ∈ S.ways, l.length ≤ n) : (S.way c).length ≤ n := by
  unfold RS.way
  rw [List.getD_eq_getElem?_getD]
  cases e : S.ways[c]? with
  | none => exact Nat.zero_le _
  | some l => exact h l (List.mem_of_getElem? e)
theorem own_w {a : RA} {r p : Addr} {i : Nat} (h : a.ws[i]? = some p) : a.own r p := .inr (.inr (mem_ws (List.mem_of_getElem? h)))
theorem own_g {a : RA} {r p : Addr} {i : Nat} (h : a.gs[i]? = some p) : a.own r p := .inr (.inr (mem_gs (List.mem_of_getElem? h)))
theorem ButO.upd {a : RA} {r p : Addr} {H : Hp} {o : HO} (h : a.own r p) : ButO a r H (upd H p o) := fun b u hb e => by rw [upd_ne (fun z => hb (by rw [z]; exact h))]; exact e
theorem ButO.trans {a : RA} {r : Addr} {H H1 H2 : Hp} (h : ButO a r H H1) (h' : ButO a r H1 H2) : ButO a r H H2 := fun b u hb e => h' b u hb (h b u hb e)
theorem ok_Rooms_keep (T : Txt K mg A) : FnOk P w K mg base CX0 1 A.f_Rooms_keep A.d_Rooms_keep ["self", "room", "step", "other"] (spKeep A.c_Rooms) := by
  refine T.Rooms_keep.F.ok sc_Rooms_keep (fun vs H Q E h => ?_) (fun cdv AA outer s H vs Q E hr h => ?_)
  · obtain ⟨r, S, a, c, d, z, rfl, _⟩ := h
    rfl
  · obtain ⟨r, S, a, c, d, z, rfl, h, hw, hc, hd, hz, k⟩ := h
    have hu2 := hu_of hr
    refine ⟨_, (pss_cons (ps_dput hu2 (pe_ix ix_list (pe_fld (pv 0) rfl) (pv 1) (fun _ _ => rfl)) (pv 2) (pv 3) rfl)
      (pss_cons (ps_dput hu2 (pe_ix ix_list (pe_fld (pv 0) rfl) (pv 3) (fun _ _ => rfl)) (pe_un un_neg (pv 2)) (pv 1) rfl)
      (pss_cons (ps_expr (pe_dpop2 (pe_ix ix_list (pe_fld (pv 0) rfl) (pv 1) (fun _ _ => rfl)) (pv 2) pe_non ⟨rfl, rfl, rfl, rfl⟩))
      (pss_one (ps_expr (pe_dpop2 (pe_ix ix_list (pe_fld (pv 0) rfl) (pv 3) (fun _ _ => rfl)) (pe_un un_neg (pv 2)) pe_non ⟨rfl, rfl, rfl, rfl⟩)))))), ?_⟩
    obtain ⟨p, hp, hP⟩ := h.rW.at (way_at (S := S) (c := c) (by rw [hw.w]; exact hc))
    have b1 : (S.way c).length ≤ 100000 := way_le hz
    refine ⟨_, rfl, _, rfl, r, _, a.dx, _, _, rfl, h.ins, cl_Rooms T, T.n_ways, lk_ways _ _ _, _, rfl, a.aW, _, _, _, rfl, rfl, SqL.of h.hW, ref_at hp, _, rfl, p, _, rfl, DPut.k (k := Sum.inl z) hP (by rw [wK_len]; exact Nat.lt_of_le_of_lt b1 (by decide)), ?_⟩
    rw [wK_put]
    have h1 : RoomsAt A.c_Rooms _ r (S.putWay c z d) a := h.setWay hp (putW (S.way c) z d)
    have u1 : ButO a r H (upd H p (.dK (wK (putW (S.way c) z d)))) := ButO.upd (own_w hp)
    generalize upd H p (.dK (wK (putW (S.way c) z d))) = H1 at h1 u1 ⊢
    have w1 : (S.putWay c z d).ways.length = S.made := by show (S.ways.set c _).length = _; rw [List.length_set, hw.w]
    obtain ⟨q, hq, hQ⟩ := h1.rW.at (way_at (S := S.putWay c z d) (c := d) (by rw [w1]; exact hd))
    have b2 : ((S.putWay c z d).way d).length ≤ 100001 := way_le fun l hl => by
      rcases List.mem_or_eq_of_mem_set hl with hl | rfl
      · exact Nat.le_succ_of_le (hz l hl)
      · exact Nat.le_trans (putW_len _ _ _) (by omega)
    refine ⟨_, rfl, _, rfl, r, _, a.dx, _, _, rfl, h1.ins, cl_Rooms T, T.n_ways, lk_ways _ _ _, _, rfl, a.aW, _, _, _, rfl, rfl, SqL.of h1.hW, ref_at hq, _, rfl, _, rfl, q, _, rfl, DPut.k (k := Sum.inl (-z)) hQ (by rw [wK_len]; exact Nat.lt_of_le_of_lt b2 (by decide)), ?_⟩
    rw [wK_put]
    have h2 : RoomsAt A.c_Rooms _ r ((S.putWay c z d).putWay d (-z) c) a := h1.setWay hq (putW ((S.putWay c z d).way d) (-z) c)
    have u2 : ButO a r H1 (upd H1 q (.dK (wK (putW ((S.putWay c z d).way d) (-z) c)))) := ButO.upd (own_w hq)
    generalize upd H1 q (.dK (wK (putW ((S.putWay c z d).way d) (-z) c))) = H2 at h2 u2 ⊢
    generalize e2 : (S.putWay c z d).putWay d (-z) c = S2 at h2 ⊢
    have g2 : S2.gaps.length = S.made := by rw [← e2]; exact hw.g
    obtain ⟨p3, hp3, hP3⟩ := h2.rG.at (gap_at (S := S2) (c := c) (by rw [g2]; exact hc))
    have pop : ∀ {H : Hp} {S : RS} {c : Nat} {z : Int} {p : Addr}, RoomsAt A.c_Rooms H r S a → a.gs[c]? = some p → H p = some (.dK (gK (S.gap c))) → ∀ {Q : V → Hp → Prop}, (∀ v H', ButO a r H H' → RoomsAt A.c_Rooms H' r (S.noGap c z) a → Q v H') →
        ∃ (kvs : List (Key × V)) (k : Key), H p = some (.dK kvs) ∧ V.int z = kV k ∧ (∀ v, valV kvs k = some v → Q v (upd H p (.dK (dropK kvs k)))) ∧ (valV kvs k = none → Q .non H) := by
      intro H S c z p h hp hP Q hQ
      refine ⟨_, Sum.inl z, hP, rfl, ?_⟩
      rw [gK_val, gK_drop]
      by_cases hm : z ∈ S.gap c
      · rw [if_pos hm]
        exact ⟨fun v _ => hQ _ _ (ButO.upd (own_g hp)) (h.setGap hp _), fun z => by cases z⟩
      · rw [if_neg hm]
        refine ⟨fun v z => (by cases z), fun _ => hQ _ _ (fun _ _ _ e => e) ?_⟩
        have e : (S.gap c).filter (fun x => decide (x ≠ z)) = S.gap c := List.filter_eq_self.mpr fun x hx => decide_eq_true fun z => hm (z ▸ hx)
        have hl : c < S.gaps.length := by rw [← h.rG.1]; exact (List.getElem?_eq_some_iff.mp hp).1
        have : S.noGap c z = S := by
          unfold RS.noGap RS.setG
          rw [e]
          have es : S.gaps.set c (S.gap c) = S.gaps := List.ext_getElem? fun i => by
            by_cases hi : c = i
            · subst hi; rw [List.getElem?_set_self hl, gap_at hl]
            · rw [List.getElem?_set_ne hi]
          rw [es]
        rw [this]; exact h
    refine ⟨_, rfl, r, _, a.dx, _, _, rfl, h2.ins, cl_Rooms T, T.n_gaps, lk_gaps _ _ _, _, rfl, a.aG, _, _, _, rfl, rfl, SqL.of h2.hG, ref_at hp3, p3, rfl, .inl ⟨_, .inl hP3⟩, _, rfl, pop h2 hp3 hP3 fun v H3 u3 h3 => ?_⟩
    generalize e3 : S2.noGap c z = S3 at h3
    have g3 : S3.gaps.length = S.made := by rw [← e3]; show (S2.gaps.set c _).length = _; rw [List.length_set, g2]
    obtain ⟨p4, hp4, hP4⟩ := h3.rG.at (gap_at (S := S3) (c := d) (by rw [g3]; exact hd))
    refine ⟨_, rfl, r, _, a.dx, _, _, rfl, h3.ins, cl_Rooms T, T.n_gaps, lk_gaps _ _ _, _, rfl, a.aG, _, _, _, rfl, rfl, SqL.of h3.hG, ref_at hp4, p4, rfl, .inl ⟨_, .inl hP4⟩, _, rfl, _, rfl, pop h3 hp4 hP4 fun v H4 u4 h4 => ?_⟩
    refine k H4 (u1.trans (u2.trans (u3.trans u4))) ?_
    rw [← e3, ← e2] at h4
    exact h4
theorem ok_Rooms___init__ (T : Txt K mg A) : FnOk P w K mg base CX0 3 A.f_Rooms___init__ A.d_Rooms___init__ ["self", "letters"] (spNew A.c_Rooms) := by
  have G_all_gaps : FnOk P w K mg base CX0 2 A.f_all_gaps A.d_all_gaps ["letters"] spGaps := ok_all_gaps T
  refine T.Rooms___init__.F.ok sc_Rooms___init__ (fun vs H Q E h => ?_) (fun cdv AA outer s H vs Q E hr h => ?_)
  · obtain ⟨x, dx, L, rfl, _⟩ := h
    rfl
  · obtain ⟨x, dx, L, rfl, hx, hL1, hL2, k⟩ := h
    refine ⟨_, (pss_cons (ps_fld (pv 0) (pv 1) rfl)
      (pss_cons (ps_fld (pv 0) pe_int rfl)
      (pss_cons (ps_fld (pv 0) (pe_lst pa_nil) rfl)
      (pss_cons (ps_fld (pv 0) (pe_lst (pa_cons pe_dnewK pa_nil)) rfl)
      (pss_cons (ps_fld (pv 0) (pe_lst (pa_cons (pe_call (G_all_gaps) (hr.mono (by decide)) rfl T.all_gaps.m T.all_gaps.F.kp T.all_gaps.b .nil pass0 (pa_cons (pv 1) pa_nil)) pa_nil)) rfl)
      (pss_cons (ps_fld (pv 0) (pe_lst (pa_cons pe_int pa_nil)) rfl)
      (pss_cons (ps_fld (pv 0) (pe_lst (pa_cons (pe_lst (pa_cons pe_int pa_nil)) pa_nil)) rfl)
      (pss_one (ps_fld (pv 0) (pe_lst pa_nil) rfl))))))))), ?_⟩
    have st : ∀ {H0 : Hp} {fs : List (Str × V)} {f : Str} {v : V}, H0 x = some (.ins A.c_Rooms dx fs) → (∀ b o, H b = some o → b ≠ x → H0 b = some o) → upd H0 x (.ins A.c_Rooms dx (putF f v fs)) x = some (.ins A.c_Rooms dx (putF f v fs)) ∧ (∀ b o, H b = some o → b ≠ x → upd H0 x (.ins A.c_Rooms dx (putF f v fs)) b = some o) ∧ ∀ b o, b ≠ x → H0 b = some o → upd H0 x (.ins A.c_Rooms dx (putF f v fs)) b = some o :=
      fun _ h => ⟨upd_same, fun b o e n => by rw [upd_ne n]; exact h b o e n, fun b o n e => by rw [upd_ne n]; exact e⟩
    refine ⟨_, rfl, _, rfl, x, _, dx, _, rfl, hx, cl_Rooms T, T.n_letters, (by show 0 < 1000; decide), ?_⟩
    obtain ⟨x1, o1, -⟩ := st (f := "letters") (v := .int L) hx (fun b o e _ => e)
    generalize upd H x (.ins A.c_Rooms dx (putF "letters" (.int L) [])) = H1 at x1 o1 ⊢
    have f1 : (putF "letters" (.int L) ([] : List (Str × V))).length ≤ 1 := putF_le (n := 0) (Nat.le_refl _)
    refine ⟨_, rfl, x, _, dx, _, rfl, x1, cl_Rooms T, T.n_made, Nat.lt_of_le_of_lt f1 (by decide), ?_⟩
    obtain ⟨x2, o2, -⟩ := st (f := "made") (v := .int 1) x1 o1
    have f2 := putF_le (f := "made") (v := .int 1) f1
    generalize e2 : putF "made" (.int 1) (putF "letters" (.int L) []) = fs2 at x2 o2 f2 ⊢
    generalize upd H1 x (.ins A.c_Rooms dx fs2) = H2 at x2 o2 ⊢
    refine ⟨Nat.zero_le _, fun aR nR => ⟨_, rfl, x, _, dx, _, rfl, Same.upd nR _ _ x2, cl_Rooms T, T.n_rows, Nat.lt_of_le_of_lt f2 (by decide), ?_⟩⟩
    have hR3 : upd H2 aR (.lst []) aR = some (.lst []) := upd_same
    have nxR : aR ≠ x := (ne_of_none x2 nR).symm
    have s3 := Same.upd (o := .lst []) nR
    have n0 : ∀ {b : Addr} {H0 : Hp}, (∀ c o, H c = some o → c ≠ x → H0 c = some o) → H0 b = none → b ≠ x → H b = none := fun {b H0} h n nx => by
      cases e : H b with
      | none => rfl
      | some o => rw [h b o e nx] at n; cases n
    have kR := n0 o2 nR nxR
    generalize upd H2 aR (.lst []) = H3 at hR3 s3 ⊢
    obtain ⟨x4, o4, k4⟩ := st (f := "rows") (v := .ref aR) (s3 _ _ x2) (fun b o e n => s3 _ _ (o2 b o e n))
    have f4 := putF_le (f := "rows") (v := .ref aR) f2
    generalize e4 : putF "rows" (.ref aR) fs2 = fs4 at x4 o4 f4 k4 ⊢
    have hR4 := k4 _ _ nxR hR3
    generalize upd H3 x (.ins A.c_Rooms dx fs4) = H4 at x4 o4 hR4 ⊢
    intro wd nwd
    have nxwd : wd ≠ x := (ne_of_none x4 nwd).symm
    have kwd := n0 o4 nwd nxwd
    have s5 := Same.upd (o := .dK []) nwd
    have hwd5 : upd H4 wd (.dK []) wd = some (.dK []) := upd_same
    generalize upd H4 wd (.dK []) = H5 at s5 hwd5 ⊢
    refine ⟨(by show 1 ≤ sizeLine; decide), fun aW nW => ⟨_, rfl, x, _, dx, _, rfl, Same.upd nW _ _ (s5 _ _ x4), cl_Rooms T, T.n_ways, Nat.lt_of_le_of_lt f4 (by decide), ?_⟩⟩
    have nxW : aW ≠ x := (ne_of_none (s5 _ _ x4) nW).symm
    have kW := n0 (fun b o e n => s5 _ _ (o4 b o e n)) nW nxW
    have nWR : aW ≠ aR := (ne_of_none (s5 _ _ hR4) nW).symm
    have s6 := Same.upd (o := .lst [.ref wd]) nW
    have hW6 : upd H5 aW (.lst [.ref wd]) aW = some (.lst [.ref wd]) := upd_same
    generalize upd H5 aW (.lst [.ref wd]) = H6 at s6 hW6 ⊢
    obtain ⟨x7, o7, k7⟩ := st (f := "ways") (v := .ref aW) (s6 _ _ (s5 _ _ x4)) (fun b o e n => s6 _ _ (s5 _ _ (o4 b o e n)))
    have f7 := putF_le (f := "ways") (v := .ref aW) f4
    generalize e7 : putF "ways" (.ref aW) fs4 = fs7 at x7 o7 f7 k7 ⊢
    have hR7 := k7 _ _ nxR (s6 _ _ (s5 _ _ hR4))
    have hW7 := k7 _ _ nxW hW6
    have hwd7 := k7 _ _ nxwd (s6 _ _ hwd5)
    generalize upd H6 x (.ins A.c_Rooms dx fs7) = H7 at x7 o7 hR7 hW7 hwd7 ⊢
    refine ⟨_, rfl, L, rfl, hL1, hL2, fun gd H8 s8 ngd hgd8 => ?_⟩
    have nxgd : gd ≠ x := (ne_of_none x7 ngd).symm
    have kgd := n0 o7 ngd nxgd
    have ngw : gd ≠ wd := (ne_of_none hwd7 ngd).symm
    refine ⟨(by show 1 ≤ sizeLine; decide), fun aG nG => ⟨_, rfl, x, _, dx, _, rfl, Same.upd nG _ _ (s8 _ _ x7), cl_Rooms T, T.n_gaps, Nat.lt_of_le_of_lt f7 (by decide), ?_⟩⟩
    have nxG : aG ≠ x := (ne_of_none (s8 _ _ x7) nG).symm
    have kG := n0 (fun b o e n => s8 _ _ (o7 b o e n)) nG nxG
    have nGR : aG ≠ aR := (ne_of_none (s8 _ _ hR7) nG).symm
    have nGW : aG ≠ aW := (ne_of_none (s8 _ _ hW7) nG).symm
    have s9 := Same.upd (o := .lst [.ref gd]) nG
    have hG9 : upd H8 aG (.lst [.ref gd]) aG = some (.lst [.ref gd]) := upd_same
    generalize upd H8 aG (.lst [.ref gd]) = H9 at s9 hG9 ⊢
    obtain ⟨x10, o10, k10⟩ := st (f := "gaps") (v := .ref aG) (s9 _ _ (s8 _ _ x7)) (fun b o e n => s9 _ _ (s8 _ _ (o7 b o e n)))
    have f10 := putF_le (f := "gaps") (v := .ref aG) f7
    generalize e10 : putF "gaps" (.ref aG) fs7 = fs10 at x10 o10 f10 k10 ⊢
    have hR10 := k10 _ _ nxR (s9 _ _ (s8 _ _ hR7))
    have hW10 := k10 _ _ nxW (s9 _ _ (s8 _ _ hW7))
    have hwd10 := k10 _ _ nxwd (s9 _ _ (s8 _ _ hwd7))
    have hG10 := k10 _ _ nxG hG9
    have hgd10 := k10 _ _ nxgd (s9 _ _ hgd8)
    generalize upd H9 x (.ins A.c_Rooms dx fs10) = H10 at x10 o10 hR10 hW10 hwd10 hG10 hgd10 ⊢
    refine ⟨by decide, fun aE nE => ⟨_, rfl, x, _, dx, _, rfl, Same.upd nE _ _ x10, cl_Rooms T, T.n_elders, Nat.lt_of_le_of_lt f10 (by decide), ?_⟩⟩
    have nxE : aE ≠ x := (ne_of_none x10 nE).symm
    have kE := n0 o10 nE nxE
    have nER : aE ≠ aR := (ne_of_none hR10 nE).symm
    have nEW : aE ≠ aW := (ne_of_none hW10 nE).symm
    have nEG : aE ≠ aG := (ne_of_none hG10 nE).symm
    have s11 := Same.upd (o := .lst [.int 0]) nE
    have hE11 : upd H10 aE (.lst [.int 0]) aE = some (.lst [.int 0]) := upd_same
    generalize upd H10 aE (.lst [.int 0]) = H11 at s11 hE11 ⊢
    obtain ⟨x12, o12, k12⟩ := st (f := "elders") (v := .ref aE) (s11 _ _ x10) (fun b o e n => s11 _ _ (o10 b o e n))
    have f12 := putF_le (f := "elders") (v := .ref aE) f10
    generalize e12 : putF "elders" (.ref aE) fs10 = fs12 at x12 o12 f12 k12 ⊢
    have hR12 := k12 _ _ nxR (s11 _ _ hR10)
    have hW12 := k12 _ _ nxW (s11 _ _ hW10)
    have hwd12 := k12 _ _ nxwd (s11 _ _ hwd10)
    have hG12 := k12 _ _ nxG (s11 _ _ hG10)
    have hgd12 := k12 _ _ nxgd (s11 _ _ hgd10)
    have hE12 := k12 _ _ nxE hE11
    generalize upd H11 x (.ins A.c_Rooms dx fs12) = H12 at x12 o12 hR12 hW12 hwd12 hG12 hgd12 hE12 ⊢
    refine ⟨by decide, fun cl ncl => ⟨(by show 1 ≤ sizeLine; decide), fun aC nC => ⟨_, rfl, x, _, dx, _, rfl, Same.upd nC _ _ (Same.upd ncl _ _ x12), cl_Rooms T, T.n_called, Nat.lt_of_le_of_lt f12 (by decide), ?_⟩⟩⟩
    have nxcl : cl ≠ x := (ne_of_none x12 ncl).symm
    have kcl := n0 o12 ncl nxcl
    have ncR : cl ≠ aR := (ne_of_none hR12 ncl).symm
    have ncW : cl ≠ aW := (ne_of_none hW12 ncl).symm
    have ncG : cl ≠ aG := (ne_of_none hG12 ncl).symm
    have ncE : cl ≠ aE := (ne_of_none hE12 ncl).symm
    have s13 := Same.upd (o := .lst [.int 0]) ncl
    have hcl13 : upd H12 cl (.lst [.int 0]) cl = some (.lst [.int 0]) := upd_same
    generalize upd H12 cl (.lst [.int 0]) = H13 at s13 hcl13 nC ⊢
    have nxC : aC ≠ x := (ne_of_none (s13 _ _ x12) nC).symm
    have kC := n0 (fun b o e n => s13 _ _ (o12 b o e n)) nC nxC
    have nCR : aC ≠ aR := (ne_of_none (s13 _ _ hR12) nC).symm
    have nCW : aC ≠ aW := (ne_of_none (s13 _ _ hW12) nC).symm
    have nCG : aC ≠ aG := (ne_of_none (s13 _ _ hG12) nC).symm
    have nCE : aC ≠ aE := (ne_of_none (s13 _ _ hE12) nC).symm
    have nCc : aC ≠ cl := (ne_of_none hcl13 nC).symm
    have s14 := Same.upd (o := .lst [.ref cl]) nC
    have hC14 : upd H13 aC (.lst [.ref cl]) aC = some (.lst [.ref cl]) := upd_same
    generalize upd H13 aC (.lst [.ref cl]) = H14 at s14 hC14 ⊢
    obtain ⟨x15, o15, k15⟩ := st (f := "called") (v := .ref aC) (s14 _ _ (s13 _ _ x12)) (fun b o e n => s14 _ _ (s13 _ _ (o12 b o e n)))
    have f15 := putF_le (f := "called") (v := .ref aC) f12
    generalize e15 : putF "called" (.ref aC) fs12 = fs15 at x15 o15 f15 k15 ⊢
    have hR15 := k15 _ _ nxR (s14 _ _ (s13 _ _ hR12))
    have hW15 := k15 _ _ nxW (s14 _ _ (s13 _ _ hW12))
    have hwd15 := k15 _ _ nxwd (s14 _ _ (s13 _ _ hwd12))
    have hG15 := k15 _ _ nxG (s14 _ _ (s13 _ _ hG12))
    have hgd15 := k15 _ _ nxgd (s14 _ _ (s13 _ _ hgd12))
    have hE15 := k15 _ _ nxE (s14 _ _ (s13 _ _ hE12))
    have hcl15 := k15 _ _ nxcl (s14 _ _ hcl13)
    have hC15 := k15 _ _ nxC hC14
    generalize upd H14 x (.ins A.c_Rooms dx fs15) = H15 at x15 o15 hR15 hW15 hwd15 hG15 hgd15 hE15 hcl15 hC15 ⊢
    refine ⟨Nat.zero_le _, fun aN nN => ⟨_, rfl, x, _, dx, _, rfl, Same.upd nN _ _ x15, cl_Rooms T, T.n_went, Nat.lt_of_le_of_lt f15 (by decide), ?_⟩⟩
    have nxN : aN ≠ x := (ne_of_none x15 nN).symm
    have kN := n0 o15 nN nxN
    have nNR : aN ≠ aR := (ne_of_none hR15 nN).symm
    have nNW : aN ≠ aW := (ne_of_none hW15 nN).symm
    have nNG : aN ≠ aG := (ne_of_none hG15 nN).symm
    have nNE : aN ≠ aE := (ne_of_none hE15 nN).symm
    have nNC : aN ≠ aC := (ne_of_none hC15 nN).symm
    have nNc : aN ≠ cl := (ne_of_none hcl15 nN).symm
    have s16 := Same.upd (o := .lst []) nN
    have hN16 : upd H15 aN (.lst []) aN = some (.lst []) := upd_same
    generalize upd H15 aN (.lst []) = H16 at s16 hN16 ⊢
    obtain ⟨x17, o17, k17⟩ := st (f := "went") (v := .ref aN) (s16 _ _ x15) (fun b o e n => s16 _ _ (o15 b o e n))
    have ef : putF "went" (.ref aN) fs15 = flds (L : Int) 1 ⟨dx, aR, aW, aG, aE, aC, aN, [], [wd], [gd], [cl]⟩ := by
      rw [← e15, ← e12, ← e10, ← e7, ← e4, ← e2]
      kernel_rfl
    rw [ef] at x17 o17 k17 ⊢
    refine k ⟨dx, aR, aW, aG, aE, aC, aN, [], [wd], [gd], [cl]⟩ _ o17 ⟨x17, k17 _ _ nxR (s16 _ _ hR15), k17 _ _ nxW (s16 _ _ hW15), k17 _ _ nxG (s16 _ _ hG15), k17 _ _ nxE (s16 _ _ hE15), k17 _ _ nxC (s16 _ _ hC15), k17 _ _ nxN hN16, ⟨rfl, (fun i p d h => by simp at h)⟩, ?_, ?_, ?_, (fun d hd => by cases hd), ?_, ?_⟩ ?_
    · exact Each.snoc (ps := []) (xs := []) ⟨rfl, fun i p d h => by simp at h⟩ (k17 _ _ nxwd (s16 _ _ hwd15))
    · exact Each.snoc (ps := []) (xs := []) ⟨rfl, fun i p d h => by simp at h⟩ (k17 _ _ nxgd (s16 _ _ hgd15))
    · exact Each.snoc (ps := []) (xs := []) ⟨rfl, fun i p d h => by simp at h⟩ (k17 _ _ nxcl (s16 _ _ hcl15))
    · show [aR, aW, aG, aE, aC, aN, cl].Nodup
      simp only [List.nodup_cons, List.mem_cons, List.not_mem_nil, or_false, not_or, List.nodup_nil, and_true, not_false_eq_true]
      exact ⟨⟨nWR.symm, nGR.symm, nER.symm, nCR.symm, nNR.symm, ncR.symm⟩, ⟨nGW.symm, nEW.symm, nCW.symm, nNW.symm, ncW.symm⟩, ⟨nEG.symm, nCG.symm, nNG.symm, ncG.symm⟩, ⟨nCE.symm, nNE.symm, ncE.symm⟩, ⟨nNC.symm, nCc⟩, nNc⟩
    · show [wd, gd].Nodup
      simp only [List.nodup_cons, List.mem_cons, List.not_mem_nil, or_false, List.nodup_nil, and_true, not_false_eq_true]
      exact ngw.symm
    · intro b hb
      rcases hb with rfl | hb | hb
      · exact .inl rfl
      · simp only [RA.lists, List.mem_cons, List.not_mem_nil, or_false] at hb
        rcases hb with rfl | rfl | rfl | rfl | rfl | rfl | rfl <;> exact .inr (by assumption)
      · simp only [RA.dicts, List.mem_append, List.mem_cons, List.not_mem_nil, or_false] at hb
        rcases hb with rfl | rfl <;> exact .inr (by assumption)
theorem _root_.L2.RoomsAt.mkL {C : Addr} {H : Hp} {r : Addr} {S : RS} {a : RA} (h : RoomsAt C H r S a) {p : Addr} (hp : H p = none) : ¬ a.own r p := fun z => by
  obtain ⟨o, e⟩ := h.there z
  rw [hp] at e; cases e
theorem ok_Rooms_make (T : Txt K mg A) : FnOk P w K mg base CX0 3 A.f_Rooms_make A.d_Rooms_make ["self", "room", "step"] (spMake A.c_Rooms) := by
  have G_Rooms_keep : FnOk P w K mg base CX0 1 A.f_Rooms_keep A.d_Rooms_keep ["self", "room", "step", "other"] (spKeep A.c_Rooms) := ok_Rooms_keep T
  have G_all_gaps : FnOk P w K mg base CX0 2 A.f_all_gaps A.d_all_gaps ["letters"] spGaps := ok_all_gaps T
  refine T.Rooms_make.F.ok sc_Rooms_make (fun vs H Q E h => ?_) (fun cdv AA outer s H vs Q E hr h => ?_)
  · obtain ⟨r, S, a, c, z, rfl, _⟩ := h
    rfl
  · obtain ⟨r, S, a, c, z, rfl, h, hw, hL1, hL2, hc, hm, hrl, hz, k⟩ := h
    refine ⟨_, (pss_cons (ps_set (i := 3) sc_Rooms_make.nd rfl (Or.inl rfl) (pe_fld (pv 0) rfl))
      (pss_cons (ps_fld (pv 0) (pe_op op_add (pv 3) pe_int) rfl)
      (pss_cons (ps_expr (pe_bm PySem.F.plainAttrs_list PySem.F.slot_list_append PySem.F.type_list_append mt_append (pe_fld (pv 0) rfl) (pa_cons (pe_tup (pa_cons (pe_strX (l := [110, 101, 119]) rfl) (pa_cons (pv 1) (pa_cons (pv 2) (pa_cons (pv 3) pa_nil))))) pa_nil)))
      (pss_cons (ps_expr (pe_bm PySem.F.plainAttrs_list PySem.F.slot_list_append PySem.F.type_list_append mt_append (pe_fld (pv 0) rfl) (pa_cons pe_dnewK pa_nil)))
      (pss_cons (ps_expr (pe_bm PySem.F.plainAttrs_list PySem.F.slot_list_append PySem.F.type_list_append mt_append (pe_fld (pv 0) rfl) (pa_cons (pe_call (G_all_gaps) (hr.mono (by decide)) rfl T.all_gaps.m T.all_gaps.F.kp T.all_gaps.b .nil pass0 (pa_cons (pe_fld (pv 0) rfl) pa_nil)) pa_nil)))
      (pss_cons (ps_expr (pe_bm PySem.F.plainAttrs_list PySem.F.slot_list_append PySem.F.type_list_append mt_append (pe_fld (pv 0) rfl) (pa_cons (pv 3) pa_nil)))
      (pss_cons (ps_expr (pe_bm PySem.F.plainAttrs_list PySem.F.slot_list_append PySem.F.type_list_append mt_append (pe_fld (pv 0) rfl) (pa_cons (pe_lst (pa_cons (pv 3) pa_nil)) pa_nil)))
      (pss_cons (ps_expr (pe_meth (pv 0) (cl_Rooms T) T.Rooms_keep.m (G_Rooms_keep) (hr.mono (by decide)) T.Rooms_keep.b .nil pass0 (pa_cons (pv 1) (pa_cons (pv 2) (pa_cons (pv 3) pa_nil)))))
      (pss_one (ps_ret (pv 3))))))))))), ?_⟩
    refine ⟨_, rfl, r, _, a.dx, _, _, rfl, h.ins, cl_Rooms T, T.n_made, lk_made _ _ _, ?_⟩
    refine ⟨_, rfl, _, _, rfl, rfl, _, rfl, r, _, a.dx, _, rfl, h.ins, cl_Rooms T, T.n_made, (by show 8 < 1000; decide), ?_⟩
    rw [putF_made, show (S.made : Int) + 1 = ((S.made + 1 : Nat) : Int) by omega]
    have h1 := h.setMade (S.made + 1)
    have u1 : ButO a r H (upd H r (.ins A.c_Rooms a.dx (flds S.L ((S.made + 1 : Nat) : Int) a))) := ButO.upd (.inl rfl)
    generalize upd H r (.ins A.c_Rooms a.dx (flds S.L ((S.made + 1 : Nat) : Int) a)) = H1 at h1 u1 ⊢
    have lR : (a.rs.map V.ref).length < sizeLine := by rw [List.length_map, h.rR.1]; exact Nat.lt_of_le_of_lt hrl (by decide)
    refine ⟨_, rfl, r, _, a.dx, _, _, rfl, h1.ins, cl_Rooms T, T.n_rows, lk_rows _ _ _, .inl ⟨rfl, _, SqL.of h1.hR⟩, _, rfl, _, rfl, _, rfl, (by show 4 ≤ sizeLine; decide), fun t ht => ⟨a.aR, _, _, rfl, rfl, Same.upd ht _ _ h1.hR, lR, ?_⟩⟩
    have s2 := Same.upd (o := .tup [.str (tx [110, 101, 119]), .int c, .int z, .int S.made]) ht
    have ht2 : upd H1 t (.tup [.str (tx [110, 101, 119]), .int c, .int z, .int S.made]) t = some (.tup [.str (tx [110, 101, 119]), .int c, .int z, .int S.made]) := upd_same
    generalize upd H1 t (.tup [.str (tx [110, 101, 119]), .int c, .int z, .int S.made]) = H2 at s2 ht2 ⊢
    have hd2 : DtAt H2 4 (.ref t) (rowNew c z S.made) := by
      refine .t ht2 rfl fun j v d e1 e2 => ?_
      rcases j with _ | _ | _ | _ | j
      · simp at e1 e2; subst e1 e2; exact .s
      · simp at e1 e2; subst e1 e2; exact .i
      · simp at e1 e2; subst e1 e2; exact .i
      · simp at e1 e2; subst e1 e2; exact .i
      · simp at e1
    have nl : NoL (rowNew c z S.made) := .t (by show 4 ≤ 100000; decide) fun d hd => by
      simp only [List.mem_cons, List.not_mem_nil, or_false] at hd
      rcases hd with rfl | rfl | rfl | rfl
      · exact .s
      · exact .i
      · exact .i
      · exact .i
    have h3 := (h1.same s2).addRow hd2 nl
    have u3 : ButO a r H2 (upd H2 a.aR (.lst (a.rs.map V.ref ++ [.ref t]))) := ButO.upd (.inr (.inl mem_R))
    generalize upd H2 a.aR (.lst (a.rs.map V.ref ++ [.ref t])) = H3 at h3 u3 ⊢
    generalize ea3 : ({ a with rs := a.rs ++ [t] } : RA) = a3 at h3
    have own3 : ∀ b, a3.own r b → a.own r b := fun b hb => by rw [← ea3] at hb; exact hb
    have own3' : ∀ b, a.own r b → a3.own r b := fun b hb => by rw [← ea3]; exact hb
    have ewG : a3.dx = a.dx := by rw [← ea3]
    have U3 : ButO a r H H3 := u1.trans (fun b o hb e => u3 b o hb (s2 _ _ e))
    refine ⟨_, rfl, r, _, a3.dx, _, _, rfl, h3.ins, cl_Rooms T, T.n_ways, lk_ways _ _ _, .inl ⟨rfl, _, SqL.of h3.hW⟩, ?_⟩
    intro wd nwd
    have hdW : (a3.ws.map V.ref).length < sizeLine := by rw [List.length_map, h3.rW.1]; show S.ways.length < sizeLine; rw [hw.w]; exact Nat.lt_of_le_of_lt hm (by decide)
    have s4 := Same.upd (o := .dK []) nwd
    have hwd4 : upd H3 wd (.dK []) wd = some (.dK (wK [])) := upd_same
    have nwd0 := h3.mkL nwd
    refine ⟨a3.aW, _, _, rfl, rfl, s4 _ _ h3.hW, hdW, ?_⟩
    generalize upd H3 wd (.dK []) = H4 at s4 hwd4 ⊢
    have h5 := (h3.same s4).addWay hwd4 (fun z => nwd0 (.inr (.inr z)))
    have u5 : ButO a3 r H4 (upd H4 a3.aW (.lst (a3.ws.map V.ref ++ [.ref wd]))) := ButO.upd (.inr (.inl mem_W))
    generalize upd H4 a3.aW (.lst (a3.ws.map V.ref ++ [.ref wd])) = H5 at h5 u5 ⊢
    generalize ea5 : ({ a3 with ws := a3.ws ++ [wd] } : RA) = a5 at h5
    have own5 : ∀ b, a5.own r b → a3.own r b ∨ b = wd := fun b hb => by
      rw [← ea5] at hb
      rcases hb with hb | hb | hb
      · exact .inl (.inl hb)
      · exact .inl (.inr (.inl hb))
      · simp only [RA.dicts, List.mem_append, List.mem_singleton] at hb
        rcases hb with (hb | hb) | hb
        · exact .inl (.inr (.inr (List.mem_append_left _ hb)))
        · exact .inr hb
        · exact .inl (.inr (.inr (List.mem_append_right _ hb)))
    have kwd : H wd = none ∨ a.own r wd := by
      by_cases ho : a.own r wd
      · exact .inr ho
      · refine .inl ?_
        cases e : H wd with
        | none => rfl
        | some o => rw [U3 wd o ho e] at nwd; cases nwd
    have U5 : ButO a r H H5 := U3.trans fun b o hb e => u5 b o (fun z => hb (own3 b z)) (s4 _ _ e)
    refine ⟨_, rfl, r, _, a5.dx, _, _, rfl, h5.ins, cl_Rooms T, T.n_gaps, lk_gaps _ _ _, .inl ⟨rfl, _, SqL.of h5.hG⟩, _, rfl, r, _, a5.dx, _, _, rfl, h5.ins, cl_Rooms T, T.n_letters, lk_letters _ _ _, S.L, rfl, hL1, hL2, fun gd H6 s6 ngd hgd6 => ?_⟩
    have hdG : (a5.gs.map V.ref).length < sizeLine := by rw [List.length_map, h5.rG.1]; show S.gaps.length < sizeLine; rw [hw.g]; exact Nat.lt_of_le_of_lt hm (by decide)
    have h6 := h5.same s6
    have ngd0 := h5.mkL ngd
    refine ⟨a5.aG, _, _, rfl, rfl, h6.hG, hdG, ?_⟩
    have h7 := h6.addGap hgd6 (fun z => ngd0 (.inr (.inr z)))
    have u7 : ButO a5 r H6 (upd H6 a5.aG (.lst (a5.gs.map V.ref ++ [.ref gd]))) := ButO.upd (.inr (.inl mem_G))
    generalize upd H6 a5.aG (.lst (a5.gs.map V.ref ++ [.ref gd])) = H7 at h7 u7 ⊢
    generalize ea7 : ({ a5 with gs := a5.gs ++ [gd] } : RA) = a7 at h7
    have own7 : ∀ b, a7.own r b → a5.own r b ∨ b = gd := fun b hb => by
      rw [← ea7] at hb
      rcases hb with hb | hb | hb
      · exact .inl (.inl hb)
      · exact .inl (.inr (.inl hb))
      · simp only [RA.dicts, List.mem_append, List.mem_singleton] at hb
        rcases hb with hb | hb | hb
        · exact .inl (.inr (.inr (List.mem_append_left _ hb)))
        · exact .inl (.inr (.inr (List.mem_append_right _ hb)))
        · exact .inr hb
    have w5 : H wd = none ∨ a.own r wd := kwd
    have out5 : ∀ b o, ¬ a.own r b → H b = some o → ¬ a5.own r b := fun b o hb e z => by
      rcases own5 b z with z | rfl
      · exact hb (own3 b z)
      · rcases kwd with q | q
        · rw [q] at e; cases e
        · exact hb q
    have U7 : ButO a r H H7 := fun b o hb e => u7 b o (out5 b o hb e) (s6 _ _ (U5 b o hb e))
    have kgd : H gd = none ∨ a.own r gd := by
      by_cases ho : a.own r gd
      · exact .inr ho
      · refine .inl ?_
        cases e : H gd with
        | none => rfl
        | some o => rw [U5 gd o ho e] at ngd; cases ngd
    refine ⟨_, rfl, r, _, a7.dx, _, _, rfl, h7.ins, cl_Rooms T, T.n_elders, lk_elders _ _ _, .inl ⟨rfl, _, SqL.of h7.hE⟩, _, rfl, a7.aE, _, _, rfl, rfl, h7.hE, ?_, ?_⟩
    · rw [ints_len, nI_len]; show S.elders.length < sizeLine; rw [hw.e]; exact Nat.lt_of_le_of_lt hm (by decide)
    have eE : intV (nI S.elders) ++ [V.int (S.made : Int)] = intV (nI (S.elders ++ [S.made])) := by rw [nI_app, ints_app]; rfl
    show _
    have h8 := h7.setElders (S.elders ++ [S.made])
    rw [← eE] at h8
    have u8 : ButO a7 r H7 (upd H7 a7.aE (.lst (intV (nI S.elders) ++ [V.int (S.made : Int)]))) := ButO.upd (.inr (.inl mem_E))
    generalize upd H7 a7.aE (.lst (intV (nI S.elders) ++ [V.int (S.made : Int)])) = H8 at h8 u8 ⊢
    have out7 : ∀ b o, ¬ a.own r b → H b = some o → ¬ a7.own r b := fun b o hb e z => by
      rcases own7 b z with z | rfl
      · exact out5 b o hb e z
      · rcases kgd with q | q
        · rw [q] at e; cases e
        · exact hb q
    have U8 : ButO a r H H8 := fun b o hb e => u8 b o (out7 b o hb e) (U7 b o hb e)
    refine ⟨_, rfl, r, _, a7.dx, _, _, rfl, h8.ins, cl_Rooms T, T.n_called, lk_called _ _ _, .inl ⟨rfl, _, SqL.of h8.hC⟩, _, rfl, (by show 1 ≤ sizeLine; decide), fun cl ncl => ⟨a7.aC, _, _, rfl, rfl, Same.upd ncl _ _ h8.hC, ?_, ?_⟩⟩
    · rw [List.length_map, h8.rC.1]; show S.called.length < sizeLine; rw [hw.c]; exact Nat.lt_of_le_of_lt hm (by decide)
    have s9 := Same.upd (o := .lst [.int (S.made : Int)]) ncl
    have hcl9 : upd H8 cl (.lst [.int (S.made : Int)]) cl = some (.lst (intV (nI [S.made]))) := upd_same
    have ncl0 := h8.mkL ncl
    generalize upd H8 cl (.lst [.int (S.made : Int)]) = H9 at s9 hcl9 ⊢
    have h10 := (h8.same s9).addCalled hcl9 (fun z => ncl0 (.inr (.inl z)))
    have u10 : ButO a7 r H9 (upd H9 a7.aC (.lst (a7.cs.map V.ref ++ [.ref cl]))) := ButO.upd (.inr (.inl mem_C))
    generalize upd H9 a7.aC (.lst (a7.cs.map V.ref ++ [.ref cl])) = H10 at h10 u10 ⊢
    generalize ea10 : ({ a7 with cs := a7.cs ++ [cl] } : RA) = a10 at h10
    have own10 : ∀ b, a10.own r b → a7.own r b ∨ b = cl := fun b hb => by
      rw [← ea10] at hb
      rcases hb with hb | hb | hb
      · exact .inl (.inl hb)
      · have hb' : b ∈ a7.lists ++ [cl] := hb
        rcases List.mem_append.mp hb' with hb | hb
        · exact .inl (.inr (.inl hb))
        · exact .inr (List.mem_singleton.mp hb)
      · exact .inl (.inr (.inr hb))
    have kcl : H cl = none ∨ a.own r cl := by
      by_cases ho : a.own r cl
      · exact .inr ho
      · refine .inl ?_
        cases e : H cl with
        | none => rfl
        | some o => rw [U8 cl o ho e] at ncl; cases ncl
    have out10 : ∀ b o, ¬ a.own r b → H b = some o → ¬ a10.own r b := fun b o hb e z => by
      rcases own10 b z with z | rfl
      · exact out7 b o hb e z
      · rcases kcl with q | q
        · rw [q] at e; cases e
        · exact hb q
    have U10 : ButO a r H H10 := fun b o hb e => u10 b o (out7 b o hb e) (s9 _ _ (U8 b o hb e))
    have hS : RoomsAt A.c_Rooms H10 r (S.grown c z (stL (2 * S.L))) a10 := h10
    refine ⟨_, rfl, r, a10.dx, _, rfl, hS.ins, lk_none _ _ _ (by decide +kernel), _, rfl, _, rfl, _, rfl, r, S.grown c z (stL (2 * S.L)), a10, c, S.made, z, rfl, hS, ⟨?_, ?_, ?_, ?_⟩, ?_, ?_, ?_, fun H11 u11 h11 => ?_⟩
    · show (S.ways ++ [[]]).length = S.made + 1; rw [List.length_append, hw.w]; rfl
    · show (S.gaps ++ [_]).length = S.made + 1; rw [List.length_append, hw.g]; rfl
    · show (S.elders ++ [_]).length = S.made + 1; rw [List.length_append, hw.e]; rfl
    · show (S.called ++ [_]).length = S.made + 1; rw [List.length_append, hw.c]; rfl
    · show c < S.made + 1; omega
    · show S.made < S.made + 1; omega
    · intro l hl
      rcases List.mem_append.mp hl with hl | hl
      · exact hz l hl
      · rw [List.mem_singleton.mp hl]; exact Nat.zero_le _
    · refine ⟨_, rfl, k a10 H11 (fun b o hb e => u11 b o (out10 b o hb e) (U10 b o hb e)) h11 fun b hb => ?_⟩
      rcases own10 b hb with hb | rfl
      · rcases own7 b hb with hb | rfl
        · rcases own5 b hb with hb | rfl
          · exact .inl (own3 b hb)
          · exact kwd.symm
        · exact kgd.symm
      · exact kcl.symm
theorem ok_Rooms_paper (T : Txt K mg A) : FnOk P w K mg base CX0 4 A.f_Rooms_paper A.d_Rooms_paper ["self"] (spPaper 1 A.c_Rooms) := by
  have G_own : FnOk P w K mg base CX0 3 A.f_own A.d_own ["value"] (spOwn 1) := ok_own_v1 T
  refine T.Rooms_paper.F.ok sc_Rooms_paper (fun vs H Q E h => ?_) (fun cdv AA outer s H vs Q E hr h => ?_)
  · obtain ⟨r, S, a, rfl, _⟩ := h
    rfl
  · obtain ⟨r, S, a, rfl, h, hrl, hfl, k⟩ := h
    refine ⟨_, (pss_one (ps_ret (pe_comp (fns := []) (ixs := []) (cl := []) rfl (pi_list (pe_fld (pv 0) rfl)) (compScope0 (by decide +kernel) (by decide +kernel) rfl (by decide +kernel) rfl) (fun C s H ex => (pe_call (G_own) (hr.mono (by decide)) rfl T.own.m T.own.F.kp T.own.b .nil pass0 (pa_cons (pv 0) pa_nil)))))), ?_⟩
    refine ⟨_, rfl, r, _, a.dx, _, _, rfl, h.ins, cl_Rooms T, T.n_rows, lk_rows _ _ _, a.aR, rfl, ⟨_, SqL.of h.hR⟩, ?_⟩
    have hl0 : (a.rs.map V.ref).length = S.rows.length := by rw [List.length_map, h.rR.1]
    have hri : ∀ i, i < S.rows.length → ∃ p d, a.rs[i]? = some p ∧ S.rows[i]? = some d ∧ d ∈ S.rows ∧ DtAt H 4 (.ref p) d := fun i hi => by
      have hd := List.getElem?_eq_getElem hi
      obtain ⟨p, hp, q⟩ := h.rR.at hd
      exact ⟨p, _, hp, hd, List.mem_of_getElem? hd, q⟩
    refine comp_make (α := Unit) S.rows.length (fun i => (a.rs.map V.ref).getD i .non) (fun H2 v i => ∃ p d, v = .ref p ∧ S.rows[i]? = some d ∧ NoL d ∧ DtAt H2 4 (.ref p) d) (fun H1 H2 v i s ⟨p, x, e, e2, hn, q⟩ => ⟨p, x, e, e2, hn, q.same s⟩) ?_ (fun i H2 s2 hi => itl_go (SqL.of (s2 _ _ h.hR)) i (by omega)) (fun i x H2 H3 s2 hi y => ?_) (fun H2 s2 => ?_) (fun i H2 Rr hi s2 kk => ?_) (fun D H2 ys s2 hD hl hr => ?_)
    · exact Nat.le_trans hrl (by decide)
    · obtain ⟨e, hx⟩ := itl_yld (SqL.of (s2 _ _ h.hR)) i x H3 (by omega) y
      refine ⟨e, ?_⟩
      rw [List.getD_eq_getElem?_getD, hx]; rfl
    · have := itl_stop (SqL.of (K := K) (s2 _ _ h.hR))
      rw [hl0] at this
      exact this
    · obtain ⟨p, d, hp, hd, hm, q⟩ := hri i hi
      have hx : (a.rs.map V.ref).getD i .non = .ref p := by rw [List.getD_eq_getElem?_getD, List.getElem?_map, hp]; rfl
      have q1 := (hfl p d hm q).same s2
      rw [hx]
      refine ⟨_, rfl, .ref p, d, rfl, q1, h.flat d hm, fun v' H' s' q' => ?_⟩
      have : ∃ p', v' = .ref p' := by
        have hd' : ∃ ds, d = .t ds := by
          cases q with
          | t => exact ⟨_, rfl⟩
          | l => exact absurd (h.flat _ hm) (fun z => by cases z)
        obtain ⟨ds, rfl⟩ := hd'
        cases q' with
        | t => exact ⟨_, rfl⟩
      obtain ⟨p', rfl⟩ := this
      exact kk _ H' s' ⟨p', d, rfl, hd, h.flat d hm, q'.le (by decide)⟩
    · obtain ⟨ps, rfl, hps⟩ := refs_of (P := fun i p => ∃ d, S.rows[i]? = some d ∧ DtAt H2 4 (.ref p) d) ys 0 (fun i v hv => by
        obtain ⟨p, d, e, e2, -, q⟩ := hr i v hv
        rw [Nat.zero_add]
        exact ⟨p, e, d, e2, q⟩)
      have sD : Same H2 (upd H2 D (.lst (ps.map V.ref))) := Same.upd hD
      rw [List.length_map] at hl
      refine k D ps _ (s2.trans sD) (s2.free hD) upd_same ⟨hl, fun i p d e1 e2 => ?_⟩
      obtain ⟨d', e3, q⟩ := hps i p e1
      rw [Nat.zero_add] at e3
      obtain rfl : d' = d := Option.some.inj (e3.symm.trans e2)
      exact q.same sD
def PendAt (H : Hp) (p : Addr) (pend : List Way) : Prop := ∃ qs : List Addr, H p = some (.lst (qs.map V.ref)) ∧ Each (fun q (w : Way) => H q = some (.tup [.int (w.1 : Int), .int w.2.1, .int (w.2.2 : Int)])) qs pend
def ButP (a : RA) (r p : Addr) (H H' : Hp) : Prop := ∀ b o, ¬ a.own r b → b ≠ p → H b = some o → H' b = some o
theorem PendAt.keep {H H' : Hp} {p : Addr} {pend : List Way} (h : PendAt H p pend) (k : ∀ o, H p = some o → H' p = some o) (kt : ∀ b xs, H b = some (.tup xs) → H' b = some (.tup xs)) : PendAt H' p pend := by
  obtain ⟨qs, h1, h2⟩ := h
  exact ⟨qs, k _ h1, h2.imp fun q w _ _ e => kt _ _ e⟩
structure Small (S : RS) : Prop where
  m : S.made ≤ 100000
  w : ∀ l ∈ S.ways, l.length ≤ 100000
  r : S.rows.length ≤ 1000000
  n : S.went.length ≤ 1000000
  c : ∀ l ∈ S.called, l.length ≤ 1000000
def spPutOff (C : Addr) : Sp := fun vs H Q _ => ∃ (r p : Addr) (S : RS) (a : RA) (c : Nat) (pend : List Way), vs = [.ref r, .int c, .ref p] ∧ RoomsAt C H r S a ∧ S.Wf ∧ c < S.made ∧ OffOk S c ∧ (∀ l ∈ S.ways, l.length ≤ 100000) ∧ PendAt H p pend ∧ ¬ a.own r p ∧ pend.length ≤ 1000000 ∧ ∀ a' H', ButP a r p H H' → RoomsAt C H' r (S.putOff c pend).1 a' → PendAt H' p (S.putOff c pend).2 → (∀ b, a'.own r b → a.own r b ∨ H b = none) → Q .non H'
def spPutTo (C : Addr) : Sp := fun vs H Q _ => ∃ (r p : Addr) (S : RS) (a : RA) (c x y : Nat) (z : Int) (pend : List Way), vs = [.ref r, .int c, .int z, .int x, .int y, .ref p] ∧ RoomsAt C H r S a ∧ S.Wf ∧ x < S.made ∧ y < S.made ∧ x ≠ y ∧ OffOk S (max x y) ∧ (∀ n ∈ S.cal (max x y), n < S.made) ∧ Small S ∧ PendAt H p pend ∧ ¬ a.own r p ∧ pend.length ≤ 1000000 ∧ ∀ a' H', ButP a r p H H' → RoomsAt C H' r (S.meet c z x y pend).1 a' → PendAt H' p (S.meet c z x y pend).2 → (∀ b, a'.own r b → a.own r b ∨ H b = none) → Q .non H'
structure TakeOk (S : RS) : Prop where
  wf : S.Wf
  el : ∀ c, c < S.made → S.eld c < S.made
  bl : ∀ c z d, S.by c z = some d → d < S.made
  cl : ∀ c, ∀ n ∈ S.cal c, n < S.made
  off : ∀ c, c < S.made → OffOk S c
  sm : Small S
def spTakeIn (C : Addr) : Sp := fun vs H Q _ => ∃ (r t p : Addr) (S : RS) (a : RA) (w : Way) (pend : List Way), vs = [.ref r, .ref t, .ref p] ∧ RoomsAt C H r S a ∧ H t = some (.tup [.int (w.1 : Int), .int w.2.1, .int (w.2.2 : Int)]) ∧ TakeOk S ∧ w.1 < S.made ∧ w.2.2 < S.made ∧ PendAt H p pend ∧ ¬ a.own r p ∧ pend.length ≤ 1000000 ∧ ∀ a' H', ButP a r p H H' → RoomsAt C H' r (S.takeIn pend w).1 a' → PendAt H' p (S.takeIn pend w).2 → (∀ b, a'.own r b → a.own r b ∨ H b = none) → Q .non H'
def spLay (C : Addr) : Sp := fun vs H Q _ => ∃ (r q : Addr) (S : RS) (a : RA) (c d : Nat) (z : Int) (row : Dt) (I : RS → List Way → Prop) (μ : RS → List Way → Nat), vs = [.ref r, .int c, .int z, .int d, .ref q] ∧ RoomsAt C H r S a ∧ S.rows.length ≤ 1000000 ∧ DtAt H 1 (.ref q) row ∧ NoL row ∧
  I { S with rows := S.rows ++ [row] } [(c, z, d)] ∧ (∀ S pend w, I S (pend ++ [w]) → TakeOk S ∧ w.1 < S.made ∧ w.2.2 < S.made ∧ pend.length ≤ 1000000 ∧ I (S.takeIn pend w).1 (S.takeIn pend w).2 ∧ μ (S.takeIn pend w).1 (S.takeIn pend w).2 < μ S (pend ++ [w])) ∧
  ∀ S' a' H', ButO a r H H' → RoomsAt C H' r S' a' → I S' [] → (∀ b, a'.own r b → a.own r b ∨ H b = none) → Q .non H'
theorem ixN_nat {n i : Nat} (h : i < n) : ixN n (i : Int) = some i := by
  unfold ixN
  rw [if_pos (by omega), if_pos (by omega), Int.toNat_natCast]
theorem getW_mem {l : List (Int × Nat)} (nd : (l.map (·.1)).Nodup) {q : Int × Nat} (h : q ∈ l) : getW l q.1 = some q.2 := by
  induction l with
  | nil => cases h
  | cons p l ih =>
    unfold getW
    rw [List.map_cons, List.nodup_cons] at nd
    by_cases e : p.1 = q.1
    · rw [List.find?_cons_of_pos (by exact decide_eq_true e)]
      rcases List.mem_cons.mp h with rfl | h
      · rfl
      · exact absurd (by rw [e]; exact List.mem_map_of_mem h) nd.1
    · rw [List.find?_cons_of_neg (by simpa using e)]
      rcases List.mem_cons.mp h with rfl | h
      · exact absurd rfl e
      · exact ih nd.2 h
theorem ok_Rooms_put_off (T : Txt K mg A) : FnOk P w K mg base CX0 1 A.f_Rooms_put_off A.d_Rooms_put_off ["self", "room", "pending"] (spPutOff A.c_Rooms) := by
  refine T.Rooms_put_off.F.ok sc_Rooms_put_off (fun vs H Q E h => ?_) (fun cdv AA outer s H vs Q E hr h => ?_)
  · obtain ⟨r, p, S, a, c, pend, rfl, _⟩ := h
    rfl
  · obtain ⟨r, p, S, a, c, pend, rfl, h, hw, hc, ok, sm, hP, np, hpl, k⟩ := h
    have hu2 := hu_of hr
    refine ⟨_, (pss_cons (ps_set (i := 3) sc_Rooms_put_off.nd rfl (Or.inl rfl) (pe_ix ix_list (pe_fld (pv 0) rfl) (pv 1) (fun _ _ => rfl)))
      (pss_cons (ps_asg pe_dnewK (pg_sub (pe_fld (pv 0) rfl) (pv 1) set_list))
      (pss_one (ps_for PassesOwn.never rfl (pi_list (pe_callTy (call_list_dK rfl) rfl T.z_list PyProof.Rows.boot_list (pa_cons (pv 3) pa_nil))) (pg_name (i := 4) sc_Rooms_put_off.nd rfl (Or.inl rfl))
        (pss_cons (ps_set (i := 5) sc_Rooms_put_off.nd rfl (Or.inl rfl) (pe_dget hu2 (pv 3) (pv 4) (fun _ _ => rfl)))
        (pss_cons (ps_cut (ps_if (pt_cmpR op_ne (pv 5) (pv 1) (nomark _))
          (pss_one (ps_expr (pe_dpop1 (pe_ix ix_list (pe_fld (pv 0) rfl) (pv 5) (fun _ _ => rfl)) (pe_un un_neg (pv 4)) ⟨rfl, rfl, rfl, rfl⟩)))
          pss_nil))
        (pss_one (ps_expr (pe_bm PySem.F.plainAttrs_list PySem.F.slot_list_append PySem.F.type_list_append mt_append (pv 2) (pa_cons (pe_tup (pa_cons (pv 1) (pa_cons (pv 4) (pa_cons (pv 5) pa_nil)))) pa_nil)))))))))), ?_⟩
    have hcw : c < S.ways.length := by rw [hw.w]; exact hc
    obtain ⟨wd, hwd, hWD⟩ := h.rW.at (way_at hcw)
    have hl0 : (S.way c).length ≤ 100000 := way_le sm
    refine ⟨_, rfl, r, _, a.dx, _, _, rfl, h.ins, cl_Rooms T, T.n_ways, lk_ways _ _ _, _, rfl, a.aW, _, _, _, rfl, rfl, SqL.of h.hW, ref_at hwd, ?_⟩
    intro nd nnd
    have s1 := Same.upd (o := .dK []) nnd
    have hnd1 : upd H nd (.dK []) nd = some (.dK (wK [])) := upd_same
    have nn := h.mkL nnd
    have nnp : nd ≠ p := fun z => by obtain ⟨qs, q1, _⟩ := hP; rw [← z, nnd] at q1; cases q1
    generalize upd H nd (.dK []) = H1 at s1 hnd1 ⊢
    have h1 := h.same s1
    have hi : c < a.ws.length := by rw [h.rW.1]; exact hcw
    refine ⟨_, rfl, r, _, a.dx, _, _, rfl, h1.ins, cl_Rooms T, T.n_ways, lk_ways _ _ _, _, rfl, a.aW, _, _, c, rfl, rfl, h1.hW, ixN_nat (by rw [List.length_map]; exact hi), ?_⟩
    have h2 := h1.newWay hi hnd1 (fun z => nn (.inr (.inr z)))
    have u2 : ∀ b o, b ≠ a.aW → H1 b = some o → upd H1 a.aW (.lst ((a.ws.map V.ref).set c (.ref nd))) b = some o := fun b o nb e => by rw [upd_ne nb]; exact e
    generalize upd H1 a.aW (.lst ((a.ws.map V.ref).set c (.ref nd))) = H2 at h2 u2 ⊢
    have npW : p ≠ a.aW := fun z => np (.inr (.inl (by rw [z]; exact mem_W)))
    have wdW : wd ≠ a.aW := (h.ld mem_W (mem_ws (List.mem_of_getElem? hwd))).symm
    have hwd2 : H2 wd = some (.dK (wK (S.way c))) := u2 _ _ wdW (s1 _ _ hWD)
    generalize ea2 : ({ a with ws := a.ws.set c nd } : RA) = a2 at h2
    have h2' : RoomsAt A.c_Rooms H2 r (offs c S pend []).1 a2 := h2
    have nwd2 : ¬ a2.own r wd := fun z => by
      rw [← ea2] at z
      rcases z with z | z | z
      · exact (h.rd (mem_ws (List.mem_of_getElem? hwd))) z.symm
      · exact h.ld z (mem_ws (List.mem_of_getElem? hwd)) rfl
      · have ndp := List.nodup_append.mp h.ndD
        have z' : wd ∈ a.ws.set c nd ++ a.gs := z
        rcases List.mem_append.mp z' with z | z
        · obtain ⟨j, hj⟩ := List.getElem?_of_mem z
          by_cases e : c = j
          · subst e
            rw [List.getElem?_set_self hi] at hj
            have : nd = wd := Option.some.inj hj
            rw [this, hWD] at nnd; cases nnd
          · rw [List.getElem?_set_ne e] at hj
            exact e ((List.getElem?_inj hi ndp.1).mp (hwd.trans hj.symm))
        · exact ndp.2.2 wd (List.mem_of_getElem? hwd) wd z rfl
    have own2 : ∀ b, a2.own r b → a.own r b ∨ H b = none := fun b hb => by
      rw [← ea2] at hb
      rcases hb with hb | hb | hb
      · exact .inl (.inl hb)
      · exact .inl (.inr (.inl hb))
      · have hb' : b ∈ a.ws.set c nd ++ a.gs := hb
        rcases List.mem_append.mp hb' with hb | hb
        · rcases List.mem_or_eq_of_mem_set hb with hb | rfl
          · exact .inl (.inr (.inr (List.mem_append_left _ hb)))
          · exact .inr nnd
        · exact .inl (.inr (.inr (List.mem_append_right _ hb)))
    have np2 : ¬ a2.own r p := fun z => by
      rcases own2 p z with q | q
      · exact np q
      · obtain ⟨qs, q1, _⟩ := hP; rw [q] at q1; cases q1
    have hP2 : PendAt H2 p (offs c S pend []).2 := hP.keep (fun o e => u2 _ _ npW (s1 _ _ e)) (fun b xs e => u2 _ _ (h.tl e mem_W) (s1 _ _ e))
    have B2 : ButP a r p H H2 := fun b o nb _ e => u2 _ _ (fun z => nb (.inr (.inl (by rw [z]; exact mem_W)))) (s1 _ _ e)
    refine ⟨_, rfl, wd, _, rfl, hwd2, fun l nl => ?_⟩
    have s3 := Same.upd (o := .lst ((wK (S.way c)).map fun kv => kV kv.1)) nl
    have hl3 : upd H2 l (.lst ((wK (S.way c)).map fun kv => kV kv.1)) l = some (.lst ((wK (S.way c)).map fun kv => kV kv.1)) := upd_same
    have nl2 := h2'.mkL nl
    have nlp : l ≠ p := fun z => by obtain ⟨qs, q1, _⟩ := hP2; rw [← z, nl] at q1; cases q1
    have nlw : l ≠ wd := fun z => by rw [z, hwd2] at nl; cases nl
    have nlH : H l = none ∨ a.own r l := by
      by_cases ho : a.own r l
      · exact .inr ho
      · refine .inl ?_
        cases e : H l with
        | none => rfl
        | some o => rw [B2 l o ho nlp e] at nl; cases nl
    generalize upd H2 l (.lst ((wK (S.way c)).map fun kv => kV kv.1)) = H3 at s3 hl3 ⊢
    refine ⟨l, rfl, ⟨_, SqL.of hl3⟩, ?_⟩
    have hlen : ((wK (S.way c)).map fun kv => kV kv.1).length = (S.way c).length := by rw [List.length_map, wK_len]
    refine for_list (xs := (wK (S.way c)).map fun kv => kV kv.1) (fun i σ H4 => ∃ v4 v5, σ = [some (.ref r), some (.int (c : Int)), some (.ref p), some (.ref wd), v4, v5] ∧ RoomsAt A.c_Rooms H4 r (offs c S pend ((S.way c).take i)).1 a2 ∧ PendAt H4 p (offs c S pend ((S.way c).take i)).2 ∧ (∀ b o, ¬ a2.own r b → b ≠ p → H3 b = some o → H4 b = some o)) ⟨none, none, rfl, h2'.same s3, hP2.keep (fun o e => s3 _ _ e) (fun b xs e => s3 _ _ e), fun b o _ _ e => e⟩ (fun i σ H4 _ ⟨_, _, _, _, _, kk⟩ => SqL.of (kk _ _ nl2 nlp hl3)) ?_ ?_
    · rintro i x σ H4 hx ⟨v4, v5, rfl, h4, hP4, kk⟩
      have hi4 : i < (S.way c).length := by rw [← hlen]; exact (List.getElem?_eq_some_iff.mp hx).1
      have hg : (S.way c)[i]? = some ((S.way c)[i]'hi4) := List.getElem?_eq_getElem hi4
      generalize (S.way c)[i]'hi4 = w at hg
      have ex : x = .int w.1 := by
        unfold wK at hx
        rw [List.getElem?_map, List.getElem?_map, hg] at hx
        exact (Option.some.inj hx).symm
      subst ex
      have hm := List.mem_of_getElem? hg
      have etk : (S.way c).take (i + 1) = (S.way c).take i ++ [w] := by rw [List.take_succ, hg]; rfl
      have hwd4 : H4 wd = some (.dK (wK (S.way c))) := kk _ _ nwd2 (fun z => by obtain ⟨qs, q1, _⟩ := hP2; rw [← z, hwd2] at q1; cases q1) (s3 _ _ hwd2)
      have hv : valV (wK (S.way c)) (Sum.inl w.1) = some (.int (w.2 : Int)) := by rw [wK_val, getW_mem ok.nd hm]; rfl
      have hlt := ok.lt w hm
      have hol := (offs_rest c S pend ((S.way c).take i)).1
      refine ⟨_, rfl, _, rfl, wd, _, rfl, (by have := DGet.k (k := Sum.inl w.1) hwd4; rw [hv] at this; exact this), ?_⟩
      refine ⟨fun σ' H' => σ' = [some (.ref r), some (.int (c : Int)), some (.ref p), some (.ref wd), some (.int w.1), some (.int (w.2 : Int))] ∧ RoomsAt A.c_Rooms H' r (offs c S pend ((S.way c).take (i + 1))).1 a2 ∧ PendAt H' p (offs c S pend ((S.way c).take i)).2 ∧ (∀ b o, ¬ a2.own r b → b ≠ p → H3 b = some o → H' b = some o), ?_, ?_⟩
      · refine ⟨_, rfl, _, rfl, rfl, _, rfl, ite2 (fun hne => ?_) (fun hne => ?_)⟩
        · have hne' : w.2 ≠ c := fun z => by rw [z] at hne; simp at hne
          have hd2 : w.2 < (offs c S pend ((S.way c).take i)).1.ways.length := by rw [hol, hw.w]; exact hlt
          obtain ⟨pd, hpd, hPD⟩ := h4.rW.at (way_at hd2)
          have hby : ((offs c S pend ((S.way c).take i)).1.by w.2 (-w.1)).isSome = true := by
            rw [offs_by hcw _ (fun q hq => by rw [hw.w]; exact ok.lt q (List.mem_of_mem_take hq)), if_neg]
            · exact ok.bk w hm hne'
            · rintro (q | ⟨q, hq, q1, q2⟩)
              · exact hne' q
              · obtain ⟨j, hj⟩ := List.getElem?_of_mem hq
                have hji : j < i := by
                  have := (List.getElem?_eq_some_iff.mp hj).1
                  rw [List.length_take] at this
                  omega
                rw [List.getElem?_take_of_lt hji] at hj
                have e1 : ((S.way c).map (·.1))[j]? = some q.1 := by rw [List.getElem?_map, hj]; rfl
                have e2 : ((S.way c).map (·.1))[i]? = some w.1 := by rw [List.getElem?_map, hg]; rfl
                have e3 : q.1 = w.1 := by omega
                rw [e3] at e1
                have := (List.getElem?_inj (by rw [List.length_map]; exact hi4) ok.nd).mp (e2.trans e1.symm)
                omega
          obtain ⟨m, hm2⟩ := Option.isSome_iff_exists.mp hby
          refine ⟨_, rfl, r, _, a2.dx, _, _, rfl, h4.ins, cl_Rooms T, T.n_ways, lk_ways _ _ _, _, rfl, a2.aW, _, _, _, rfl, rfl, SqL.of h4.hW, ref_at hpd, pd, rfl, .inl ⟨_, .inl hPD⟩, _, rfl, _, rfl, _, Sum.inl (-w.1), .int (m : Int), hPD, rfl, ?_, ?_⟩
          · rw [wK_val]
            show ((offs c S pend ((S.way c).take i)).1.by w.2 (-w.1)).map _ = _
            rw [hm2]; rfl
          · rw [wK_drop]
            refine ⟨rfl, ?_, hP4.keep (fun o e => ?_) (fun b xs e => ?_), fun b o nb nbp e => ?_⟩
            · rw [etk, offs_snoc]
              unfold offStep
              simp only [hne', if_true, not_false_eq_true, ne_eq]
              exact h4.setWay hpd _
            · rw [upd_ne (fun z => np2 (.inr (.inr (mem_ws (by rw [z]; exact List.mem_of_getElem? hpd)))))]; exact e
            · rw [upd_ne (h4.td e (mem_ws (List.mem_of_getElem? hpd)))]; exact e
            · rw [upd_ne (fun z => nb (.inr (.inr (mem_ws (by rw [z]; exact List.mem_of_getElem? hpd)))))]; exact kk b o nb nbp e
        · have hne' : w.2 = c := by
            by_cases e : w.2 = c
            · exact e
            · exact absurd (by simp; omega) hne
          refine ⟨rfl, ?_, hP4, kk⟩
          rw [etk, offs_snoc]
          unfold offStep
          simp only [hne', ne_eq, not_true_eq_false, if_false]
          exact h4
      rintro σ' H5 ⟨rfl, h5, hP5, kk5⟩
      obtain ⟨qs, hq1, hq2⟩ := hP5
      have hql : (qs.map V.ref).length < sizeLine := by
        rw [List.length_map, hq2.1, offs_pend, List.length_append, List.length_map, List.length_take]
        exact Nat.lt_of_le_of_lt (show _ ≤ 1100000 by omega) (by decide)
      refine ⟨_, rfl, .inl ⟨rfl, _, SqL.of hq1⟩, _, rfl, _, rfl, _, rfl, (by show 3 ≤ sizeLine; decide), fun t nt => ?_⟩
      have s6 := Same.upd (o := .tup [.int (c : Int), .int w.1, .int (w.2 : Int)]) nt
      have ht6 : upd H5 t (.tup [.int (c : Int), .int w.1, .int (w.2 : Int)]) t = some (.tup [.int (c : Int), .int w.1, .int (w.2 : Int)]) := upd_same
      generalize upd H5 t (.tup [.int (c : Int), .int w.1, .int (w.2 : Int)]) = H6 at s6 ht6 ⊢
      refine ⟨p, _, _, rfl, rfl, s6 _ _ hq1, hql, ?_⟩
      have kp : ∀ b o, b ≠ p → H6 b = some o → upd H6 p (.lst (qs.map V.ref ++ [.ref t])) b = some o := fun b o nb e => by rw [upd_ne nb]; exact e
      have ktp : ∀ b xs, H6 b = some (.tup xs) → upd H6 p (.lst (qs.map V.ref ++ [.ref t])) b = some (.tup xs) := fun b xs e => kp _ _ (ne_of e (s6 _ _ hq1) (by intro z; cases z)) e
      refine ⟨_, _, rfl, (h5.same s6).keep (fun b o hb e => kp b o (fun z => np2 (z ▸ hb)) e) ktp, ⟨qs ++ [t], ?_, ?_⟩, fun b o nb nbp e => kp b o nbp (s6 _ _ (kk5 b o nb nbp e))⟩
      · rw [upd_same, List.map_append]; rfl
      · rw [etk, offs_snoc]
        exact (hq2.imp fun q w' _ _ e => ktp _ _ (s6 _ _ e)).snoc (ktp _ _ ht6)
    · rintro σ H4 ⟨v4, v5, rfl, h4, hP4, kk⟩
      rw [hlen, List.take_length] at h4 hP4
      refine k a2 H4 (fun b o nb nbp e => ?_) h4 hP4 own2
      have e2 := B2 b o nb nbp e
      exact kk b o (fun z => by rcases own2 b z with q | q; exact nb q; rw [q] at e; cases e) nbp (s3 _ _ e2)
theorem cal_at {S : RS} {c : Nat} (h : c < S.called.length) : S.called[c]? = some (S.cal c) := by unfold RS.cal; rw [List.getD_eq_getElem?_getD, List.getElem?_eq_getElem h]; rfl
theorem eld_at {S : RS} {c : Nat} (h : c < S.elders.length) : S.elders[c]? = some (S.eld c) := by unfold RS.eld; rw [List.getD_eq_getElem?_getD, List.getElem?_eq_getElem h]; rfl
theorem cal_le {S : RS} {c n : Nat} (h : ∀ l ∈ S.called, l.length ≤ n) : (S.cal c).length ≤ n := by
  unfold RS.cal
  rw [List.getD_eq_getElem?_getD]
  cases e : S.called[c]? with
  | none => exact Nat.zero_le _
  | some l => exact h l (List.mem_of_getElem? e)
theorem fold_len (x : Nat) : ∀ (l es : List Nat), (l.foldl (fun es n => es.set n x) es).length = es.length
  | [], _ => rfl
  | n :: l, es => by rw [List.foldl_cons, fold_len x l, List.length_set]
theorem ints_set (ns : List Int) (i : Nat) (z : Int) : (intV ns).set i (.int z) = intV (ns.set i z) := by
  unfold intV
  rw [List.map_set]
theorem ok_Rooms_put_together (T : Txt K mg A) : FnOk P w K mg base CX0 2 A.f_Rooms_put_together A.d_Rooms_put_together ["self", "room", "step", "one", "other", "pending"] (spPutTo A.c_Rooms) := by
  have G_Rooms_put_off : FnOk P w K mg base CX0 1 A.f_Rooms_put_off A.d_Rooms_put_off ["self", "room", "pending"] (spPutOff A.c_Rooms) := ok_Rooms_put_off T
  refine T.Rooms_put_together.F.ok sc_Rooms_put_together (fun vs H Q E h => ?_) (fun cdv AA outer s H vs Q E hr h => ?_)
  · obtain ⟨r, p, S, a, c, x, y, z, pend, rfl, _⟩ := h
    rfl
  · obtain ⟨r, p, S, a, c, x, y, z, pend, rfl, h, hw, hx, hy, hxy, ok, hcl, sm, hP, np, hpl, k⟩ := h
    refine ⟨_, (pss_cons (ps_set (i := 6) sc_Rooms_put_together.nd rfl (Or.inl rfl) (pe_callB (call_min2 rfl) rfl T.z_min PyProof.Rows.boot_min (pa_cons (pv 3) (pa_cons (pv 4) pa_nil))))
      (pss_cons (ps_set (i := 7) sc_Rooms_put_together.nd rfl (Or.inl rfl) (pe_callB (call_max2 rfl) rfl T.z_max PyProof.Rows.boot_max (pa_cons (pv 3) (pa_cons (pv 4) pa_nil))))
      (pss_cons (ps_expr (pe_bm PySem.F.plainAttrs_list PySem.F.slot_list_append PySem.F.type_list_append mt_append (pe_fld (pv 0) rfl) (pa_cons (pe_tup (pa_cons (pe_strX (l := [109, 101, 101, 116]) rfl) (pa_cons (pv 1) (pa_cons (pv 2) (pa_cons (pv 6) (pa_cons (pv 7) pa_nil)))))) pa_nil)))
      (pss_cons (ps_expr (pe_bm PySem.F.plainAttrs_list PySem.F.slot_list_append PySem.F.type_list_append mt_append (pe_fld (pv 0) rfl) (pa_cons (pv 7) pa_nil)))
      (pss_cons (ps_for PassesOwn.never rfl (pi_list (pe_ix ix_list (pe_fld (pv 0) rfl) (pv 7) (fun _ _ => rfl))) (pg_name (i := 8) sc_Rooms_put_together.nd rfl (Or.inl rfl))
        (pss_one (ps_asg (pv 6) (pg_sub (pe_fld (pv 0) rfl) (pv 8) set_list))))
      (pss_cons (ps_expr (pe_bm PySem.F.plainAttrs_list PySem.F.slot_list_extend PySem.F.type_list_extend mt_extend (pe_ix ix_list (pe_fld (pv 0) rfl) (pv 6) (fun _ _ => rfl)) (pa_cons (pe_ix ix_list (pe_fld (pv 0) rfl) (pv 7) (fun _ _ => rfl)) pa_nil)))
      (pss_one (ps_expr (pe_meth (pv 0) (cl_Rooms T) T.Rooms_put_off.m (G_Rooms_put_off) (hr.mono (by decide)) T.Rooms_put_off.b .nil pass0 (pa_cons (pv 7) (pa_cons (pv 5) pa_nil))))))))))), ?_⟩
    have e1 : (if (y : Int) < (x : Int) then (y : Int) else (x : Int)) = ((min x y : Nat) : Int) := by split <;> omega
    have e2 : (if (y : Int) > (x : Int) then (y : Int) else (x : Int)) = ((max x y : Nat) : Int) := by split <;> omega
    have hlm : min x y < max x y := by omega
    have hmx : max x y < S.made := by omega
    generalize ev : min x y = u at e1 hlm
    have ek : ∀ a' H', ButP a r p H H' → RoomsAt A.c_Rooms H' r ((S.joined c z u (max x y)).putOff (max x y) pend).1 a' → PendAt H' p ((S.joined c z u (max x y)).putOff (max x y) pend).2 → (∀ b, a'.own r b → a.own r b ∨ H b = none) → Q .non H' := fun a' H' h1 h2 h3 h4 => k a' H' h1 (by unfold RS.meet; rw [ev]; exact h2) (by unfold RS.meet; rw [ev]; exact h3) h4
    clear k
    generalize max x y = v at e2 hlm hmx ok hcl ek
    refine ⟨_, rfl, _, rfl, _, _, rfl, ?_⟩
    rw [e1]
    refine ⟨_, rfl, _, rfl, _, _, rfl, ?_⟩
    rw [e2]
    have lR : (a.rs.map V.ref).length < sizeLine := by rw [List.length_map, h.rR.1]; exact Nat.lt_of_le_of_lt sm.r (by decide)
    refine ⟨_, rfl, r, _, a.dx, _, _, rfl, h.ins, cl_Rooms T, T.n_rows, lk_rows _ _ _, .inl ⟨rfl, _, SqL.of h.hR⟩, _, rfl, _, rfl, _, rfl, _, rfl, (by show 5 ≤ sizeLine; decide), fun t nt => ⟨a.aR, _, _, rfl, rfl, Same.upd nt _ _ h.hR, lR, ?_⟩⟩
    have s1 := Same.upd (o := .tup [.str (tx [109, 101, 101, 116]), .int (c : Int), .int z, .int (u : Int), .int (v : Int)]) nt
    have ht1 : upd H t (.tup [.str (tx [109, 101, 101, 116]), .int (c : Int), .int z, .int (u : Int), .int (v : Int)]) t = some (.tup [.str (tx [109, 101, 101, 116]), .int (c : Int), .int z, .int (u : Int), .int (v : Int)]) := upd_same
    generalize upd H t (.tup [.str (tx [109, 101, 101, 116]), .int (c : Int), .int z, .int (u : Int), .int (v : Int)]) = H1 at s1 ht1 ⊢
    have hd1 : DtAt H1 4 (.ref t) (rowMeet c z u v) := by
      refine .t ht1 rfl fun j w d e1 e2 => ?_
      rcases j with _ | _ | _ | _ | _ | j
      · simp at e1 e2; subst e1 e2; exact .s
      · simp at e1 e2; subst e1 e2; exact .i
      · simp at e1 e2; subst e1 e2; exact .i
      · simp at e1 e2; subst e1 e2; exact .i
      · simp at e1 e2; subst e1 e2; exact .i
      · simp at e1
    have nl : NoL (rowMeet c z u v) := .t (by show 5 ≤ 100000; decide) fun d hd => by
      simp only [List.mem_cons, List.not_mem_nil, or_false] at hd
      rcases hd with rfl | rfl | rfl | rfl | rfl
      · exact .s
      · exact .i
      · exact .i
      · exact .i
      · exact .i
    have h2 := (h.same s1).addRow hd1 nl
    have B2 : ButP a r p H (upd H1 a.aR (.lst (a.rs.map V.ref ++ [.ref t]))) := fun b o nb _ e => by rw [upd_ne (fun z => nb (.inr (.inl (by rw [z]; exact mem_R))))]; exact s1 _ _ e
    have npl : ∀ {b}, b ∈ a.lists → p ≠ b := fun hb z => np (.inr (.inl (by rw [z]; exact hb)))
    have P2 : PendAt (upd H1 a.aR (.lst (a.rs.map V.ref ++ [.ref t]))) p pend := hP.keep (fun o e => by rw [upd_ne (npl mem_R)]; exact s1 _ _ e) (fun b xs e => by rw [upd_ne (h.tl e mem_R)]; exact s1 _ _ e)
    generalize upd H1 a.aR (.lst (a.rs.map V.ref ++ [.ref t])) = H2 at h2 B2 P2 ⊢
    generalize ea2 : ({ a with rs := a.rs ++ [t] } : RA) = a2 at h2
    have eo : ∀ b, a2.own r b ↔ a.own r b := fun b => by rw [← ea2]; exact Iff.rfl
    have np2 : ¬ a2.own r p := fun z => np ((eo p).mp z)
    have npl2 : ∀ {b}, b ∈ a2.lists → p ≠ b := fun hb z => np2 (.inr (.inl (by rw [z]; exact hb)))
    have lN : (intV (nI S.went)).length < sizeLine := by rw [ints_len, nI_len]; exact Nat.lt_of_le_of_lt sm.n (by decide)
    refine ⟨_, rfl, r, _, a2.dx, _, _, rfl, h2.ins, cl_Rooms T, T.n_went, lk_went _ _ _, .inl ⟨rfl, _, SqL.of h2.hN⟩, _, rfl, a2.aN, _, _, rfl, rfl, h2.hN, lN, ?_⟩
    have eN : intV (nI S.went) ++ [V.int (v : Int)] = intV (nI (S.went ++ [v])) := by rw [nI_app, ints_app]; rfl
    have h3 := h2.setWent (S.went ++ [v])
    rw [← eN] at h3
    have B3 : ButP a r p H (upd H2 a2.aN (.lst (intV (nI S.went) ++ [V.int (v : Int)]))) := fun b o nb nbp e => by rw [upd_ne (fun z => nb ((eo b).mp (.inr (.inl (by rw [z]; exact mem_N)))))]; exact B2 b o nb nbp e
    have P3 : PendAt (upd H2 a2.aN (.lst (intV (nI S.went) ++ [V.int (v : Int)]))) p pend := P2.keep (fun o e => by rw [upd_ne (npl2 mem_N)]; exact e) (fun b xs e => by rw [upd_ne (h2.tl e mem_N)]; exact e)
    show _
    generalize upd H2 a2.aN (.lst (intV (nI S.went) ++ [V.int (v : Int)])) = H3 at h3 B3 P3 ⊢
    obtain ⟨pv, hpv, hPV⟩ := h3.rC.at (show S.called[v]? = some (S.cal v) from cal_at (by rw [hw.c]; exact hmx))
    have mpv := List.mem_of_getElem? hpv
    refine ⟨_, rfl, r, _, a2.dx, _, _, rfl, h3.ins, cl_Rooms T, T.n_called, lk_called _ _ _, _, rfl, a2.aC, _, _, _, rfl, rfl, SqL.of h3.hC, ref_at hpv, pv, rfl, ⟨_, SqL.of hPV⟩, ?_⟩
    obtain ⟨-, -, -, -, -, nc⟩ := nd7 h3.ndL
    have npE : pv ≠ a2.aE := (nc pv mpv).2.2.2.1
    refine for_list (xs := intV (nI (S.cal v))) (fun i σ H4 => ∃ v8, σ = [some (.ref r), some (.int (c : Int)), some (.int z), some (.int (x : Int)), some (.int (y : Int)), some (.ref p), some (.int (u : Int)), some (.int (v : Int)), v8] ∧ RoomsAt A.c_Rooms H4 r { S with rows := S.rows ++ [rowMeet c z u v], went := S.went ++ [v], elders := ((S.cal v).take i).foldl (fun es n => es.set n u) S.elders } a2 ∧ ButP a r p H H4 ∧ PendAt H4 p pend) ⟨none, rfl, h3, B3, P3⟩ (fun i σ H4 _ ⟨_, _, h4, _, _⟩ => SqL.of (h4.rC.2 v pv _ hpv (show S.called[v]? = some (S.cal v) from cal_at (by rw [hw.c]; exact hmx)))) ?_ ?_
    · rintro i w σ H4 hw4 ⟨v8, rfl, h4, B4, P4⟩
      obtain ⟨m, rfl, hm⟩ := ints_of_at hw4
      unfold nI at hm
      rw [List.getElem?_map] at hm
      cases hn : (S.cal v)[i]? with
      | none => rw [hn] at hm; cases hm
      | some n =>
        rw [hn] at hm
        obtain rfl : (n : Int) = m := Option.some.inj hm
        have hnl := hcl n (List.mem_of_getElem? hn)
        have hel : (((S.cal v).take i).foldl (fun es n => es.set n u) S.elders).length = S.made := by rw [fold_len, hw.e]
        refine ⟨_, rfl, _, rfl, r, _, a2.dx, _, _, rfl, h4.ins, cl_Rooms T, T.n_elders, lk_elders _ _ _, _, rfl, a2.aE, _, _, n, rfl, rfl, h4.hE, ixN_nat (by rw [ints_len, nI_len, hel]; exact hnl), ?_⟩
        rw [ints_set, nI_set]
        have h5 := h4.setElders ((((S.cal v).take i).foldl (fun es n => es.set n u) S.elders).set n u)
        refine ⟨_, rfl, ?_, fun b o nb nbp e => ?_, P4.keep (fun o e => ?_) (fun b xs e => ?_)⟩
        · have etk : (S.cal v).take (i + 1) = (S.cal v).take i ++ [n] := by rw [List.take_succ, hn]; rfl
          rw [etk, List.foldl_append]
          exact h5
        · rw [upd_ne (fun z => nb ((eo b).mp (.inr (.inl (by rw [z]; exact mem_E)))))]; exact B4 b o nb nbp e
        · rw [upd_ne (npl2 mem_E)]; exact e
        · rw [upd_ne (h4.tl e mem_E)]; exact e
    · rintro σ H4 ⟨v8, rfl, h4, B4, P4⟩
      rw [ints_len, nI_len, List.take_length] at h4
      have hul : u < S.called.length := by rw [hw.c]; omega
      have hvl : v < S.called.length := by rw [hw.c]; exact hmx
      obtain ⟨pu, hpu, hPU⟩ := h4.rC.at (show S.called[u]? = some (S.cal u) from cal_at hul)
      have hPV4 := h4.rC.2 v pv _ hpv (show S.called[v]? = some (S.cal v) from cal_at hvl)
      have b1 : (S.cal u).length ≤ 1000000 := cal_le sm.c
      have b2 : (S.cal v).length ≤ 1000000 := cal_le sm.c
      refine ⟨_, rfl, r, _, a2.dx, _, _, rfl, h4.ins, cl_Rooms T, T.n_called, lk_called _ _ _, _, rfl, a2.aC, _, _, _, rfl, rfl, SqL.of h4.hC, ref_at hpu, .inl ⟨rfl, _, SqL.of hPU⟩, ?_⟩
      refine ⟨_, rfl, r, _, a2.dx, _, _, rfl, h4.ins, cl_Rooms T, T.n_called, lk_called _ _ _, _, rfl, a2.aC, _, _, _, rfl, rfl, SqL.of h4.hC, ref_at hpv, pu, pv, _, _, rfl, rfl, hPU, hPV4, ?_, ?_⟩
      · rw [ints_len, ints_len, nI_len, nI_len]
        exact Nat.le_trans (show _ ≤ 2000000 by omega) (by decide)
      have eC : intV (nI (S.cal u)) ++ intV (nI (S.cal v)) = intV (nI (S.cal u ++ S.cal v)) := by rw [nI_app, ints_app]
      rw [eC]
      have h5 := h4.setCalled hpu (S.cal u ++ S.cal v)
      have mpu := mem_cs (List.mem_of_getElem? hpu)
      have B5 : ButP a r p H (upd H4 pu (.lst (intV (nI (S.cal u ++ S.cal v))))) := fun b o nb nbp e => by rw [upd_ne (fun z => nb ((eo b).mp (.inr (.inl (by rw [z]; exact mpu)))))]; exact B4 b o nb nbp e
      have P5 : PendAt (upd H4 pu (.lst (intV (nI (S.cal u ++ S.cal v))))) p pend := P4.keep (fun o e => by rw [upd_ne (npl2 mpu)]; exact e) (fun b xs e => by rw [upd_ne (h4.tl e mpu)]; exact e)
      generalize upd H4 pu (.lst (intV (nI (S.cal u ++ S.cal v)))) = H5 at h5 B5 P5 ⊢
      have h5' : RoomsAt A.c_Rooms H5 r (S.joined c z u v) a2 := h5
      refine ⟨_, rfl, r, a2.dx, _, rfl, h5'.ins, lk_none _ _ _ (by decide +kernel), _, rfl, _, rfl, r, p, S.joined c z u v, a2, v, pend, rfl, h5', ⟨hw.w, hw.g, ?_, ?_⟩, hmx, ⟨ok.nd, ok.lt, ok.bk⟩, sm.w, P5, np2, hpl, fun a' H' b' r' p' o' => ek a' H' (fun b o nb nbp e => b' b o (fun z => nb ((eo b).mp z)) nbp (B5 b o nb nbp e)) r' p' (fun b hb => ?_)⟩
      · show ((S.cal v).foldl (fun es n => es.set n u) S.elders).length = S.made
        rw [fold_len]; exact hw.e
      · show (S.called.set u (S.cal u ++ S.cal v)).length = S.made
        rw [List.length_set]; exact hw.c
      · rcases o' b hb with q | q
        · exact .inl ((eo b).mp q)
        · by_cases ho : a.own r b
          · exact .inl ho
          · refine .inr ?_
            cases e : H b with
            | none => rfl
            | some o =>
              by_cases hbp : b = p
              · obtain ⟨qs, q1, _⟩ := P5
                rw [hbp, q1] at q; cases q
              · rw [B5 b o ho hbp e] at q; cases q
theorem ok_Rooms_take_in (T : Txt K mg A) : FnOk P w K mg base CX0 3 A.f_Rooms_take_in A.d_Rooms_take_in ["self", "way", "pending"] (spTakeIn A.c_Rooms) := by
  have G_Rooms_put_together : FnOk P w K mg base CX0 2 A.f_Rooms_put_together A.d_Rooms_put_together ["self", "room", "step", "one", "other", "pending"] (spPutTo A.c_Rooms) := ok_Rooms_put_together T
  have G_Rooms_keep : FnOk P w K mg base CX0 1 A.f_Rooms_keep A.d_Rooms_keep ["self", "room", "step", "other"] (spKeep A.c_Rooms) := ok_Rooms_keep T
  refine T.Rooms_take_in.F.ok sc_Rooms_take_in (fun vs H Q E h => ?_) (fun cdv AA outer s H vs Q E hr h => ?_)
  · obtain ⟨r, t, p, S, a, w, pend, rfl, _⟩ := h
    rfl
  · obtain ⟨r, t, p, S, a, w, pend, rfl, h, ht, ok, hw1, hw3, hP, np, hpl, k⟩ := h
    have hu2 := hu_of hr
    refine ⟨_, (pss_cons (ps_set (i := 3) sc_Rooms_take_in.nd rfl (Or.inl rfl) (pe_ix ix_list (pe_fld (pv 0) rfl) (pe_ix ix_tup (pv 1) pe_int (fun _ _ => rfl)) (fun _ _ => rfl)))
      (pss_cons (ps_set (i := 4) sc_Rooms_take_in.nd rfl (Or.inl rfl) (pe_ix ix_tup (pv 1) pe_int (fun _ _ => rfl)))
      (pss_cons (ps_set (i := 5) sc_Rooms_take_in.nd rfl (Or.inl rfl) (pe_ix ix_list (pe_fld (pv 0) rfl) (pe_ix ix_tup (pv 1) pe_int (fun _ _ => rfl)) (fun _ _ => rfl)))
      (pss_cons (ps_set (i := 6) sc_Rooms_take_in.nd rfl (Or.inl rfl) (pe_dget2 hu2 (pe_ix ix_list (pe_fld (pv 0) rfl) (pv 3) (fun _ _ => rfl)) (pv 4) (pv 5) ⟨rfl, rfl, rfl, rfl⟩))
      (pss_cons (ps_set (i := 7) sc_Rooms_take_in.nd rfl (Or.inl rfl) (pe_dget2 hu2 (pe_ix ix_list (pe_fld (pv 0) rfl) (pv 5) (fun _ _ => rfl)) (pe_un un_neg (pv 4)) (pv 3) ⟨rfl, rfl, rfl, rfl⟩))
      (pss_one (ps_cut (ps_if (pt_cmpR op_ne (pv 6) (pv 5) (nomark _))
        (pss_one (ps_expr (pe_meth (pv 0) (cl_Rooms T) T.Rooms_put_together.m (G_Rooms_put_together) (hr.mono (by decide)) T.Rooms_put_together.b .nil pass0 (pa_cons (pv 3) (pa_cons (pv 4) (pa_cons (pv 6) (pa_cons (pv 5) (pa_cons (pv 2) pa_nil))))))))
        (pss_one (ps_cut (ps_if (pt_cmpR op_ne (pv 7) (pv 3) (nomark _))
          (pss_one (ps_expr (pe_meth (pv 0) (cl_Rooms T) T.Rooms_put_together.m (G_Rooms_put_together) (hr.mono (by decide)) T.Rooms_put_together.b .nil pass0 (pa_cons (pv 5) (pa_cons (pe_un un_neg (pv 4)) (pa_cons (pv 7) (pa_cons (pv 3) (pa_cons (pv 2) pa_nil))))))))
          (pss_one (ps_expr (pe_meth (pv 0) (cl_Rooms T) T.Rooms_keep.m (G_Rooms_keep) (hr.mono (by decide)) T.Rooms_keep.b .nil pass0 (pa_cons (pv 3) (pa_cons (pv 4) (pa_cons (pv 5) pa_nil))))))))))))))))), ?_⟩
    have sq : SqT K H t [.int (w.1 : Int), .int w.2.1, .int (w.2.2 : Int)] := SqT.of ht
    have hel : ∀ {c : Nat}, c < S.made → S.elders[c]? = some (S.eld c) := fun {c} hc => eld_at (by rw [ok.wf.e]; exact hc)
    have hc := ok.el _ hw1
    have hd := ok.el _ hw3
    refine ⟨_, rfl, r, _, a.dx, _, _, rfl, h.ins, cl_Rooms T, T.n_elders, lk_elders _ _ _, _, rfl, t, _, _, _, rfl, rfl, sq, (rfl : atI _ (0 : Int) = _), a.aE, _, _, _, rfl, rfl, SqL.of h.hE, atI_nat (ints_at (nI_get (hel hw1))), ?_⟩
    refine ⟨_, rfl, t, _, _, _, rfl, rfl, sq, (rfl : atI _ (1 : Int) = _), ?_⟩
    refine ⟨_, rfl, r, _, a.dx, _, _, rfl, h.ins, cl_Rooms T, T.n_elders, lk_elders _ _ _, _, rfl, t, _, _, _, rfl, rfl, sq, (rfl : atI _ (2 : Int) = _), a.aE, _, _, _, rfl, rfl, SqL.of h.hE, atI_nat (ints_at (nI_get (hel hw3))), ?_⟩
    have k' := k
    clear k
    unfold RS.takeIn at k'
    generalize S.eld w.1 = c at hc k' ⊢
    generalize S.eld w.2.2 = d at hd k' ⊢
    generalize w.2.1 = z at k' ⊢
    obtain ⟨pc, hpc, hPC⟩ := h.rW.at (way_at (S := S) (c := c) (by rw [ok.wf.w]; exact hc))
    obtain ⟨pd, hpd, hPD⟩ := h.rW.at (way_at (S := S) (c := d) (by rw [ok.wf.w]; exact hd))
    have gd : ∀ (o : Option Nat) (n : Nat), (o.map fun r : Nat => V.int (r : Int)).getD (.int (n : Int)) = V.int ((o.getD n : Nat) : Int) := fun o n => by cases o <;> rfl
    refine ⟨_, rfl, r, _, a.dx, _, _, rfl, h.ins, cl_Rooms T, T.n_ways, lk_ways _ _ _, _, rfl, a.aW, _, _, _, rfl, rfl, SqL.of h.hW, ref_at hpc, pc, rfl, .inl ⟨_, .inl hPC⟩, _, rfl, _, rfl, _, DGet.k (k := Sum.inl z) hPC, ?_⟩
    rw [wK_val, gd]
    show _
    refine ⟨_, rfl, r, _, a.dx, _, _, rfl, h.ins, cl_Rooms T, T.n_ways, lk_ways _ _ _, _, rfl, a.aW, _, _, _, rfl, rfl, SqL.of h.hW, ref_at hpd, pd, rfl, .inl ⟨_, .inl hPD⟩, _, rfl, _, rfl, _, rfl, _, DGet.k (k := Sum.inl (-z)) hPD, ?_⟩
    rw [wK_val, gd]
    have e1 : getW (S.way c) z = S.by c z := rfl
    have e2 : getW (S.way d) (-z) = S.by d (-z) := rfl
    rw [e1, e2]
    have hl : (S.by c z).getD d < S.made := by
      cases e : S.by c z with
      | none => exact hd
      | some m => exact ok.bl _ _ _ e
    have hf : (S.by d (-z)).getD c < S.made := by
      cases e : S.by d (-z) with
      | none => exact hc
      | some m => exact ok.bl _ _ _ e
    generalize (S.by c z).getD d = l at hl k' ⊢
    generalize (S.by d (-z)).getD c = f at hf k' ⊢
    have ne : ∀ {m n : Nat}, m ≠ n → (!decide (V.int (m : Int) = V.int (n : Int))) = true := fun {m n} q => by
      rw [decide_eq_false (fun z => q (by injection z with z; omega))]; rfl
    refine ⟨fun _ H' => Q .non H', ?_, fun _ _ q => q⟩
    by_cases h1 : l ≠ d
    · rw [if_pos h1] at k'
      refine ⟨_, rfl, _, rfl, rfl, _, rfl, ?_⟩
      rw [ne h1]
      refine iteT ?_
      exact ⟨_, rfl, r, a.dx, _, rfl, h.ins, lk_none _ _ _ (by decide +kernel), _, rfl, _, rfl, _, rfl, _, rfl, _, rfl, r, p, S, a, c, l, d, z, pend, rfl, h, ok.wf, hl, hd, h1, ok.off _ (by omega), fun n hn => ok.cl _ n hn, ok.sm, hP, np, hpl, k'⟩
    · have h1' : l = d := Decidable.not_not.mp h1
      rw [if_neg h1] at k'
      refine ⟨_, rfl, _, rfl, rfl, _, rfl, iteNS (by rw [h1']) ?_⟩
      refine ⟨fun _ H' => Q .non H', ?_, fun _ _ q => q⟩
      by_cases h2 : f ≠ c
      · rw [if_pos h2] at k'
        refine ⟨_, rfl, _, rfl, rfl, _, rfl, ?_⟩
        rw [ne h2]
        refine iteT ?_
        exact ⟨_, rfl, r, a.dx, _, rfl, h.ins, lk_none _ _ _ (by decide +kernel), _, rfl, _, rfl, _, rfl, _, rfl, _, rfl, _, rfl, r, p, S, a, d, f, c, -z, pend, rfl, h, ok.wf, hf, hc, h2, ok.off _ (by omega), fun n hn => ok.cl _ n hn, ok.sm, hP, np, hpl, k'⟩
      · have h2' : f = c := Decidable.not_not.mp h2
        rw [if_neg h2] at k'
        refine ⟨_, rfl, _, rfl, rfl, _, rfl, iteNS (by rw [h2']) ?_⟩
        refine ⟨_, rfl, r, a.dx, _, rfl, h.ins, lk_none _ _ _ (by decide +kernel), _, rfl, _, rfl, _, rfl, r, S, a, c, d, z, rfl, h, ok.wf, hc, hd, ok.sm.w, fun H' b' r' => k' a H' (fun b o nb _ e => b' b o nb e) r' (hP.keep (fun o e => b' _ _ np e) (fun b xs e => b' _ _ (h.notup e) e)) fun b hb => .inl hb⟩
theorem ok_Rooms_lay (T : Txt K mg A) : FnOk P w K mg base CX0 4 A.f_Rooms_lay A.d_Rooms_lay ["self", "room", "step", "other", "row"] (spLay A.c_Rooms) := by
  have G_own : FnOk P w K mg base CX0 3 A.f_own A.d_own ["value"] (spOwn 1) := ok_own_v1 T
  have G_Rooms_take_in : FnOk P w K mg base CX0 3 A.f_Rooms_take_in A.d_Rooms_take_in ["self", "way", "pending"] (spTakeIn A.c_Rooms) := ok_Rooms_take_in T
  refine T.Rooms_lay.F.ok sc_Rooms_lay (fun vs H Q E h => ?_) (fun cdv AA outer s H vs Q E hr h => ?_)
  · obtain ⟨r, q, S, a, c, d, z, row, I, μ, rfl, _⟩ := h
    rfl
  · obtain ⟨r, q, S, a, c, d, z, row, I, μ, rfl, h, hrl, hq, hrow, hI, step, k⟩ := h
    refine ⟨_, (pss_cons (ps_expr (pe_bm PySem.F.plainAttrs_list PySem.F.slot_list_append PySem.F.type_list_append mt_append (pe_fld (pv 0) rfl) (pa_cons (pe_call (G_own) (hr.mono (by decide)) rfl T.own.m T.own.F.kp T.own.b .nil pass0 (pa_cons (pv 4) pa_nil)) pa_nil)))
      (pss_cons (ps_set (i := 5) sc_Rooms_lay.nd rfl (Or.inl rfl) (pe_lst (pa_cons (pe_tup (pa_cons (pv 1) (pa_cons (pv 2) (pa_cons (pv 3) pa_nil)))) pa_nil)))
      (pss_one (ps_cut (ps_while PassesOwn.never (pt_truth (pv 5) (fun _ => rfl))
        (pss_one (ps_expr (pe_meth (pv 0) (cl_Rooms T) T.Rooms_take_in.m (G_Rooms_take_in) (hr.mono (by decide)) T.Rooms_take_in.b .nil pass0 (pa_cons (pe_bm0 PySem.F.plainAttrs_list PySem.F.slot_list_pop PySem.F.type_list_pop mt_pop (pv 5)) (pa_cons (pv 5) pa_nil)))))))))), ?_⟩
    have lR : (a.rs.map V.ref).length < sizeLine := by rw [List.length_map, h.rR.1]; exact Nat.lt_of_le_of_lt hrl (by decide)
    obtain ⟨ds, rfl⟩ : ∃ ds, row = .t ds := by
      cases hq with
      | t => exact ⟨_, rfl⟩
      | l => cases hrow
    refine ⟨_, rfl, r, _, a.dx, _, _, rfl, h.ins, cl_Rooms T, T.n_rows, lk_rows _ _ _, .inl ⟨rfl, _, SqL.of h.hR⟩, _, rfl, .ref q, .t ds, rfl, hq, hrow, fun v' H1 s1 hv' => ?_⟩
    obtain ⟨q', rfl⟩ : ∃ q', v' = .ref q' := by cases hv' with | t => exact ⟨_, rfl⟩
    refine ⟨a.aR, _, _, rfl, rfl, s1 _ _ h.hR, lR, ?_⟩
    have h2 := (h.same s1).addRow (hv'.le (by decide)) hrow
    have B2 : ButO a r H (upd H1 a.aR (.lst (a.rs.map V.ref ++ [.ref q']))) := fun b o nb e => by rw [upd_ne (fun z => nb (.inr (.inl (by rw [z]; exact mem_R))))]; exact s1 _ _ e
    generalize upd H1 a.aR (.lst (a.rs.map V.ref ++ [.ref q'])) = H2 at h2 B2 ⊢
    generalize ea2 : ({ a with rs := a.rs ++ [q'] } : RA) = a2 at h2
    have eo : ∀ b, a2.own r b ↔ a.own r b := fun b => by rw [← ea2]; exact Iff.rfl
    refine ⟨_, rfl, _, rfl, _, rfl, (by show 3 ≤ sizeLine; decide), fun t nt => ?_⟩
    have s3 := Same.upd (o := .tup [.int (c : Int), .int z, .int (d : Int)]) nt
    have ht3 : upd H2 t (.tup [.int (c : Int), .int z, .int (d : Int)]) t = some (.tup [.int (c : Int), .int z, .int (d : Int)]) := upd_same
    generalize upd H2 t (.tup [.int (c : Int), .int z, .int (d : Int)]) = H3 at s3 ht3 ⊢
    refine ⟨(by show 1 ≤ sizeLine; decide), fun p npn => ?_⟩
    have s4 := Same.upd (o := .lst [.ref t]) npn
    have hp4 : upd H3 p (.lst [.ref t]) p = some (.lst [.ref t]) := upd_same
    have np0 : ¬ a2.own r p := (h2.same s3).mkL npn
    generalize upd H3 p (.lst [.ref t]) = H4 at s4 hp4 ⊢
    have npH : H p = none := by
      cases e : H p with
      | none => rfl
      | some o => have := s3 _ _ (B2 p o (fun z => np0 ((eo p).mpr z)) e); rw [npn] at this; cases this
    have B4 : ButO a r H H4 := fun b o nb e => s4 _ _ (s3 _ _ (B2 b o nb e))
    have P4 : PendAt H4 p [(c, z, d)] := ⟨[t], hp4, Each.snoc (ps := []) (xs := []) ⟨rfl, fun i p d h => by simp at h⟩ (s4 _ _ ht3)⟩
    refine ⟨fun _ H' => Q .non H', ?_, fun _ _ q => q⟩
    refine ⟨fun m σ H5 => ∃ S5 a5 pend, m = μ S5 pend ∧ σ = [some (.ref r), some (.int (c : Int)), some (.int z), some (.int (d : Int)), some (.ref q), some (.ref p)] ∧ RoomsAt A.c_Rooms H5 r S5 a5 ∧ PendAt H5 p pend ∧ I S5 pend ∧ ¬ a5.own r p ∧ (∀ b o, ¬ a.own r b → b ≠ p → H b = some o → H5 b = some o) ∧ ∀ b, a5.own r b → a.own r b ∨ H b = none, ⟨_, _, a2, [(c, z, d)], rfl, rfl, (h2.same s3).same s4, P4, hI, np0, fun b o nb _ e => B4 b o nb e, fun b hb => .inl ((eo b).mp hb)⟩, ?_⟩
    rintro m σ H5 ⟨S5, a5, pend, rfl, rfl, h5, P5, I5, np5, B5, O5⟩
    obtain ⟨qs, hqs, hqe⟩ := id P5
    refine ⟨_, rfl, !(qs.map V.ref).isEmpty, .inl ⟨_, SqL.of hqs, rfl⟩, ?_⟩
    by_cases hne : pend = []
    · subst hne
      have eq0 : qs = [] := List.eq_nil_of_length_eq_zero hqe.1
      subst eq0
      refine iteF ?_
      exact k S5 a5 H5 (fun b o nb e => B5 b o nb (fun z => by rw [z, npH] at e; cases e) e) h5 I5 O5
    · have hsp := List.dropLast_concat_getLast hne
      generalize pend.getLast hne = w at hsp
      generalize pend.dropLast = pre at hsp
      subst hsp
      have hql : qs.length = pre.length + 1 := by rw [hqe.1, List.length_append]; rfl
      have hqn : qs ≠ [] := fun z => by rw [z] at hql; cases hql
      have hqsp := List.dropLast_concat_getLast hqn
      generalize qs.getLast hqn = tq at hqsp
      generalize qs.dropLast = qpre at hqsp
      subst hqsp
      have hpl : qpre.length = pre.length := by rw [List.length_append] at hql; have : ([tq] : List Addr).length = 1 := rfl; omega
      obtain ⟨ok, hw1, hw3, hb, hI2, hmu⟩ := step S5 pre w I5
      have htq : H5 tq = some (.tup [.int (w.1 : Int), .int w.2.1, .int (w.2.2 : Int)]) := hqe.2 pre.length tq w (by rw [← hpl, List.getElem?_append_right (Nat.le_refl _), Nat.sub_self]; rfl) (by rw [List.getElem?_append_right (Nat.le_refl _), Nat.sub_self]; rfl)
      have ht : (!((qpre ++ [tq]).map V.ref).isEmpty) = true := by simp
      rw [ht]
      refine iteT ?_
      refine ⟨fun σ' H' => ∃ S6 a6 pend6, μ S6 pend6 < μ S5 (pre ++ [w]) ∧ σ' = [some (.ref r), some (.int (c : Int)), some (.int z), some (.int (d : Int)), some (.ref q), some (.ref p)] ∧ RoomsAt A.c_Rooms H' r S6 a6 ∧ PendAt H' p pend6 ∧ I S6 pend6 ∧ ¬ a6.own r p ∧ (∀ b o, ¬ a.own r b → b ≠ p → H b = some o → H' b = some o) ∧ ∀ b, a6.own r b → a.own r b ∨ H b = none, fun σ' H' ⟨S6, a6, pend6, lt, e1, e2, e3, e4, e5, e6, e7⟩ => ⟨_, lt, S6, a6, pend6, rfl, e1, e2, e3, e4, e5, e6, e7⟩, ?_⟩
      refine ⟨_, rfl, r, a5.dx, _, rfl, h5.ins, lk_none _ _ _ (by decide +kernel), _, rfl, .inl ⟨rfl, _, SqL.of hqs⟩, p, _, .ref tq, rfl, rfl, hqs, ?_, ?_⟩
      · rw [List.map_append, List.length_append]
        show ((qpre.map V.ref) ++ [V.ref tq])[(qpre.map V.ref).length + 1 - 1]? = _
        rw [Nat.add_sub_cancel, List.getElem?_append_right (Nat.le_refl _), Nat.sub_self]; rfl
      have edl : ((qpre ++ [tq]).map V.ref).dropLast = qpre.map V.ref := by rw [List.map_append]; exact List.dropLast_concat
      rw [edl]
      have kp : ∀ b o, b ≠ p → H5 b = some o → upd H5 p (.lst (qpre.map V.ref)) b = some o := fun b o nb e => by rw [upd_ne nb]; exact e
      have kt : ∀ b xs, H5 b = some (.tup xs) → upd H5 p (.lst (qpre.map V.ref)) b = some (.tup xs) := fun b xs e => kp b _ (ne_of e hqs (by intro z; cases z)) e
      have h6 := h5.keep (fun b o hb e => kp b o (fun z => np5 (z ▸ hb)) e) kt
      have P6 : PendAt (upd H5 p (.lst (qpre.map V.ref))) p pre := ⟨qpre, upd_same, hpl, fun i t' w' e1 e2 => kt _ _ (hqe.2 i t' w' (by rw [List.getElem?_append_left (List.getElem?_eq_some_iff.mp e1).1]; exact e1) (by rw [List.getElem?_append_left (List.getElem?_eq_some_iff.mp e2).1]; exact e2))⟩
      generalize upd H5 p (.lst (qpre.map V.ref)) = H6 at kp kt h6 P6 ⊢
      refine ⟨_, rfl, r, tq, p, S5, a5, w, pre, rfl, h6, kt _ _ htq, ok, hw1, hw3, P6, np5, hb, fun a7 H7 b7 h7 P7 o7 => ?_⟩
      refine ⟨_, a7, _, hmu, rfl, h7, P7, hI2, fun z => ?_, fun b o nb nbp e => b7 b o (fun z => ?_) nbp (kp b o nbp (B5 b o nb nbp e)), fun b hb => ?_⟩
      · rcases o7 p z with q1 | q1
        · exact np5 q1
        · obtain ⟨_, q2, _⟩ := P6; rw [q1] at q2; cases q2
      · rcases O5 b z with q1 | q1
        · exact nb q1
        · rw [q1] at e; cases e
      · rcases o7 b hb with q1 | q1
        · exact O5 b q1
        · by_cases ho : a.own r b
          · exact .inl ho
          · refine .inr ?_
            cases e : H b with
            | none => rfl
            | some o =>
              by_cases hbp : b = p
              · rw [hbp, npH] at e; cases e
              · rw [kp b o hbp (B5 b o ho hbp e)] at q1; cases q1
def spAt (K : PySem.W.Frag) : Sp := fun vs H Q _ => ∃ (a : Addr) (ns : List Int) (k : Nat), vs = [.ref a, .int k] ∧ SqL K H a (intV ns) ∧ k ≤ 1000 ∧ ∀ z, Q (.int z) H
def spWhole : Sp := fun vs H Q _ => ∃ i : Int, vs = [.int i] ∧ Q (.bl true) H
def spTurnP : Sp := fun vs H Q _ => ∃ (z : Int) (m : Nat) (b : Bool), vs = [.int z, .int m, .bl b] ∧ 1 ≤ m ∧ m ≤ 100 ∧ 0 ≤ z ∧ ∀ l r H', Same H H' → H' l = some (.lst (intV r)) → M11.Pm m r → Q (.ref l) H'
def sf (rows : List (List Int)) (x : Nat) (s : Int) : Nat := if 0 < s then ((rows.getD (s.natAbs - 1) []).getD x 0).toNat else (rows.getD (s.natAbs - 1) []).findIdx (fun z => z == (x : Int))
def spMoved : Sp := fun vs H Q _ => ∃ (a wa : Addr) (rows : List (List Int)) (p x : Nat) (w : List Int), vs = [.ref a, .int x, .ref wa] ∧ TabAt H a rows ∧ (∀ r ∈ rows, M11.Pm p r) ∧ x < p ∧ p ≤ 1000 ∧ H wa = some (.tup (intV w)) ∧ M11.Steps rows.length w ∧ rows.length ≤ 1000 ∧ Q (.int ((w.foldl (sf rows) x : Nat) : Int)) H
def spSteps : Sp := fun vs H Q _ => ∃ L : Nat, vs = [.int L] ∧ 1 ≤ L ∧ L ≤ 200 ∧ ∀ l H', Same H H' → H l = none → H' l = some (.lst (intV (stL (2 * L)))) → Q (.ref l) H'
theorem ok__law_whole (T : Txt K mg A) : FnOk P w K mg base CX0 1 A.f__law_whole A.d__law_whole ["_law_found"] spWhole := by
  refine T._law_whole.F.ok sc__law_whole (fun vs H Q E h => ?_) (fun cdv AA outer s H vs Q E hr h => ?_)
  · obtain ⟨i, rfl, _⟩ := h
    rfl
  · obtain ⟨i, rfl, k⟩ := h
    refine ⟨_, (pss_one (ps_ret (pe_and (pe_callB call_isi rfl T.z_isinstance PyProof.Rows.boot_isinstance (pa_cons (pv 0) (pa_cons (pe_bltn (v := .ty "int") rfl T.z_int PyProof.Rows.boot_int rfl) pa_nil))) (pe_one (pe_not (pe_callB call_isi rfl T.z_isinstance PyProof.Rows.boot_isinstance (pa_cons (pv 0) (pa_cons (pe_bltn (v := .ty "bool") rfl T.z_bool PyProof.Rows.boot_bool rfl) pa_nil)))))))), ?_⟩
    refine ⟨_, rfl, _, _, _, _, rfl, .int i, kit_self _ _, true, rfl, iteT ?_⟩
    exact ⟨_, rfl, _, _, _, _, rfl, .int i, kit_int_bool _, false, rfl, k⟩
theorem ok__law_cell_at (T : Txt K mg A) : FnOk P w K mg base CX0 1 A.f__law_cell_at A.d__law_cell_at ["_law_script", "_law_k"] (spAt K) := by
  refine T._law_cell_at.F.ok sc__law_cell_at (fun vs H Q E h => ?_) (fun cdv AA outer s H vs Q E hr h => ?_)
  · obtain ⟨a, ns, n, rfl, _⟩ := h
    rfl
  · obtain ⟨a, ns, n, rfl, ha, hn, k⟩ := h
    refine ⟨_, (pss_cons (ps_if (pt_cmpR op_lt (pv 1) (pe_callB call_len_seq rfl T.z_len PySem.boot_len (pa_cons (pv 0) pa_nil)) (nomark _))
        (pss_one (ps_ret (pe_ix ix_list (pv 0) (pv 1) (fun _ _ => rfl))))
        pss_nil)
      (pss_one (ps_ret pe_int))), ?_⟩
    refine ⟨_, rfl, _, rfl, a, _, rfl, .inl ha, _, _, rfl, rfl, _, rfl, ?_⟩
    refine ite2 (fun h => ?_) (fun h => ?_)
    · have h' : (n : Int) < ((intV ns).length : Int) := of_decide_eq_true h
      rw [ints_len] at h'
      have e0 : ns[n]? = some ns[n] := List.getElem?_eq_getElem (by omega)
      exact ⟨_, rfl, _, rfl, a, _, _, _, rfl, rfl, ha, atI_nat (ints_at e0), k _⟩
    · exact k _
def natV (n : Nat) : List V := (List.range n).map fun i : Nat => V.int (i : Int)
theorem natV_len (n : Nat) : (natV n).length = n := by unfold natV; rw [List.length_map, List.length_range]
theorem natV_at {n i : Nat} (h : i < n) : (natV n)[i]? = some (V.int (i : Int)) := by
  unfold natV
  rw [List.getElem?_map, List.getElem?_range h]
  rfl
theorem natV_of {n i : Nat} {x : V} (h : (natV n)[i]? = some x) : i < n ∧ x = V.int (i : Int) := by
  have hi : i < n := by
    have := (List.getElem?_eq_some_iff.mp h).1
    rw [natV_len] at this
    exact this
  rw [natV_at hi] at h
  exact ⟨hi, (Option.some.inj h).symm⟩
theorem comp_range {H1 : Hp} {fv : St} {te : TE} {Q : VK} {n : Nat} (g : Nat → Int) (hn : n ≤ 1000) (he : ∀ i : Nat, i < n → ∀ R : VK, R (.int (g i)) H1 → te (some (.int (i : Int)) :: fv) H1 R) (hQ : ∀ D, H1 D = none → Q (.ref D) (upd H1 D (.lst (intV ((List.range n).map g))))) : CompGo te fv Q (Itr 0 n) H1 := by
  refine comp_pure (natV n) (fun v => match v with | .int z => .int (g z.toNat) | v => v) (fun i hi => by rw [natV_len] at hi; exact hi) (fun i x H3 hi y => ?_) (by rw [natV_len]; exact Nat.le_refl _) (by rw [natV_len]; exact Nat.le_trans hn (by decide)) (fun i x hx R hR => ?_) (fun D hD => ?_)
  · rw [natV_len] at hi
    obtain ⟨e1, e2⟩ := y
    refine ⟨by first | exact e1 | exact e2, ?_⟩
    rw [natV_at hi]
    congr 1
    first
    | (rw [e2, Int.zero_add])
    | (rw [e1, Int.zero_add])
  · obtain ⟨hi, rfl⟩ := natV_of hx
    refine he i hi R ?_
    have : R (V.int (g ((i : Int)).toNat)) H1 := hR
    rw [Int.toNat_natCast] at this
    exact this
  · have e : ((natV n).map fun v => match v with | .int z => V.int (g z.toNat) | v => v) = intV ((List.range n).map g) := by
      unfold natV intV
      rw [List.map_map, List.map_map]
      rfl
    rw [e]
    exact hQ D hD
theorem pm_rng {p : Nat} : M11.Pm p (rng 0 p) := by
  refine ⟨rng_len 0 p, ?_, fun z hz => ?_⟩
  · unfold rng
    exact List.Pairwise.map _ (fun a b (hab : a ≠ b) (z : (0 : Int) + (a : Int) = 0 + (b : Int)) => hab (by omega)) List.nodup_range
  · unfold rng at hz
    obtain ⟨i, hi, rfl⟩ := List.mem_map.mp hz
    have := List.mem_range.mp hi
    omega
theorem emod_inj {m : Nat} {a b : Nat} {c : Int} (ha : a < m) (hb : b < m) (h : (c + (a : Int)) % (m : Int) = (c + (b : Int)) % (m : Int)) : a = b := by
  have h1 := Int.emod_emod_of_dvd (c + (a : Int)) (Int.dvd_refl (m : Int))
  have hd : (m : Int) ∣ (c + (a : Int)) - (c + (b : Int)) := Int.dvd_of_emod_eq_zero (by rw [Int.sub_emod, h, Int.sub_self]; rfl)
  obtain ⟨q, hq⟩ := hd
  have hq0 : q = 0 := by
    refine Classical.byContradiction fun hn => ?_
    have : (m : Int) ≤ ((m : Int) * q).natAbs := by
      rw [Int.natAbs_mul]
      have : 1 ≤ q.natAbs := by omega
      have := Nat.mul_le_mul_left m this
      rw [Nat.mul_one] at this
      show (m : Int) ≤ ((m * q.natAbs : Nat) : Int)
      omega
    omega
  rw [hq0, Int.mul_zero] at hq
  omega
theorem pm_of {m : Nat} {g : Nat → Int} (hr : ∀ i, i < m → 0 ≤ g i ∧ g i < (m : Int)) (hi : ∀ i j, i < m → j < m → g i = g j → i = j) : M11.Pm m ((List.range m).map g) := by
  refine ⟨by rw [List.length_map, List.length_range], ?_, fun z hz => ?_⟩
  · refine List.pairwise_map.mpr (List.Pairwise.imp_of_mem ?_ List.nodup_range)
    intro a b ha hb hab z
    exact hab (hi a b (List.mem_range.mp ha) (List.mem_range.mp hb) z)
  · obtain ⟨i, hi2, rfl⟩ := List.mem_map.mp hz
    exact hr i (List.mem_range.mp hi2)
theorem pm_perm {m : Nat} {r : List Int} (h : r.Perm (rng 0 m)) : M11.Pm m r := by
  have hp : M11.Pm m (rng 0 m) := pm_rng
  exact ⟨by rw [h.length_eq, hp.len], h.nodup_iff.mpr hp.nd, fun z hz => hp.rg z (h.mem_iff.mp hz)⟩
theorem erase_cons : ∀ {s : List Int} {k : Nat} {x : Int}, s[k]? = some x → (x :: s.eraseIdx k).Perm s
  | [], k, x, h => by simp at h
  | a :: s, 0, x, h => by
    have e : a = x := Option.some.inj h
    subst e
    exact List.Perm.refl _
  | a :: s, k + 1, x, h => (List.Perm.swap a x (s.eraseIdx k)).trans ((erase_cons (s := s) h).cons a)
theorem erase_perm {t s : List Int} {k : Nat} {x : Int} (h : s[k]? = some x) : ((t ++ [x]) ++ s.eraseIdx k).Perm (t ++ s) := by
  rw [List.append_assoc]
  exact List.Perm.append_left t (erase_cons h)
theorem seqIx {n k : Nat} (h : k < n) : seqIndex? (k : Int) n = some k := (ixN_seq (ixN_nat h)).1
theorem ints_erase : ∀ (ns : List Int) (k : Nat), (intV ns).eraseIdx k = intV (ns.eraseIdx k)
  | [], _ => rfl
  | a :: ns, 0 => rfl
  | a :: ns, k + 1 => by
    show V.int a :: (intV ns).eraseIdx k = V.int a :: intV (ns.eraseIdx k)
    rw [ints_erase ns k]
theorem ok__law_turning (T : Txt K mg A) : FnOk P w K mg base CX0 1 A.f__law_turning A.d__law_turning ["_law_number", "_law_many", "_law_plain"] spTurnP := by
  refine T._law_turning.F.ok sc__law_turning (fun vs H Q E h => ?_) (fun cdv AA outer s H vs Q E hr h => ?_)
  · obtain ⟨z, m, b, rfl, _⟩ := h
    rfl
  · obtain ⟨z, m, b, rfl, hm1, hm2, hz, k⟩ := h
    have hu := Nat.lt_of_succ_lt (hu_of hr)
    refine ⟨_, (pss_cons (ps_set (i := 3) sc__law_turning.nd rfl (Or.inr rfl) (pe_op op_mod (pe_op op_fdiv (pv 0) pe_int) (pv 1)))
      (pss_cons (ps_cut (ps_if (PW.pt (pw_and (pt_val (pv 2)) (pw_and1 (pt_cmpR op_eq (pe_op op_mod (pv 0) pe_int) pe_int (nomark _)))))
        (pss_one (ps_ret (pe_comp (fns := ["_law_many", "_law_by"]) (ixs := [1, 3]) (cl := _) rfl (pi_range1 rfl T.z_range (pa_cons (pv 1) pa_nil)) (compScope2 rfl rfl rfl (by decide +kernel) rfl (by decide +kernel) rfl (by decide +kernel) (by decide +kernel) rfl rfl rfl rfl rfl rfl rfl) (fun C s H ex => (pe_op op_mod (pe_op op_sub (pv 2) (pv 0)) (pv 1))))))
        pss_nil))
      (pss_cons (ps_if (pt_val (pv 2))
        (pss_one (ps_ret (pe_comp (fns := ["_law_many", "_law_by"]) (ixs := [1, 3]) (cl := _) rfl (pi_range1 rfl T.z_range (pa_cons (pv 1) pa_nil)) (compScope2 rfl rfl rfl (by decide +kernel) rfl (by decide +kernel) rfl (by decide +kernel) (by decide +kernel) rfl rfl rfl rfl rfl rfl rfl) (fun C s H ex => (pe_op op_mod (pe_op op_add (pv 2) (pv 0)) (pv 1))))))
        pss_nil)
      (pss_cons (ps_set (i := 4) sc__law_turning.nd rfl (Or.inl rfl) (pe_listRange1 rfl rfl T.z_list rfl T.z_range (pa_cons (pv 1) pa_nil)))
      (pss_cons (ps_set (i := 5) sc__law_turning.nd rfl (Or.inl rfl) (pe_lst pa_nil))
      (pss_cons (ps_cut (ps_while PassesOwn.never (pt_cmpR (op_neLI hu) (pv 4) (pe_lst pa_nil) (nomark _))
        (pss_cons (ps_expr (pe_bm PySem.F.plainAttrs_list PySem.F.slot_list_append PySem.F.type_list_append mt_append (pv 5) (pa_cons (pe_bm PySem.F.plainAttrs_list PySem.F.slot_list_pop PySem.F.type_list_pop mt_popAt (pv 4) (pa_cons (pe_op op_mod (pv 0) (pe_callB call_len_seq rfl T.z_len PySem.boot_len (pa_cons (pv 4) pa_nil))) pa_nil)) pa_nil)))
        (pss_one (ps_set (i := 0) sc__law_turning.nd rfl (Or.inl rfl) (pe_op op_fdiv (pv 0) (pe_op op_add (pe_callB call_len_seq rfl T.z_len PySem.boot_len (pa_cons (pv 4) pa_nil)) pe_int)))))))
      (pss_one (ps_ret (pv 5))))))))), ?_⟩
    have b1 := Int.emod_nonneg (z / 2) (show (m : Int) ≠ 0 by omega)
    have b2 := Int.emod_lt_of_pos (z / 2) (show (0 : Int) < (m : Int) by omega)
    refine ⟨_, rfl, _, _, rfl, rfl, ⟨by decide, by decide⟩, _, rfl, _, _, rfl, rfl, (by show (0 : Int) < (m : Int); omega), ?_⟩
    obtain ⟨y, hy⟩ : ∃ y, z / 2 % (m : Int) = y := ⟨_, rfl⟩
    rw [hy] at b1 b2
    simp only [hy]
    refine ⟨fun σ' H' => σ' = [some (.int z), some (.int m), some (.bl b), some (.int y), none, none] ∧ H' = H, ?_, ?_⟩
    · refine ⟨_, rfl, _, rfl, ?_⟩
      refine ite2 (fun _ => ?_) (fun _ => iteF ⟨rfl, rfl⟩)
      refine ⟨_, rfl, _, _, rfl, rfl, (by show (0 : Int) < 2; decide), rfl, _, rfl, ?_⟩
      refine ite2 (fun _ => ?_) (fun _ => ⟨rfl, rfl⟩)
      refine ⟨_, rfl, (m : Int), rfl, by omega, by omega, ?_⟩
      rw [Int.toNat_natCast]
      refine comp_range (fun i => (y - (i : Int)) % (m : Int)) (by omega) (fun i hi R hR => ?_) (fun D hD => ?_)
      · exact ⟨_, rfl, _, rfl, _, _, rfl, rfl, _, rfl, _, _, rfl, rfl, (by show (0 : Int) < (m : Int); omega), hR⟩
      · refine k D _ _ (Same.upd hD) upd_same (pm_of (fun i hi => ⟨Int.emod_nonneg _ (by omega), Int.emod_lt_of_pos _ (by omega)⟩) fun i j hi hj e => ?_)
        have e2 : ((y - (m : Int) + 1) + (((m - 1 - i : Nat)) : Int)) % (m : Int) = ((y - (m : Int) + 1) + (((m - 1 - j : Nat)) : Int)) % (m : Int) := by
          rw [show (y - (m : Int) + 1) + (((m - 1 - i : Nat)) : Int) = y - (i : Int) by omega, show (y - (m : Int) + 1) + (((m - 1 - j : Nat)) : Int) = y - (j : Int) by omega]
          exact e
        have := emod_inj (by omega) (by omega) e2
        omega
    rintro σ' H' ⟨rfl, rfl⟩
    refine ⟨_, rfl, _, rfl, ?_⟩
    refine ite2 (fun _ => ?_) (fun _ => ?_)
    · refine ⟨_, rfl, (m : Int), rfl, by omega, by omega, ?_⟩
      rw [Int.toNat_natCast]
      refine comp_range (fun i => (y + (i : Int)) % (m : Int)) (by omega) (fun i hi R hR => ?_) (fun D hD => ?_)
      · exact ⟨_, rfl, _, rfl, _, _, rfl, rfl, _, rfl, _, _, rfl, rfl, (by show (0 : Int) < (m : Int); omega), hR⟩
      · exact k D _ _ (Same.upd hD) upd_same (pm_of (fun i hi => ⟨Int.emod_nonneg _ (by omega), Int.emod_lt_of_pos _ (by omega)⟩) fun i j hi hj e => emod_inj hi hj e)
    refine ⟨_, rfl, m, rfl, by omega, fun ls hls => ?_⟩
    have s1 : Same H' (upd H' ls (.lst (intV (rng 0 m)))) := Same.upd hls
    have h1 : upd H' ls (.lst (intV (rng 0 m))) ls = some (.lst (intV (rng 0 m))) := upd_same
    generalize upd H' ls (.lst (intV (rng 0 m))) = H1 at s1 h1 ⊢
    refine ⟨Nat.zero_le _, fun lt hlt => ?_⟩
    have s2 : Same H1 (upd H1 lt (.lst [])) := Same.upd hlt
    have h2 : upd H1 lt (.lst []) lt = some (.lst (intV [])) := upd_same
    have hne : ls ≠ lt := fun e => by rw [← e, h1] at hlt; cases hlt
    have nlt : H' lt = none := s1.free hlt
    generalize upd H1 lt (.lst []) = H2 at s2 h2 ⊢
    refine ⟨fun σ' H3 => ∃ (tv : List Int) (v0 : Option V), σ' = [v0, some (.int m), some (.bl b), some (.int y), some (.ref ls), some (.ref lt)] ∧ Same H' H3 ∧ H3 lt = some (.lst (intV tv)) ∧ tv.Perm (rng 0 m), ?_, ?_⟩
    · refine ⟨fun n σ H3 => ∃ (tv sv : List Int) (x : Int), n = sv.length ∧ σ = [some (.int x), some (.int m), some (.bl b), some (.int y), some (.ref ls), some (.ref lt)] ∧ Same H' H3 ∧ H3 lt = some (.lst (intV tv)) ∧ H3 ls = some (.lst (intV sv)) ∧ (tv ++ sv).Perm (rng 0 m), ⟨_, [], rng 0 m, z, rfl, rfl, s1.trans s2, h2, s2 _ _ h1, List.Perm.refl _⟩, ?_⟩
      rintro n σ H3 ⟨tv, sv, x, rfl, rfl, s3, ht3, hs3, hp⟩
      have hlen := hp.length_eq
      rw [List.length_append, rng_len] at hlen
      refine ⟨_, rfl, Nat.zero_le _, fun e0 he0 => ?_⟩
      have s4 : Same H3 (upd H3 e0 (.lst [])) := Same.upd he0
      have h4 : upd H3 e0 (.lst []) e0 = some (.lst (intV [])) := upd_same
      generalize upd H3 e0 (.lst []) = H4 at s4 h4 ⊢
      have ht4 := s4 _ _ ht3
      have hs4 := s4 _ _ hs3
      refine ⟨ls, e0, sv, [], rfl, rfl, hs4, h4, _, rfl, ?_⟩
      by_cases hsv : sv = []
      · refine iteNS hsv ?_
        rw [hsv, List.append_nil] at hp
        exact ⟨tv, _, rfl, s3.trans s4, ht4, hp⟩
      · have hpos : 0 < sv.length := List.length_pos_iff.mpr hsv
        refine ite2 (fun _ => ?_) (fun h => ?_)
        · refine ⟨_, fun σ' H' h => h, ?_⟩
          obtain ⟨kk, hkk, hkl⟩ := emod_nat x (n := sv.length) hpos
          have hx : sv[kk]? = some sv[kk] := List.getElem?_eq_getElem hkl
          generalize sv[kk] = c at hx
          have ekk : x % ((intV sv).length : Int) = (kk : Int) := by rw [ints_len]; exact hkk
          refine ⟨_, rfl, .inl ⟨rfl, _, SqL.of ht4⟩, _, rfl, .inl ⟨rfl, _, SqL.of hs4⟩, _, rfl, _, rfl, ls, _, rfl, .inl (SqL.of hs4), _, _, rfl, rfl, (by show (0 : Int) < ((intV sv).length : Int); rw [ints_len]; omega), ?_⟩
          simp only [ekk]
          refine ⟨ls, _, (kk : Int), kk, .int c, rfl, rfl, hs4, by omega, by omega, seqIx (by rw [ints_len]; exact hkl), ints_at hx, ?_⟩
          rw [ints_erase]
          have ht5 : upd H4 ls (.lst (intV (sv.eraseIdx kk))) lt = some (.lst (intV tv)) := by rw [upd_ne (Ne.symm hne)]; exact ht4
          have hs5 : upd H4 ls (.lst (intV (sv.eraseIdx kk))) ls = some (.lst (intV (sv.eraseIdx kk))) := upd_same
          have nls : H' ls = none := hls
          have s5 : Same H' (upd H4 ls (.lst (intV (sv.eraseIdx kk)))) := fun b o e => by rw [upd_ne (ne_of_none e nls)]; exact s4 _ _ (s3 _ _ e)
          generalize upd H4 ls (.lst (intV (sv.eraseIdx kk))) = H5 at ht5 hs5 s5 ⊢
          refine ⟨lt, _, _, rfl, rfl, ht5, ?_, ?_⟩
          · rw [ints_len]
            exact Nat.lt_of_le_of_lt (show tv.length ≤ 100 by omega) (by decide)
          have hel : (sv.eraseIdx kk).length = sv.length - 1 := List.length_eraseIdx_of_lt hkl
          have hs6 : upd H5 lt (.lst (intV tv ++ [.int c])) ls = some (.lst (intV (sv.eraseIdx kk))) := by rw [upd_ne hne]; exact hs5
          refine ⟨_, rfl, _, rfl, ls, _, rfl, .inl (SqL.of hs6), _, _, rfl, rfl, _, _, rfl, rfl, ⟨by show (0 : Int) < ((intV (sv.eraseIdx kk)).length : Int) + 1; omega, by show ((intV (sv.eraseIdx kk)).length : Int) + 1 < 1073741824; rw [ints_len]; omega⟩, ?_⟩
          refine ⟨(sv.eraseIdx kk).length, by omega, tv ++ [c], sv.eraseIdx kk, _, rfl, rfl, fun b o e => ?_, by rw [upd_same, ints_app]; rfl, hs6, (erase_perm hx).trans hp⟩
          rw [upd_ne (ne_of_none e nlt)]
          exact s5 _ _ e
        · exact absurd (by rw [decide_eq_false hsv]; rfl) h
    rintro σ' H3 ⟨tv, v0, rfl, s3, ht3, hp⟩
    exact ⟨_, rfl, k lt tv H3 s3 ht3 (pm_perm hp)⟩
theorem ok__law_steps (T : Txt K mg A) : FnOk P w K mg base CX0 1 A.f__law_steps A.d__law_steps ["_law_letters"] spSteps := by
  refine T._law_steps.F.ok sc__law_steps (fun vs H Q E h => ?_) (fun cdv AA outer s H vs Q E hr h => ?_)
  · obtain ⟨L, rfl, _⟩ := h
    rfl
  · obtain ⟨L, rfl, hL1, hL2, k⟩ := h
    refine ⟨_, (pss_cons (ps_set (i := 1) sc__law_steps.nd rfl (Or.inl rfl) (pe_lst pa_nil))
      (pss_cons (ps_for PassesOwn.never rfl (pi_range2 rfl T.z_range (pa_cons pe_int (pa_cons (pe_op op_add (pv 0) pe_int) pa_nil))) (pg_name (i := 2) sc__law_steps.nd rfl (Or.inl rfl))
        (pss_one (ps_set (i := 1) sc__law_steps.nd rfl (Or.inl rfl) (pe_op op_cat (pv 1) (pe_lst (pa_cons (pv 2) (pa_cons (pe_un un_neg (pv 2)) pa_nil)))))))
      (pss_one (ps_ret (pv 1))))), ?_⟩
    refine ⟨Nat.zero_le _, fun l hl => ?_⟩
    have s0 : Same H (upd H l (.lst [])) := Same.upd hl
    have h0 : upd H l (.lst []) l = some (.lst (intV (stL (2 * 0)))) := upd_same
    generalize upd H l (.lst []) = H0 at s0 h0 ⊢
    refine ⟨_, rfl, _, _, rfl, rfl, 1, (L : Int) + 1, rfl, ⟨by omega, by omega, by omega, by omega⟩, ?_⟩
    refine for_range (lo := 1) (n := ((L : Int) + 1 - 1).toNat) (fun i σ H2 => ∃ (l : Addr) (v : Option V), σ = [some (.int L), some (.ref l), v] ∧ Same H H2 ∧ H l = none ∧ H2 l = some (.lst (intV (stL (2 * i))))) ⟨l, none, rfl, s0, hl, h0⟩ ?_ ?_
    · rintro i σ H2 hi ⟨l, v, rfl, s2, _, h2⟩
      have hi' : i < L := by omega
      refine ⟨_, rfl, _, rfl, _, rfl, _, rfl, by show 2 ≤ sizeLine; decide, fun q hq => ?_⟩
      have s3 : Same H2 (upd H2 q (.lst [.int (1 + (i : Int)), .int (-(1 + (i : Int)))])) := Same.upd hq
      have h3 : upd H2 q (.lst [.int (1 + (i : Int)), .int (-(1 + (i : Int)))]) q = some (.lst (intV [1 + (i : Int), -(1 + (i : Int))])) := upd_same
      generalize upd H2 q (.lst [.int (1 + (i : Int)), .int (-(1 + (i : Int)))]) = H3 at s3 h3 ⊢
      refine ⟨l, q, _, _, rfl, rfl, s3 _ _ h2, h3, ?_, fun p hp => ?_⟩
      · rw [ints_len, ints_len, stL_len]
        exact Nat.le_trans (show 2 * i + 2 ≤ 500 by omega) (by decide)
      refine ⟨p, _, rfl, (s2.trans s3).trans (Same.upd hp), (s2.trans s3).free hp, ?_⟩
      rw [upd_same, ← ints_app, ← stL_two, List.append_assoc]
      rfl
    · rintro σ H2 ⟨l, v, rfl, s2, hn, h2⟩
      rw [show ((L : Int) + 1 - 1).toNat = L by omega] at h2
      exact ⟨_, rfl, k l H2 s2 hn h2⟩
theorem find_at : ∀ {r : List Int} {i : Nat} {x : Int}, r.Nodup → r[i]? = some x → r.findIdx (fun z => z == x) = i
  | [], i, x, _, h => by simp at h
  | a :: r, 0, x, _, h => by
    have e : a = x := Option.some.inj h
    rw [List.findIdx_cons, e]
    simp
  | a :: r, i + 1, x, hn, h => by
    have hne : a ≠ x := fun z => (List.nodup_cons.mp hn).1 (by rw [z]; exact List.mem_of_getElem? (l := r) (i := i) h)
    rw [List.findIdx_cons, show (a == x) = false from beq_eq_false_iff_ne.mpr hne, find_at (List.nodup_cons.mp hn).2 h]
    rfl
theorem sf_pos {rows : List (List Int)} {s : Int} {x y : Nat} {r : List Int} (h : 0 < s) (hr : rows[s.natAbs - 1]? = some r) (hy : r[x]? = some (y : Int)) : sf rows x s = y := by
  unfold sf
  rw [if_pos h, List.getD_eq_getElem?_getD, List.getD_eq_getElem?_getD, hr, Option.getD_some, hy, Option.getD_some]
  rfl
theorem sf_neg {rows : List (List Int)} {s : Int} {x y : Nat} {r : List Int} (h : ¬ 0 < s) (hr : rows[s.natAbs - 1]? = some r) (hn : r.Nodup) (hy : r[y]? = some (x : Int)) : sf rows x s = y := by
  unfold sf
  rw [if_neg h, List.getD_eq_getElem?_getD, hr, Option.getD_some]
  exact find_at hn hy
theorem ok__law_moved (T : Txt K mg A) : FnOk P w K mg base CX0 1 A.f__law_moved A.d__law_moved ["_law_turns", "_law_point", "_law_word"] spMoved := by
  refine T._law_moved.F.ok sc__law_moved (fun vs H Q E h => ?_) (fun cdv AA outer s H vs Q E hr h => ?_)
  · obtain ⟨a, wa, rows, p, x, w, rfl, _⟩ := h
    rfl
  · obtain ⟨a, wa, rows, p, x, w, rfl, hTa, hpm, hx, hp, hwa, hst, hrl, k⟩ := h
    refine ⟨_, (pss_cons (ps_for PassesOwn.never rfl (pi_tup (pv 2)) (pg_name (i := 3) sc__law_moved.nd rfl (Or.inl rfl))
        (pss_one (ps_cut (ps_if (pt_cmpR op_gt (pv 3) pe_int (nomark _))
          (pss_one (ps_set (i := 1) sc__law_moved.nd rfl (Or.inl rfl) (pe_ix ix_list (pe_ix ix_list (pv 0) (pe_op op_sub (pv 3) pe_int) (fun _ _ => rfl)) (pv 1) (fun _ _ => rfl))))
          (pss_one (ps_set (i := 1) sc__law_moved.nd rfl (Or.inl rfl) (pe_bm PySem.F.plainAttrs_list PySem.F.slot_list_index PySem.F.type_list_index mt_list_index (pe_ix ix_list (pv 0) (pe_op op_sub (pe_un un_neg (pv 3)) pe_int) (fun _ _ => rfl)) (pa_cons (pv 1) pa_nil))))))))
      (pss_one (ps_ret (pv 1)))), ?_⟩
    obtain ⟨rs, hrs, hrw⟩ := id hTa
    refine ⟨_, rfl, wa, rfl, ⟨_, SqT.of hwa⟩, ?_⟩
    refine for_tup (K := K) (a := wa) (xs := intV w) (fun n σ H2 => ∃ v : Option V, σ = [some (.ref a), some (.int (((w.take n).foldl (sf rows) x : Nat) : Int)), some (.ref wa), v] ∧ H2 = H ∧ (w.take n).foldl (sf rows) x < p) ⟨none, rfl, rfl, hx⟩ (fun n σ H2 _ ⟨_, _, e, _⟩ => by rw [e]; exact SqT.of hwa) ?_ ?_
    · rintro n y σ H2 hn ⟨v, rfl, rfl, hlt⟩
      obtain ⟨z, rfl, hz⟩ := ints_of_at hn
      have hs := hst z (List.mem_of_getElem? hz)
      have hfold : (w.take (n + 1)).foldl (sf rows) x = sf rows ((w.take n).foldl (sf rows) x) z := by
        rw [List.take_succ, hz, List.foldl_append]
        rfl
      rw [hfold]
      generalize (w.take n).foldl (sf rows) x = pt at hlt ⊢
      have hm : z.natAbs - 1 < rows.length := by omega
      have g2 : rows[z.natAbs - 1]? = some rows[z.natAbs - 1] := List.getElem?_eq_getElem hm
      have hm2 : z.natAbs - 1 < rs.length := by rw [hrw.1]; exact hm
      have g1 : rs[z.natAbs - 1]? = some rs[z.natAbs - 1] := List.getElem?_eq_getElem hm2
      generalize rows[z.natAbs - 1] = row at g2
      generalize rs[z.natAbs - 1] = ra at g1
      have hra := hrw.2 _ _ _ g1 g2
      have hP := hpm row (List.mem_of_getElem? g2)
      refine ⟨_, ?_, fun _ _ h => h⟩
      refine ⟨_, rfl, _, _, rfl, rfl, _, rfl, ?_⟩
      refine ite2 (fun h => ?_) (fun h => ?_)
      · have h' : (0 : Int) < z := of_decide_eq_true h
        obtain ⟨j, hj, hjp⟩ := hP.at hlt
        have e1 : atI (rs.map V.ref) (z - 1) = some (.ref ra) := by
          rw [show z - 1 = ((z.natAbs - 1 : Nat) : Int) by omega]
          exact ref_at g1
        refine ⟨_, rfl, _, rfl, _, _, rfl, rfl, a, _, _, .ref ra, rfl, rfl, SqL.of hrs, e1, _, rfl, ra, _, _, _, rfl, rfl, SqL.of hra, atI_nat (ints_at hj), ?_⟩
        rw [sf_pos h' g2 hj]
        exact ⟨_, rfl, rfl, hjp⟩
      · have h' : ¬ (0 : Int) < z := fun q => h (decide_eq_true q)
        obtain ⟨j, hj, hjp⟩ := hP.surj hlt
        have e1 : atI (rs.map V.ref) (-z - 1) = some (.ref ra) := by
          rw [show -z - 1 = ((z.natAbs - 1 : Nat) : Int) by omega]
          exact ref_at g1
        refine ⟨_, rfl, _, rfl, _, rfl, _, _, rfl, rfl, a, _, _, .ref ra, rfl, rfl, SqL.of hrs, e1, .inl ⟨rfl, _, SqL.of hra⟩, _, rfl, ra, row, (pt : Int), rfl, rfl, hra, List.mem_of_getElem? hj, fun i h1 _ => ?_⟩
        rw [sf_neg h' g2 hP.nd h1]
        have hip : i < p := by
          have := (List.getElem?_eq_some_iff.mp h1).1
          rw [hP.len] at this
          exact this
        exact ⟨_, rfl, rfl, hip⟩
    · rintro σ H2 ⟨v, rfl, rfl, hlt⟩
      rw [ints_len, List.take_length]
      exact ⟨_, rfl, k⟩
theorem st_flip (k : Nat) : M12.st (M11.flip k) = -M12.st k := by
  unfold M12.st M11.flip
  by_cases h : k % 2 = 0
  · rw [if_pos h, if_pos h, if_neg (by omega)]; omega
  · rw [if_neg h, if_neg h, if_pos (by omega)]; omega
theorem sf_ok {rows : List (List Int)} {p x : Nat} {s : Int} (hpm : ∀ r ∈ rows, M11.Pm p r) (hx : x < p) (h0 : s ≠ 0) (hl : s.natAbs ≤ rows.length) : sf rows x s < p ∧ sf rows (sf rows x s) (-s) = x := by
  have g : rows[s.natAbs - 1]? = some (rows[s.natAbs - 1]'(by omega)) := List.getElem?_eq_getElem (by omega)
  generalize rows[s.natAbs - 1]'(by omega) = r at g
  have hP := hpm r (List.mem_of_getElem? g)
  by_cases h : 0 < s
  · obtain ⟨j, a, b⟩ := hP.at hx
    rw [sf_pos h g a]
    exact ⟨b, sf_neg (by omega) (by rw [Int.natAbs_neg]; exact g) hP.nd a⟩
  · obtain ⟨j, a, b⟩ := hP.surj hx
    rw [sf_neg h g hP.nd a]
    exact ⟨b, sf_pos (by omega) (by rw [Int.natAbs_neg]; exact g) a⟩
def spPlace : Sp := fun vs H Q _ => ∃ s : Int, vs = [.int s] ∧ s ≠ 0 ∧ s.natAbs ≤ 1000 ∧ Q (.int (M11.pl s)) H
def spLed : Sp := fun vs H Q _ => ∃ (a wa : Addr) (T : List (List Int)) (L i : Nat) (w : List Int), vs = [.ref a, .int i, .ref wa] ∧ TabAt H a T ∧ M11.Tab L T ∧ i < T.length ∧ H wa = some (.tup (intV w)) ∧ M11.Steps L w ∧ Q (.int (M11.walk T w i)) H
theorem tab_get {H : Hp} {a : Addr} {T : List (List Int)} {L i : Nat} (h : TabAt H a T) (hT : M11.Tab L T) (hi : i < T.length) : ∃ (rs : List Addr) (r : Addr) (row : List Int), H a = some (.lst (rs.map V.ref)) ∧ rs[i]? = some r ∧ H r = some (.lst (intV row)) ∧ row.length = 2 * L ∧ ∀ k, k < 2 * L → row[k]? = some ((M11.nx T k i : Nat) : Int) := by
  obtain ⟨rs, h1, h2⟩ := h
  have hil : i < rs.length := by rw [h2.1]; exact hi
  have hr : rs[i]? = some rs[i] := List.getElem?_eq_getElem hil
  have ht : T[i]? = some T[i] := List.getElem?_eq_getElem hi
  refine ⟨rs, _, _, h1, hr, h2.2 i _ _ hr ht, hT.row i _ ht, fun k hk => ?_⟩
  obtain ⟨r, e1, e2⟩ := hT.val i k hi hk
  rw [ht] at e1
  rw [Option.some.inj e1]
  exact e2
theorem walk_take {T : List (List Int)} {w : List Int} {i n : Nat} {s : Int} (h : w[n]? = some s) : M11.walk T (w.take (n + 1)) i = M11.nx T (M11.pl s) (M11.walk T (w.take n) i) := by
  rw [List.take_succ, h]
  exact M11.walk_app T (w.take n) [s] i
theorem steps_take {L : Nat} {w : List Int} (n : Nat) (h : M11.Steps L w) : M11.Steps L (w.take n) := fun s hs => h s (List.mem_of_mem_take hs)
theorem ok_place_of (T : Txt K mg A) : FnOk P w K mg base CX0 1 A.f_place_of A.d_place_of ["step"] spPlace := by
  refine T.place_of.F.ok sc_place_of (fun vs H Q E h => ?_) (fun cdv AA outer s H vs Q E hr h => ?_)
  · obtain ⟨s, rfl, _⟩ := h
    rfl
  · obtain ⟨s, rfl, hs0, hsl, k⟩ := h
    refine ⟨_, (pss_cons (ps_if (pt_cmpR op_gt (pv 0) pe_int (nomark _))
        (pss_one (ps_ret (pe_op op_sub (pe_op op_mul pe_int (pv 0)) pe_int)))
        pss_nil)
      (pss_one (ps_ret (pe_op op_sub (pe_op op_mul (pe_un un_neg pe_int) (pv 0)) pe_int)))), ?_⟩
    refine ⟨_, rfl, _, _, rfl, rfl, _, rfl, ?_⟩
    refine ite2 (fun h => ?_) (fun h => ?_)
    · have h' : (0 : Int) < s := of_decide_eq_true h
      refine ⟨_, rfl, _, _, rfl, rfl, .inl ⟨by decide, by decide⟩, _, _, rfl, rfl, ?_⟩
      unfold M11.pl at k
      rw [if_pos h', show ((2 * s.natAbs - 2 : Nat) : Int) = 2 * s - 2 by omega] at k
      exact k
    · have h' : ¬ (0 : Int) < s := fun z => h (decide_eq_true z)
      refine ⟨_, rfl, _, rfl, _, _, rfl, rfl, .inl ⟨by decide, by decide⟩, _, _, rfl, rfl, ?_⟩
      unfold M11.pl at k
      rw [if_neg h', show ((2 * s.natAbs - 1 : Nat) : Int) = -2 * s - 1 by omega] at k
      exact k
theorem ok_led (T : Txt K mg A) : FnOk P w K mg base CX0 2 A.f_led A.d_led ["table", "room", "word"] spLed := by
  have G_place_of : FnOk P w K mg base CX0 1 A.f_place_of A.d_place_of ["step"] spPlace := ok_place_of T
  refine T.led.F.ok sc_led (fun vs H Q E h => ?_) (fun cdv AA outer s H vs Q E hr h => ?_)
  · obtain ⟨a, wa, Tb, L, i, ws, rfl, _⟩ := h
    rfl
  · obtain ⟨a, wa, Tb, L, i, ws, rfl, hTa, hT, hi, hwa, hst, k⟩ := h
    refine ⟨_, (pss_cons (ps_for PassesOwn.never rfl (pi_tup (pv 2)) (pg_name (i := 3) sc_led.nd rfl (Or.inl rfl))
        (pss_one (ps_set (i := 1) sc_led.nd rfl (Or.inl rfl) (pe_ix ix_list (pe_ix ix_list (pv 0) (pv 1) (fun _ _ => rfl)) (pe_call (G_place_of) (hr.mono (by decide)) rfl T.place_of.m T.place_of.F.kp T.place_of.b .nil pass0 (pa_cons (pv 3) pa_nil)) (fun _ _ => rfl)))))
      (pss_one (ps_ret (pv 1)))), ?_⟩
    refine ⟨_, rfl, wa, rfl, ⟨_, SqT.of hwa⟩, ?_⟩
    refine for_tup (K := K) (a := wa) (xs := intV ws) (fun n σ H2 => ∃ v : Option V, σ = [some (.ref a), some (.int (M11.walk Tb (ws.take n) i)), some (.ref wa), v] ∧ H2 = H) ⟨none, rfl, rfl⟩ (fun n σ H2 _ ⟨_, _, e⟩ => by rw [e]; exact SqT.of hwa) ?_ ?_
    · rintro n y σ H2 hn ⟨v, rfl, rfl⟩
      obtain ⟨z, rfl, hz⟩ := ints_of_at hn
      have hs := hst z (List.mem_of_getElem? hz)
      have hlt := M11.walk_lt hT (steps_take n hst) hi
      obtain ⟨rs, r, row, h1, h2, h3, h4, h5⟩ := tab_get hTa hT hlt
      have h40 := hT.let2
      refine ⟨_, rfl, _, rfl, a, _, _, _, rfl, rfl, SqL.of h1, ref_at h2, _, rfl, z, rfl, hs.1, by omega, ?_⟩
      refine ⟨r, _, _, _, rfl, rfl, SqL.of h3, atI_nat (ints_at (h5 _ (M11.pl_lt hs))), ?_⟩
      exact ⟨_, by rw [walk_take hz]; rfl, rfl⟩
    · rintro σ H2 ⟨v, rfl, rfl⟩
      rw [ints_len, List.take_length]
      exact ⟨_, rfl, k⟩
def But (p : Addr) (H H' : Hp) : Prop := ∀ q o, q ≠ p → H q = some o → H' q = some o
theorem But.upd {p : Addr} {H : Hp} {o : HO} : But p H (upd H p o) := fun q u n e => by rw [upd_ne n]; exact e
theorem _root_.L2.RowsAt.but {H H' : Hp} {rs : List Addr} {rows : List (List Int)} {w : Addr} (h : RowsAt H rs rows) (b : But w H H') (hw : w ∉ rs) : RowsAt H' rs rows := ⟨h.1, fun i r ns h1 h2 => b _ _ (fun z => hw (by rw [← z]; exact List.mem_of_getElem? h1)) (h.2 i r ns h1 h2)⟩
theorem rows_mem {H : Hp} {rs : List Addr} {rows : List (List Int)} (h : RowsAt H rs rows) {r : Addr} (hr : r ∈ rs) : ∃ ns, H r = some (.lst (intV ns)) := by
  obtain ⟨i, hi, e⟩ := List.mem_iff_getElem.mp hr
  have hi2 : i < rows.length := by rw [← h.1]; exact hi
  exact ⟨_, h.2 i r _ (by rw [List.getElem?_eq_getElem hi, e]) (List.getElem?_eq_getElem hi2)⟩
theorem _root_.L2.RowsAt.snoc {H : Hp} {rs : List Addr} {rows : List (List Int)} {r : Addr} {ns : List Int} (h : RowsAt H rs rows) (hr : H r = some (.lst (intV ns))) : RowsAt H (rs ++ [r]) (rows ++ [ns]) := by
  refine ⟨by rw [List.length_append, List.length_append, h.1]; rfl, fun i q ms h1 h2 => ?_⟩
  by_cases hi : i < rs.length
  · rw [List.getElem?_append_left hi] at h1
    rw [List.getElem?_append_left (by rw [← h.1]; exact hi)] at h2
    exact h.2 i q ms h1 h2
  · rw [List.getElem?_append_right (by omega)] at h1
    rw [List.getElem?_append_right (by rw [← h.1]; omega)] at h2
    rw [List.mem_singleton.mp (List.mem_of_getElem? h1), List.mem_singleton.mp (List.mem_of_getElem? h2)]
    exact hr
def spStep : Sp := fun vs H Q _ => ∃ (z : Int) (L : Nat), vs = [.int z, .int L] ∧ 1 ≤ L ∧ L ≤ 200 ∧ ∀ s : Int, s ≠ 0 → s.natAbs ≤ L → Q (.int s) H
theorem ok__law_step (T : Txt K mg A) : FnOk P w K mg base CX0 1 A.f__law_step A.d__law_step ["_law_number", "_law_letters"] spStep := by
  refine T._law_step.F.ok sc__law_step (fun vs H Q E h => ?_) (fun cdv AA outer s H vs Q E hr h => ?_)
  · obtain ⟨z, L, rfl, _⟩ := h
    rfl
  · obtain ⟨z, L, rfl, hL1, hL2, k⟩ := h
    refine ⟨_, (pss_cons (ps_if (pt_cmpR op_eq (pe_op op_mod (pv 0) pe_int) pe_int (nomark _))
        (pss_one (ps_ret (pe_un un_neg (pe_op op_add pe_int (pe_op op_mod (pe_op op_fdiv (pv 0) pe_int) (pv 1))))))
        pss_nil)
      (pss_one (ps_ret (pe_op op_add pe_int (pe_op op_mod (pe_op op_fdiv (pv 0) pe_int) (pv 1)))))), ?_⟩
    have hm : ∀ y : Int, 0 ≤ y % (L : Int) ∧ y % (L : Int) < L := fun y => ⟨Int.emod_nonneg _ (by omega), Int.emod_lt_of_pos _ (by omega)⟩
    have h1 := hm (z / 2)
    refine ⟨_, rfl, _, _, rfl, rfl, (by show (0 : Int) < 2; decide), rfl, _, rfl, ite2 (fun h => ?_) (fun h => ?_)⟩
    · refine ⟨_, rfl, _, _, rfl, rfl, ⟨by decide, by decide⟩, _, rfl, _, _, rfl, rfl, (by show (0 : Int) < (L : Int); omega), _, _, rfl, rfl, _, rfl, k _ ?_ ?_⟩ <;> omega
    · refine ⟨_, rfl, _, _, rfl, rfl, ⟨by decide, by decide⟩, _, rfl, _, _, rfl, rfl, (by show (0 : Int) < (L : Int); omega), _, _, rfl, rfl, k _ ?_ ?_⟩ <;> omega
theorem pap_dt {H : Hp} {t : Addr} {ps : List Addr} {rows : List Dt} (ht : H t = some (.lst (ps.map V.ref))) (h : Each (fun p d => DtAt H 4 (.ref p) d) ps rows) : DtAt H 8 (.ref t) (.l rows) := by
  refine .l ht (by rw [List.length_map]; exact h.1) fun j v d e1 e2 => ?_
  rw [List.getElem?_map] at e1
  cases hp : ps[j]? with
  | none => rw [hp] at e1; cases e1
  | some p =>
    rw [hp] at e1
    rw [← Option.some.inj e1]
    exact (h.2 j p d hp e2).le (by decide)
def negV : V → V
  | .int z => .int (-z)
  | v => v
def Flat (ds : List Dt) : Prop := ∀ x ∈ ds, (∃ n, x = .i n) ∨ ∃ l, x = .s l
theorem flat_t {H : Hp} {p : Addr} {ds : List Dt} {j k : Nat} (hf : Flat ds) (h : DtAt H j (.ref p) (.t ds)) : DtAt H (k + 1) (.ref p) (.t ds) := by
  cases h with
  | @t _ _ vs _ h1 h2 h3 =>
    refine .t h1 h2 fun j v d e1 e2 => ?_
    have q := h3 j v d e1 e2
    rcases hf d (List.mem_of_getElem? e2) with ⟨n, rfl⟩ | ⟨l, rfl⟩
    · cases q; exact .i
    · cases q; exact .s
theorem flat_new (c : Nat) (z : Int) (n : Nat) : Flat [.s [110, 101, 119], .i c, .i z, .i n] := fun x hx => by
  simp only [List.mem_cons, List.not_mem_nil, or_false] at hx
  rcases hx with rfl | rfl | rfl | rfl
  · exact .inr ⟨_, rfl⟩
  all_goals exact .inl ⟨_, rfl⟩
theorem flat_meet (c : Nat) (z : Int) (u v : Nat) : Flat [.s [109, 101, 101, 116], .i c, .i z, .i u, .i v] := fun x hx => by
  simp only [List.mem_cons, List.not_mem_nil, or_false] at hx
  rcases hx with rfl | rfl | rfl | rfl | rfl
  · exact .inr ⟨_, rfl⟩
  all_goals exact .inl ⟨_, rfl⟩
def FlR (rows : List Dt) : Prop := ∀ x ∈ rows, ∃ ds, x = .t ds ∧ Flat ds
theorem FlR.snoc {rows : List Dt} (h : FlR rows) {ds : List Dt} (hf : Flat ds) : FlR (rows ++ [.t ds]) := fun x hx => by
  rcases List.mem_append.mp hx with q | q
  · exact h x q
  · exact ⟨ds, List.mem_singleton.mp q, hf⟩
theorem flat_at (n : Int) : Flat [.s [115, 97, 105, 100], .i n] := fun x hx => by
  simp only [List.mem_cons, List.not_mem_nil, or_false] at hx
  rcases hx with rfl | rfl
  · exact .inr ⟨_, rfl⟩
  · exact .inl ⟨_, rfl⟩
theorem takeOk_of {S : RS} {pend : List Way} {R : Nat → Int → Nat → Prop} {ks : List Int} (g : Good S pend R) (hk : ∀ a z b, R a z b → z ∈ ks) (h1 : S.made ≤ 100000) (h2 : ks.length ≤ 100000) (h3 : S.rows.length ≤ 1000000) (h4 : S.went.length ≤ 1000000) : TakeOk S := by
  refine ⟨g.wf, fun c hc => g.lt hc, fun c z d e => (g.st c z d e).2.1, fun c n hn => g.cb c n hn, fun c _ => ⟨g.kn c, fun q hq => (g.st c q.1 q.2 (getW_of (g.kn c) hq)).2.1, fun q hq _ => ?_⟩, ⟨h1, fun l hl => ?_, h3, h4, fun l hl => ?_⟩⟩
  · rw [g.sy c q.1 q.2 (getW_of (g.kn c) hq)]; rfl
  · obtain ⟨c, hc⟩ := List.getElem?_of_mem hl
    have : S.way c = l := by unfold RS.way; rw [List.getD_eq_getElem?_getD, hc]; rfl
    rw [← this]
    exact Nat.le_trans (g.wayLen hk c) h2
  · obtain ⟨c, hc⟩ := List.getElem?_of_mem hl
    have : S.cal c = l := by unfold RS.cal; rw [List.getD_eq_getElem?_getD, hc]; rfl
    rw [← this]
    exact Nat.le_trans (g.calLen c) (by omega)
theorem stand_le (S : RS) : S.stand ≤ S.made := by
  unfold RS.stand
  exact Nat.le_trans List.countP_le_length (by rw [List.length_range]; exact Nat.le_refl _)
def LayI (R : Nat → Int → Nat → Prop) (m L B M : Nat) (ks : List Int) (S : RS) (pend : List Way) : Prop := Good S pend R ∧ S.made = m ∧ S.L = L ∧ S.rows.length + S.stand ≤ B ∧ S.went.length + S.stand ≤ B ∧ mu ks.length S pend ≤ M ∧ FlR S.rows
theorem layI_step {R : Nat → Int → Nat → Prop} {m L B M : Nat} {ks : List Int} (hk : ∀ a z b, R a z b → z ∈ ks) (h1 : m ≤ 100000) (h2 : ks.length ≤ 100000) (h3 : B ≤ 1000000) (h4 : M ≤ 1000000) (S : RS) (pend : List Way) (w : Way) (h : LayI R m L B M ks S (pend ++ [w])) :
    TakeOk S ∧ w.1 < S.made ∧ w.2.2 < S.made ∧ pend.length ≤ 1000000 ∧ LayI R m L B M ks (S.takeIn pend w).1 (S.takeIn pend w).2 ∧ mu ks.length (S.takeIn pend w).1 (S.takeIn pend w).2 < mu ks.length S (pend ++ [w]) := by
  obtain ⟨g, e1, e2, e3, e4, e5, e6⟩ := h
  obtain ⟨a1, a2, a3, a4, a5⟩ := g.take hk
  have hw := g.pl w (List.mem_append_right _ List.mem_cons_self)
  refine ⟨takeOk_of g hk (by omega) h2 (by omega) (by omega), hw.1, hw.2, ?_, ⟨a1, by rw [a3, e1], by rw [a4, e2], ?_, ?_, by omega, ?_⟩, a2⟩
  · unfold mu at e5
    rw [List.length_append] at e5
    omega
  · rcases a5 with ⟨q1, q2, q3⟩ | ⟨q1, c, z, x, y, _, _, _, _, _, q2, q3, _⟩
    · rw [q1, q2]; exact e3
    · rw [q2, List.length_append]
      have : ([rowMeet c z (min x y) (max x y)] : List Dt).length = 1 := rfl
      omega
  · rcases a5 with ⟨q1, q2, q3⟩ | ⟨q1, c, z, x, y, _, _, _, _, _, q2, q3, _⟩
    · rw [q1, q3]; exact e4
    · rw [q3, List.length_append]
      have : ([max x y] : List Nat).length = 1 := rfl
      omega
  · rcases a5 with ⟨q1, q2, q3⟩ | ⟨q1, c, z, x, y, _, _, _, _, _, q2, q3, _⟩
    · rw [q2]; exact e6
    · rw [q2]; exact e6.snoc (flat_meet _ _ _ _)
theorem stL_mem {L : Nat} {z : Int} : z ∈ stL (2 * L) ↔ z ≠ 0 ∧ z.natAbs ≤ L := by
  unfold stL
  rw [List.mem_map]
  constructor
  · rintro ⟨i, hi, rfl⟩
    exact M12.st_ok (List.mem_range.mp hi)
  · rintro ⟨h1, h2⟩
    by_cases hp : 0 < z
    · refine ⟨2 * (z.toNat - 1), List.mem_range.mpr (by omega), ?_⟩
      unfold M12.st
      rw [if_pos (by omega)]; omega
    · refine ⟨2 * (z.natAbs - 1) + 1, List.mem_range.mpr (by omega), ?_⟩
      unfold M12.st
      rw [if_neg (by omega)]; omega
theorem stand_make {S : RS} {c : Nat} {z : Int} {g : List Int} (hw : S.Wf) : (S.make c z g).stand = S.stand + 1 := by
  unfold RS.stand
  show (List.range (S.made + 1)).countP _ = _
  rw [List.range_succ, List.countP_append, List.countP_singleton]
  have e1 : (S.make c z g).eld S.made = S.made := by
    show (S.grown c z g).eld S.made = S.made
    rw [eld_grown hw, if_pos rfl]
  rw [show decide ((S.make c z g).eld S.made = S.made) = true from decide_eq_true e1, if_pos rfl]
  congr 1
  refine List.countP_congr fun a ha => ?_
  have : (S.make c z g).eld a = S.eld a := by
    show (S.grown c z g).eld a = S.eld a
    rw [eld_grown hw, if_neg (by have := List.mem_range.mp ha; omega)]
  rw [this]
theorem new_ob {C : Addr} {H H1 : Hp} {x dx : Addr} {S : RS} {a : RA} (nx : H x = none) (ndx : H dx = none) (k1 : ∀ b o, upd (upd H dx (.own x)) x (.ins C dx []) b = some o → b ≠ x → H1 b = some o) (ho : ∀ b, a.own x b → b = x ∨ upd (upd H dx (.own x)) x (.ins C dx []) b = none) : Same H H1 ∧ ∀ b, a.own x b → H b = none := by
  refine ⟨fun b o e => k1 b o ?_ (ne_of_none e nx), fun b hb => ?_⟩
  · rw [upd_ne (ne_of_none e nx), upd_ne (ne_of_none e ndx)]; exact e
  · rcases ho b hb with rfl | q
    · exact nx
    · by_cases h1 : b = x
      · rw [h1]; exact nx
      · by_cases h2 : b = dx
        · rw [h2]; exact ndx
        · rw [upd_ne h1, upd_ne h2] at q; exact q
theorem cut_to (xs : List V) (n : Nat) : cutV xs none (some (n : Int)) = xs.take n := by
  unfold cutV
  rw [HT.sIx_none, HT.sIx_nat, List.drop_zero, Nat.sub_zero]
  rcases Nat.le_total n xs.length with q | q
  · rw [Nat.min_eq_left q]
  · rw [Nat.min_eq_right q, List.take_length, List.take_of_length_le q]
theorem cut_from (xs : List V) (n : Nat) (h : n ≤ xs.length) : cutV xs (some (n : Int)) none = xs.drop n := by
  unfold cutV
  rw [HT.sIx_none, HT.sIx_nat, Nat.min_eq_left h]
  exact List.take_of_length_le (by rw [List.length_drop]; exact Nat.le_refl _)
structure RI (C : Addr) (H : Hp) (L M B : Nat) (r : Addr) (S : RS) (a : RA) (R : Nat → Int → Nat → Prop) : Prop where
  rm : RoomsAt C H r S a
  g : Good S [] R
  ks : ∀ a z b, R a z b → z ∈ stL (2 * L)
  l : S.L = L
  m : S.made ≤ M
  m1 : 1 ≤ S.made
  rw_ : S.rows.length + S.stand ≤ B
  wn : S.went.length + S.stand ≤ B
  fl : FlR S.rows
theorem RI.same {C : Addr} {H H' : Hp} {L M B : Nat} {r : Addr} {S : RS} {a : RA} {R : Nat → Int → Nat → Prop} (h : RI C H L M B r S a R) (s : Same H H') : RI C H' L M B r S a R :=
  ⟨h.rm.same s, h.g, h.ks, h.l, h.m, h.m1, h.rw_, h.wn, h.fl⟩
theorem RI.up {C : Addr} {H : Hp} {L M B M' B' : Nat} {r : Addr} {S : RS} {a : RA} {R : Nat → Int → Nat → Prop} (h : RI C H L M B r S a R) (h1 : M ≤ M') (h2 : B ≤ B') : RI C H L M' B' r S a R :=
  ⟨h.rm, h.g, h.ks, h.l, Nat.le_trans h.m h1, h.m1, Nat.le_trans h.rw_ h2, Nat.le_trans h.wn h2, h.fl⟩
theorem radd_ks {R : Nat → Int → Nat → Prop} {L c d : Nat} {z : Int} (hk : ∀ a z b, R a z b → z ∈ stL (2 * L)) (hz : z ≠ 0 ∧ z.natAbs ≤ L) : ∀ a' z' e', RAdd R c z d a' z' e' → z' ∈ stL (2 * L) := by
  rintro a' z' e' (h | ⟨_, rfl, _⟩ | ⟨_, rfl, _⟩)
  · exact hk _ _ _ h
  · exact stL_mem.mpr hz
  · exact stL_mem.mpr ⟨by omega, by omega⟩
theorem lay_ri {C x : Addr} {H : Hp} {L M B : Nat} {S : RS} {a : RA} {R : Nat → Int → Nat → Prop} {t : Addr} {c b : Nat} {s : Int} (z : Int) (ki : RI C H L M B x S a R) (hM : M ≤ 1000) (hB : B ≤ 10000) (hL3 : L ≤ 3) (hc1 : c < S.made) (hb1 : b < S.made) (hs : s ≠ 0 ∧ s.natAbs ≤ L) (nt : H t = none)
    : ∃ (row : Dt) (I : RS → List Way → Prop) (μ : RS → List Way → Nat), RoomsAt C (upd H t (.tup [.str (tx [115, 97, 105, 100]), .int z])) x S a ∧ S.rows.length ≤ 1000000 ∧ DtAt (upd H t (.tup [.str (tx [115, 97, 105, 100]), .int z])) 1 (.ref t) row ∧ NoL row ∧ I { S with rows := S.rows ++ [row] } [(c, s, b)] ∧ (∀ S pend w, I S (pend ++ [w]) → TakeOk S ∧ w.1 < S.made ∧ w.2.2 < S.made ∧ pend.length ≤ 1000000 ∧ I (S.takeIn pend w).1 (S.takeIn pend w).2 ∧ μ (S.takeIn pend w).1 (S.takeIn pend w).2 < μ S (pend ++ [w])) ∧
      ∀ S' a' H', RoomsAt C H' x S' a' → I S' [] → RI C H' L M (B + 1) x S' a' (RAdd R c s b) ∧ S'.made = S.made := by
  have s9 := Same.upd (o := .tup [.str (tx [115, 97, 105, 100]), .int z]) nt
  have ht9 : upd H t (.tup [.str (tx [115, 97, 105, 100]), .int z]) t = some (.tup [.str (tx [115, 97, 105, 100]), .int z]) := upd_same
  have ki9 := ki.same s9
  have hks := radd_ks (c := c) (d := b) ki.ks hs
  generalize upd H t (.tup [.str (tx [115, 97, 105, 100]), .int z]) = H9 at s9 ht9 ki9 ⊢
  have hstl : (stL (2 * L)).length ≤ 6 := by rw [stL_len]; omega
  have hsd := stand_le S
  have hrw := ki.rw_
  have hwn := ki.wn
  have hm := ki.m
  refine ⟨.t [.s [115, 97, 105, 100], .i z], LayI (RAdd R c s b) S.made L (B + 1) (mu (stL (2 * L)).length S [(c, s, b)]) (stL (2 * L)), mu (stL (2 * L)).length, ki9.rm, by omega, ?_, ?_, ⟨ki.g.lay s hc1 hb1 _, rfl, ki.l, ?_, ?_, Nat.le_refl _, ki.fl.snoc (flat_at _)⟩, layI_step hks (by omega) (by omega) (by omega) ?_, fun S' a' H10 h10 i10 => ?_⟩
  · refine .t ht9 rfl fun j v dd e1 e2 => ?_
    rcases j with _ | _ | j
    · simp at e1 e2; subst e1 e2; exact .s
    · simp at e1 e2; subst e1 e2; exact .i
    · simp at e1
  · refine .t (by show 2 ≤ 100000; decide) fun dd hdd => ?_
    simp only [List.mem_cons, List.not_mem_nil, or_false] at hdd
    rcases hdd with rfl | rfl
    · exact .s
    · exact .i
  · show (S.rows ++ [_]).length + S.stand ≤ B + 1
    rw [List.length_append, List.length_singleton]; omega
  · show S.went.length + S.stand ≤ B + 1
    omega
  · unfold mu
    have : S.stand * ((stL (2 * L)).length + 1) ≤ 1000 * 7 := Nat.mul_le_mul (by omega) (by omega)
    have e1 : ([(c, s, b)] : List Way).length = 1 := rfl
    omega
  obtain ⟨g', m', l', r', w', _, f'⟩ := i10
  exact ⟨⟨h10, g', hks, l', by omega, by have := ki.m1; omega, by omega, by omega, f'⟩, m'⟩
theorem make_ri {C x : Addr} {H : Hp} {L M B : Nat} {S : RS} {a : RA} {R : Nat → Int → Nat → Prop} {c : Nat} {s : Int} (ki : RI C H L M B x S a R) (hL3 : L ≤ 3) (hc1 : c < S.made) (hc2 : S.eld c = c) (hby : S.by c s = none) (hs : s ≠ 0 ∧ s.natAbs ≤ L)
    : (∀ l ∈ S.ways, l.length ≤ 100000) ∧ ∀ a' H', RoomsAt C H' x (S.make c s (stL (2 * S.L))) a' → RI C H' L (M + 1) (B + 2) x (S.make c s (stL (2 * S.L))) a' (RAdd R c s S.made) := by
  have hm := ki.m
  have hrw := ki.rw_
  have hwn := ki.wn
  have hstl : (stL (2 * L)).length ≤ 6 := by rw [stL_len]; omega
  refine ⟨fun q hq => ?_, fun a' H16 h16 => ?_⟩
  · obtain ⟨j, hj⟩ := List.getElem?_of_mem hq
    have : S.way j = q := by unfold RS.way; rw [List.getD_eq_getElem?_getD, hj]; rfl
    rw [← this]
    exact Nat.le_trans (ki.g.wayLen ki.ks j) (by omega)
  refine ⟨h16, ki.g.make hc1 hc2 hby (stL (2 * S.L)), radd_ks ki.ks hs, ki.l, by show S.made + 1 ≤ M + 1; omega, by show 1 ≤ S.made + 1; omega, ?_, ?_, ki.fl.snoc (flat_new _ _ _)⟩
  · rw [stand_make ki.g.wf]
    show (S.rows ++ [_]).length + (S.stand + 1) ≤ B + 2
    rw [List.length_append, List.length_singleton]; omega
  · rw [stand_make ki.g.wf]
    show S.went.length + (S.stand + 1) ≤ B + 2
    omega
def pt (pts : List Nat) (a : Nat) : Nat := pts.getD a 0
theorem pt_at {pts : List Nat} {a : Nat} (h : a < pts.length) : pts[a]? = some (pt pts a) := by
  unfold pt
  rw [List.getD_eq_getElem?_getD, List.getElem?_eq_getElem h]; rfl
theorem pt_of {pts : List Nat} {a x : Nat} (h : pts[a]? = some x) : pt pts a = x := by
  unfold pt
  rw [List.getD_eq_getElem?_getD, h]; rfl
theorem pt_app {pts : List Nat} {a : Nat} (t : List Nat) (h : a < pts.length) : pt (pts ++ t) a = pt pts a := by
  unfold pt
  rw [List.getD_eq_getElem?_getD, List.getD_eq_getElem?_getD, List.getElem?_append_left h]
theorem pt_new (pts : List Nat) (y : Nat) : pt (pts ++ [y]) pts.length = y := by
  unfold pt
  rw [List.getD_eq_getElem?_getD, List.getElem?_append_right (Nat.le_refl _), Nat.sub_self]; rfl
structure BP (S : RS) (R : Nat → Int → Nat → Prop) (rows : List (List Int)) (p : Nat) (pts : List Nat) : Prop where
  len : pts.length = S.made
  lt : ∀ x ∈ pts, x < p
  r : ∀ a z b, R a z b → sf rows (pt pts a) z = pt pts b
def JR (R : Nat → Int → Nat → Prop) (n : Nat) (pts : List Nat) : Prop := ∀ a b, a < n → b < n → pt pts a = pt pts b → Cg R a b
theorem JR.mono {R R' : Nat → Int → Nat → Prop} {n : Nat} {pts : List Nat} (h : JR R n pts) (hr : ∀ a z b, R a z b → R' a z b) : JR R' n pts := fun a b ha hb e => (h a b ha hb e).mono hr
def Fd (R : Nat → Int → Nat → Prop) (pts : List Nat) (q : Nat) (z : Int) : Prop := ∃ c d, R c z d ∧ pt pts c = q
theorem Fd.mono {R R' : Nat → Int → Nat → Prop} {pts : List Nat} {q : Nat} {z : Int} (t : List Nat) (h : Fd R pts q z) (hr : ∀ a z b, R a z b → R' a z b) (hl : ∀ a z b, R a z b → a < pts.length) : Fd R' (pts ++ t) q z := by
  obtain ⟨c, d, e1, e2⟩ := h
  exact ⟨c, d, hr _ _ _ e1, by rw [pt_app t (hl _ _ _ e1)]; exact e2⟩
theorem cg_pt {R : Nat → Int → Nat → Prop} {rows : List (List Int)} {pts : List Nat} (hr : ∀ a z b, R a z b → sf rows (pt pts a) z = pt pts b) {a b : Nat} (c : Cg R a b) : pt pts a = pt pts b := by
  induction c with
  | refl => rfl
  | symm _ ih => exact ih.symm
  | trans _ _ i1 i2 => exact i1.trans i2
  | step r1 r2 _ ih => rw [← hr _ _ _ r1, ← hr _ _ _ r2, ih]
section
variable {S : RS} {R : Nat → Int → Nat → Prop} {rows : List (List Int)} {p : Nat} {pts : List Nat}
theorem eld_pt (g : Good S [] R) (b : BP S R rows p pts) {a : Nat} (ha : a < S.made) : pt pts (S.eld a) = pt pts a := (cg_pt b.r (g.cg a ha)).symm
theorem by_none (g : Good S [] R) (b : BP S R rows p pts) (j : JR R S.made pts) {a : Nat} {z : Int} (ha : a < S.made) (h : S.by (S.eld a) z = none) : ¬ Fd R pts (pt pts a) z := by
  rintro ⟨c, d, r, e⟩
  have hc := (g.rl _ _ _ r).1
  have e1 : S.eld c = S.eld a := (g.fin hc ha).mpr (j c a hc ha e)
  have := g.by_iff.mpr ⟨c, d, r, e1, rfl⟩
  rw [h] at this; cases this
theorem by_some (g : Good S [] R) (b : BP S R rows p pts) {a d : Nat} {z : Int} (ha : a < S.made) (h : S.by (S.eld a) z = some d) : Fd R pts (pt pts a) z := by
  obtain ⟨c', d', r, e1, e2⟩ := g.so _ _ _ h
  refine ⟨c', d', r, ?_⟩
  have hc := (g.rl _ _ _ r).1
  rw [← eld_pt g b hc, e1, eld_pt g b ha]
theorem by_all (g : Good S [] R) (b : BP S R rows p pts) (j : JR R S.made pts) {a : Nat} {z : Int} (ha : a < S.made) (h : Fd R pts (pt pts a) z) : ∃ d, S.by (S.eld a) z = some d := by
  cases e : S.by (S.eld a) z with
  | some d => exact ⟨d, rfl⟩
  | none => exact absurd h (by_none g b j ha e)
theorem by_pt (g : Good S [] R) (b : BP S R rows p pts) {c d : Nat} {z : Int} (h : S.by c z = some d) : pt pts d = sf rows (pt pts c) z := by
  obtain ⟨c', d', r, e1, e2⟩ := g.so _ _ _ h
  have hc := g.rl _ _ _ r
  rw [← e1, ← e2, eld_pt g b hc.1, eld_pt g b hc.2.1, b.r _ _ _ r]
theorem BP.lay (g : Good S [] R) (b : BP S R rows p pts) (hpm : ∀ r ∈ rows, M11.Pm p r) {S' : RS} (e : S'.made = S.made) {c d : Nat} {z : Int} (hc : c < S.made) (hz : z ≠ 0 ∧ z.natAbs ≤ rows.length) (hd : pt pts d = sf rows (pt pts c) z) : BP S' (RAdd R c z d) rows p pts := by
  refine ⟨b.len.trans e.symm, b.lt, ?_⟩
  rintro a' z' b' (h | ⟨rfl, rfl, rfl⟩ | ⟨rfl, rfl, rfl⟩)
  · exact b.r _ _ _ h
  · exact hd.symm
  · rw [hd]
    have hx : pt pts b' < p := b.lt _ (List.mem_of_getElem? (pt_at (by rw [b.len]; exact hc)))
    exact (sf_ok hpm hx hz.1 hz.2).2
theorem BP.make (g : Good S [] R) (b : BP S R rows p pts) (hpm : ∀ r ∈ rows, M11.Pm p r) {c : Nat} {z : Int} {gp : List Int} (hc : c < S.made) (hz : z ≠ 0 ∧ z.natAbs ≤ rows.length) : BP (S.make c z gp) (RAdd R c z S.made) rows p (pts ++ [sf rows (pt pts c) z]) := by
  have hx : pt pts c < p := b.lt _ (List.mem_of_getElem? (pt_at (by rw [b.len]; exact hc)))
  have ho := sf_ok hpm hx hz.1 hz.2
  have hl : ∀ a, a < S.made → pt (pts ++ [sf rows (pt pts c) z]) a = pt pts a := fun a ha => pt_app _ (by rw [b.len]; exact ha)
  have hn : pt (pts ++ [sf rows (pt pts c) z]) S.made = sf rows (pt pts c) z := by rw [← b.len]; exact pt_new _ _
  refine ⟨by rw [List.length_append, b.len]; rfl, fun x hx' => ?_, ?_⟩
  · rcases List.mem_append.mp hx' with q | q
    · exact b.lt x q
    · rw [List.mem_singleton.mp q]; exact ho.1
  rintro a' z' b' (h | ⟨rfl, rfl, rfl⟩ | ⟨rfl, rfl, rfl⟩)
  · rw [hl _ (g.rl _ _ _ h).1, hl _ (g.rl _ _ _ h).2.1]
    exact b.r _ _ _ h
  · rw [hl _ hc, hn]
  · rw [hl _ hc, hn]; exact ho.2
theorem JR.fresh (len : pts.length = S.made) (j : JR R S.made pts) {y : Nat} (hy : y ∉ pts) : JR R (S.made + 1) (pts ++ [y]) := fun a b ha hb e => by
  have hl : ∀ a, a < S.made → pt (pts ++ [y]) a = pt pts a := fun a ha => pt_app _ (by rw [len]; exact ha)
  have hn : pt (pts ++ [y]) S.made = y := by rw [← len]; exact pt_new _ _
  by_cases h1 : a = S.made
  · by_cases h2 : b = S.made
    · rw [h1, h2]; exact .refl _
    · rw [h1, hn, hl b (by omega)] at e
      exact absurd (by rw [e]; exact List.mem_of_getElem? (pt_at (by omega))) hy
  · by_cases h2 : b = S.made
    · rw [h2, hn, hl a (by omega)] at e
      exact absurd (by rw [← e]; exact List.mem_of_getElem? (pt_at (by omega))) hy
    · rw [hl a (by omega), hl b (by omega)] at e
      exact j a b (by omega) (by omega) e
theorem JR.two (len : pts.length = S.made) (j : JR R S.made pts) {y c d : Nat} {z : Int} (hd : d < S.made) (ed : pt pts d = y) (r1 : R c z S.made) (r2 : R c z d) : JR R (S.made + 1) (pts ++ [y]) := fun a b ha hb e => by
  have hl : ∀ a, a < S.made → pt (pts ++ [y]) a = pt pts a := fun a ha => pt_app _ (by rw [len]; exact ha)
  have hn : pt (pts ++ [y]) S.made = y := by rw [← len]; exact pt_new _ _
  have hc : Cg R S.made d := .step r1 r2 (.refl c)
  by_cases h1 : a = S.made
  · by_cases h2 : b = S.made
    · rw [h1, h2]; exact .refl _
    · rw [h1, hn, hl b (by omega)] at e
      rw [h1]
      exact .trans hc (j d b hd (by omega) (ed.trans e))
  · by_cases h2 : b = S.made
    · rw [h2, hn, hl a (by omega)] at e
      rw [h2]
      exact .trans (j a d (by omega) hd (e.trans ed.symm)) (.symm hc)
    · rw [hl a (by omega), hl b (by omega)] at e
      exact j a b (by omega) (by omega) e
end
theorem cells_le {l : List (Nat × Int)} {L p : Nat} (hL : L ≤ 3) (hn : l.Nodup) (h : ∀ x ∈ l, x.1 < p ∧ x.2 ∈ stL (2 * L)) : l.length ≤ 8 * p := by
  have e : (l.map fun x => 8 * x.1 + (x.2 + 4).toNat).length = l.length := List.length_map ..
  rw [← e]
  refine M11.nodup_len (8 * p) _ ?_ fun y hy => ?_
  · refine List.pairwise_map.mpr (List.Pairwise.imp_of_mem ?_ hn)
    intro a b ha hb hab z
    have h1 := stL_mem.mp (h a ha).2
    have h2 := stL_mem.mp (h b hb).2
    exact hab (Prod.ext (by omega) (by omega))
  · obtain ⟨x, hx, rfl⟩ := List.mem_map.mp hy
    have h1 := stL_mem.mp (h x hx).2
    have h2 := (h x hx).1
    omega
structure BI (C : Addr) (H : Hp) (L p : Nat) (rows : List (List Int)) (r : Addr) (S : RS) (a : RA) (R : Nat → Int → Nat → Prop) (pts : List Nat) (l : List (Nat × Int)) : Prop where
  nd : l.Nodup
  fd : ∀ x ∈ l, Fd R pts x.1 x.2 ∧ x.1 < p ∧ x.2 ∈ stL (2 * L)
  ri : RI C H L (l.length + 1) (3 * l.length + 1) r S a R
  bp : BP S R rows p pts
  j : JR R S.made pts
theorem BI.same {C : Addr} {H H' : Hp} {L p : Nat} {rows : List (List Int)} {r : Addr} {S : RS} {a : RA} {R : Nat → Int → Nat → Prop} {pts : List Nat} {l : List (Nat × Int)} (h : BI C H L p rows r S a R pts l) (s : Same H H') : BI C H' L p rows r S a R pts l := ⟨h.nd, h.fd, h.ri.same s, h.bp, h.j⟩
theorem BI.cap {C : Addr} {H : Hp} {L p : Nat} {rows : List (List Int)} {r : Addr} {S : RS} {a : RA} {R : Nat → Int → Nat → Prop} {pts : List Nat} {l : List (Nat × Int)} (h : BI C H L p rows r S a R pts l) (hL : L ≤ 3) : l.length ≤ 8 * p := cells_le hL h.nd fun x hx => (h.fd x hx).2
theorem BI.rl {C : Addr} {H : Hp} {L p : Nat} {rows : List (List Int)} {r : Addr} {S : RS} {a : RA} {R : Nat → Int → Nat → Prop} {pts : List Nat} {l : List (Nat × Int)} (h : BI C H L p rows r S a R pts l) : ∀ a z b, R a z b → a < pts.length := fun a z b e => by rw [h.bp.len]; exact (h.ri.g.rl a z b e).1
structure BM (C : Addr) (H : Hp) (L p : Nat) (rows : List (List Int)) (r : Addr) (S S1 : RS) (a : RA) (R R1 : Nat → Int → Nat → Prop) (pts pts1 : List Nat) (n : Nat) (c y : Nat) (z : Int) : Prop where
  ri : RI C H L (n + 2) (3 * n + 3) r S1 a R1
  bp : BP S1 R1 rows p pts1
  sub : ∀ a z b, R a z b → R1 a z b
  pre : ∃ t, pts1 = pts ++ t
  mm : S.made ≤ S1.made
  j : ∀ R2 : Nat → Int → Nat → Prop, (∀ a z b, R1 a z b → R2 a z b) → (y ∉ pts ∨ ∃ d, d < S.made ∧ pt pts d = y ∧ R2 c z d) → JR R2 S1.made pts1
  fd : y ∉ pts → ∃ d, R1 c z d
theorem BI.stay {C : Addr} {H : Hp} {L p : Nat} {rows : List (List Int)} {r : Addr} {S : RS} {a : RA} {R : Nat → Int → Nat → Prop} {pts : List Nat} {l : List (Nat × Int)} (h : BI C H L p rows r S a R pts l) (c : Nat) (z : Int) {y : Nat} (hy : y ∈ pts) : BM C H L p rows r S S a R R pts pts l.length c y z :=
  ⟨h.ri.up (by omega) (by omega), h.bp, fun _ _ _ e => e, ⟨[], (List.append_nil _).symm⟩, Nat.le_refl _, fun R2 s _ => h.j.mono s, fun e => absurd hy e⟩
theorem BI.made {C : Addr} {H H' : Hp} {L p : Nat} {rows : List (List Int)} {r : Addr} {S : RS} {a a' : RA} {R : Nat → Int → Nat → Prop} {pts : List Nat} {l : List (Nat × Int)} (h : BI C H L p rows r S a R pts l) (hpm : ∀ r ∈ rows, M11.Pm p r) (eL : rows.length = L) {c : Nat} {z : Int} (hc : c < S.made) (hz : z ≠ 0 ∧ z.natAbs ≤ L) (h' : RI C H' L (l.length + 2) (3 * l.length + 3) r (S.make c z (stL (2 * S.L))) a' (RAdd R c z S.made)) : BM C H' L p rows r S (S.make c z (stL (2 * S.L))) a' R (RAdd R c z S.made) pts (pts ++ [sf rows (pt pts c) z]) l.length c (sf rows (pt pts c) z) z := by
  refine ⟨h', h.bp.make h.ri.g hpm hc (by rw [eL]; exact hz), radd_sub, ⟨_, rfl⟩, Nat.le_succ _, fun R2 s q => ?_, fun _ => ⟨_, radd_new⟩⟩
  have j2 : JR R2 S.made pts := h.j.mono fun a z b e => s _ _ _ (radd_sub _ _ _ e)
  rcases q with q | ⟨d, hd, ed, rd⟩
  · exact JR.fresh h.bp.len j2 q
  · exact JR.two h.bp.len j2 hd ed (s _ _ _ radd_new) rd
theorem BI.next {C : Addr} {H H' : Hp} {L p : Nat} {rows : List (List Int)} {r : Addr} {S S2 : RS} {a a2 : RA} {R R1 R2 : Nat → Int → Nat → Prop} {pts pts1 : List Nat} {l : List (Nat × Int)} {c at_ : Nat} {z : Int} (h : BI C H L p rows r S a R pts l) (hsub : ∀ a z b, R a z b → R1 a z b) (hpre : ∃ t, pts1 = pts ++ t) (hat : at_ < S.made) (hz : z ≠ 0 ∧ z.natAbs ≤ L) (eb : S.by (S.eld at_) z = none) (ec : c = S.eld at_)
    (ri : RI C H' L (l.length + 2) (3 * l.length + 4) r S2 a2 R2) (bp : BP S2 R2 rows p pts1) (s2 : ∀ a z b, R1 a z b → R2 a z b) (j2 : JR R2 S2.made pts1) (hf : ∃ d, R2 c z d) :
    BI C H' L p rows r S2 a2 R2 pts1 ((pt pts at_, z) :: l) ∧ ∀ q z', Fd R pts q z' → Fd R2 pts1 q z' := by
  have hcm : c < S.made := by rw [ec]; exact h.ri.g.lt hat
  obtain ⟨t, et⟩ := hpre
  have mono : ∀ q z', Fd R pts q z' → Fd R2 pts1 q z' := fun q z' f => by
    rw [et]
    exact f.mono t (fun a z b e => s2 _ _ _ (hsub _ _ _ e)) h.rl
  have hpp : pt pts1 c = pt pts at_ := by rw [et, pt_app t (by rw [h.bp.len]; exact hcm), ec]; exact eld_pt h.ri.g h.bp hat
  refine ⟨⟨List.nodup_cons.mpr ⟨fun q => by_none h.ri.g h.bp h.j hat eb (h.fd _ q).1, h.nd⟩, fun x hx => ?_, ?_, bp, j2⟩, mono⟩
  · rcases List.mem_cons.mp hx with rfl | hx
    · obtain ⟨d, hd⟩ := hf
      exact ⟨⟨c, d, hd, hpp⟩, h.bp.lt _ (List.mem_of_getElem? (pt_at (by rw [h.bp.len]; exact hat))), stL_mem.mpr hz⟩
    · exact ⟨mono _ _ (h.fd x hx).1, (h.fd x hx).2⟩
  · exact ri.up (by rw [List.length_cons]; omega) (by rw [List.length_cons]; omega)
def fS (rows : List (List Int)) (k x : Nat) : Nat := sf rows x (M12.st k)
def byF (S : RS) (k c : Nat) : Nat := (S.by c (M12.st k)).getD 0
def spNumbered (C : Addr) : Sp := fun vs H Q _ => ∃ (r : Addr) (S : RS) (a : RA) (Z : Nat → Prop), vs = [.ref r] ∧ RoomsAt C H r S a ∧ 1 ≤ S.L ∧ S.L ≤ 40 ∧ S.made ≤ 300 ∧ S.ways.length = S.made ∧ Z 0 ∧ (∀ c, Z c → c < S.made ∧ ∀ k, k < 2 * S.L → ∃ d, S.by c (M12.st k) = some d ∧ Z d) ∧
  ∀ l N H', Same H H' → H l = none → TabAt H' l (M24.tabO (byF S) (2 * S.L) (M24.orb (byF S) (2 * S.L) 0 N)) → (M24.orb (byF S) (2 * S.L) 0 N).length = N → Q (.ref l) H'
def spOrbit : Sp := fun vs H Q _ => ∃ (a : Addr) (rows : List (List Int)) (p x : Nat), vs = [.ref a, .int rows.length, .int x] ∧ TabAt H a rows ∧ 1 ≤ rows.length ∧ rows.length ≤ 40 ∧ p ≤ 300 ∧ (∀ r ∈ rows, M11.Pm p r) ∧ x < p ∧
  ∀ l N H', Same H H' → H' l = some (.lst (intV (nI (M24.orb (fS rows) (2 * rows.length) x N)))) → (M24.orb (fS rows) (2 * rows.length) x N).length = N → Q (.ref l) H'
def spBuilt (K : PySem.W.Frag) (C : Addr) : Sp := fun vs H Q _ => ∃ (sa a : Addr) (ns : List Int) (rows : List (List Int)) (p x : Nat), vs = [.ref sa, .ref a, .int rows.length, .int x] ∧ SqL K H sa (intV ns) ∧ TabAt H a rows ∧ 1 ≤ rows.length ∧ rows.length ≤ 3 ∧ p ≤ 6 ∧ (∀ r ∈ rows, M11.Pm p r) ∧ x < p ∧
  ∀ r S a R pts H', Same H H' → RI C H' rows.length 50 200 r S a R → BP S R rows p pts → JR R S.made pts → pt pts 0 = x → (∀ i, i < S.made → ∀ z, z ∈ stL (2 * rows.length) → Fd R pts (pt pts i) z) → Q (.ref r) H'
def spSame : Sp := fun vs H Q _ => ∃ (a b : Addr) (T : List (List Int)), vs = [.ref a, .ref b] ∧ TabAt H a T ∧ TabAt H b T ∧ Q (.bl true) H
def NumD (kvs : List (Key × V)) (found : List Nat) : Prop := kvs.length ≤ found.length ∧ ∀ c : Nat, valV kvs (Sum.inl (c : Int)) = if c ∈ found then some (V.int (M24.ix found c : Int)) else none
theorem NumD.one : NumD [(Sum.inl 0, .int 0)] [0] := ⟨Nat.le_refl _, fun c => by
  by_cases h : c = 0
  · subst h; rfl
  · rw [if_neg (fun q => h (List.mem_singleton.mp q))]
    show valV (putK [] (Sum.inl 0) (.int 0)) (Sum.inl (c : Int)) = none
    rw [valV_put, if_neg (fun q => by injection q with q; omega)]; rfl⟩
theorem NumD.put {kvs : List (Key × V)} {found : List Nat} {c : Nat} (h : NumD kvs found) (nd : found.Nodup) (hc : c ∉ found) : NumD (putK kvs (Sum.inl (c : Int)) (.int (found.length : Int))) (found ++ [c]) := by
  have hn : (found ++ [c]).Nodup := by
    rw [List.nodup_append]
    exact ⟨nd, by simp, fun a ha b hb => by rw [List.mem_singleton.mp hb]; exact fun z => hc (by rw [← z]; exact ha)⟩
  refine ⟨?_, fun c' => ?_⟩
  · have := length_putK kvs (Sum.inl (c : Int)) (.int (found.length : Int))
    have := h.1
    rw [List.length_append, List.length_singleton]; omega
  rw [valV_put]
  by_cases e : c' = c
  · subst e
    rw [if_pos rfl, if_pos (List.mem_append_right _ List.mem_cons_self), M24.ix_new hc]
  · rw [if_neg (fun q => e (by injection q with q; omega)), h.2]
    by_cases hm : c' ∈ found
    · rw [if_pos hm, if_pos (List.mem_append_left _ hm), M24.ix_app hn hm]
    · rw [if_neg hm, if_neg (fun q => (List.mem_append.mp q).elim hm fun q => e (List.mem_singleton.mp q))]
structure NS (H0 H : Hp) (lf d lr : Addr) (ts : List Addr) (kvs : List (Key × V)) (found : List Nat) (Tb : List (List Int)) : Prop where
  same : Same H0 H
  f1 : H lf = some (.lst (intV (nI found)))
  d1 : H d = some (.dK kvs)
  nm : NumD kvs found
  r1 : H lr = some (.lst (ts.map V.ref))
  r2 : RowsAt H ts Tb
  un : (lf :: lr :: ts).Nodup
  new : ∀ x ∈ lf :: lr :: ts, H0 x = none
  dn : H0 d = none
section
variable {H0 H H' : Hp} {lf d lr : Addr} {ts : List Addr} {kvs : List (Key × V)} {found : List Nat} {Tb : List (List Int)}
theorem NS.more (h : NS H0 H lf d lr ts kvs found Tb) (s : Same H H') : NS H0 H' lf d lr ts kvs found Tb :=
  ⟨h.same.trans s, s _ _ h.f1, s _ _ h.d1, h.nm, s _ _ h.r1, h.r2.same s, h.un, h.new, h.dn⟩
theorem NS.ne (h : NS H0 H lf d lr ts kvs found Tb) : lf ≠ lr ∧ lf ∉ ts ∧ lr ∉ ts ∧ ts.Nodup := by
  have h1 := List.nodup_cons.mp h.un
  have h2 := List.nodup_cons.mp h1.2
  refine ⟨fun e => h1.1 (by rw [e]; exact List.mem_cons_self), fun e => h1.1 (List.mem_cons_of_mem _ e), h2.1, h2.2⟩
theorem NS.add (h : NS H0 H lf d lr ts kvs found Tb) (nd : found.Nodup) {c : Nat} (hc : c ∉ found) : NS H0 (upd (upd H d (.dK (putK kvs (Sum.inl (c : Int)) (.int (found.length : Int))))) lf (.lst (intV (nI found) ++ [.int (c : Int)]))) lf d lr ts (putK kvs (Sum.inl (c : Int)) (.int (found.length : Int))) (found ++ [c]) Tb := by
  obtain ⟨a1, a2, a3, a4⟩ := h.ne
  have dl : ∀ b xs, H b = some (.lst xs) → b ≠ d := fun b xs e => ne_of e h.d1 (by intro z; cases z)
  refine ⟨fun b o e => ?_, ?_, ?_, h.nm.put nd hc, ?_, ⟨h.r2.1, fun i q ns h1 h2 => ?_⟩, h.un, h.new, h.dn⟩
  · rw [upd_ne (ne_of_none e (h.new lf List.mem_cons_self)), upd_ne (ne_of_none e h.dn)]; exact h.same _ _ e
  · rw [upd_same, nI_app, ints_app]; rfl
  · rw [upd_ne (Ne.symm (dl lf _ h.f1)), upd_same]
  · rw [upd_ne (Ne.symm a1), upd_ne (dl lr _ h.r1)]; exact h.r1
  · have hq := h.r2.2 i q ns h1 h2
    rw [upd_ne (fun e => a2 (by rw [← e]; exact List.mem_of_getElem? h1)), upd_ne (dl q _ hq)]; exact hq
theorem NS.row (h : NS H0 H lf d lr ts kvs found Tb) {q : Addr} {row : List Int} (hq : H q = some (.lst (intV row))) (hn : H0 q = none) (ho : q ∉ lf :: lr :: ts) : NS H0 (upd H lr (.lst ((ts ++ [q]).map V.ref))) lf d lr (ts ++ [q]) kvs found (Tb ++ [row]) := by
  obtain ⟨a1, a2, a3, a4⟩ := h.ne
  simp only [List.mem_cons, not_or] at ho
  obtain ⟨b1, b2, b3⟩ := ho
  refine ⟨fun b o e => ?_, ?_, ?_, h.nm, upd_same, ?_, ?_, fun x hx => ?_, h.dn⟩
  · rw [upd_ne (ne_of_none e (h.new lr (List.mem_cons_of_mem _ List.mem_cons_self)))]; exact h.same _ _ e
  · rw [upd_ne a1]; exact h.f1
  · rw [upd_ne (ne_of h.d1 h.r1 (by intro z; cases z))]; exact h.d1
  · refine RowsAt.but (w := lr) (h.r2.snoc hq) But.upd ?_
    intro z
    rcases List.mem_append.mp z with z | z
    · exact a3 z
    · exact b2 (List.mem_singleton.mp z).symm
  · rw [← List.cons_append, ← List.cons_append, List.nodup_append]
    refine ⟨h.un, by simp, fun a ha b hb => ?_⟩
    rw [List.mem_singleton.mp hb]
    intro z
    rw [z] at ha
    simp only [List.mem_cons] at ha
    rcases ha with e | e | e
    · exact b1 e
    · exact b2 e
    · exact b3 e
  · rw [← List.cons_append, ← List.cons_append] at hx
    rcases List.mem_append.mp hx with hx | hx
    · exact h.new x hx
    · rw [List.mem_singleton.mp hx]; exact hn
end
def sameL (pts : List Nat) (y : Nat) : List Nat := (List.range pts.length).filter fun c => decide (pts[c]? = some y)
theorem same_mem {pts : List Nat} {y c : Nat} : c ∈ sameL pts y ↔ c < pts.length ∧ pt pts c = y := by
  unfold sameL
  rw [List.mem_filter, List.mem_range, decide_eq_true_iff]
  constructor
  · rintro ⟨h1, h2⟩
    exact ⟨h1, pt_of h2⟩
  · rintro ⟨h1, h2⟩
    exact ⟨h1, by rw [pt_at h1, h2]⟩
theorem same_nil {pts : List Nat} {y : Nat} : sameL pts y = [] ↔ y ∉ pts := by
  constructor
  · intro h hy
    obtain ⟨i, hi⟩ := List.getElem?_of_mem hy
    have := same_mem.mpr ⟨(List.getElem?_eq_some_iff.mp hi).1, pt_of hi⟩
    rw [h] at this; cases this
  · intro h
    cases e : sameL pts y with
    | nil => rfl
    | cons c l =>
      have := same_mem.mp (show c ∈ sameL pts y by rw [e]; exact List.mem_cons_self)
      exact absurd (by rw [← this.2]; exact List.mem_of_getElem? (pt_at this.1)) h
theorem comp_eq {H : Hp} {tt : TT} {te : TE} {fv : St} {Q : VK} (pts : List Nat) (y : Nat) (hm : pts.length ≤ 1000) (ht : ∀ (i q : Nat) (Rr : Bool → Hp → Prop), pts[i]? = some q → Rr (decide (V.int (q : Int) = V.int (y : Int))) H → tt (some (.int (0 + (i : Int))) :: fv) H Rr)
    (he : ∀ (i : Nat) (Rr : VK), Rr (.int (0 + (i : Int))) H → te (some (.int (0 + (i : Int))) :: fv) H Rr) (k : ∀ D, H D = none → Q (.ref D) (upd H D (.lst (intV (nI (sameL pts y)))))) : CompGoIf tt te fv Q (Itr 0 pts.length) H := by
  refine ⟨fun i m ys H2 => m = pts.length - i ∧ i ≤ pts.length ∧ ys = intV (nI ((List.range i).filter fun c => decide (pts[c]? = some y))) ∧ H2 = H, ⟨pts.length, by simp, Nat.zero_le _, rfl, rfl⟩, ?_⟩
  rintro i m ys H2 ⟨rfl, hi, rfl, rfl⟩
  have hlen : (intV (nI ((List.range i).filter fun c => decide (pts[c]? = some y)))).length ≤ i := by
    rw [ints_len, nI_len]
    exact Nat.le_trans (List.length_filter_le _ _) (by rw [List.length_range]; exact Nat.le_refl _)
  by_cases hlt : i < pts.length
  · refine .inr ⟨hlt, ?_, fun x H3 hyl => ?_⟩
    · exact Nat.lt_of_le_of_lt (Nat.le_trans hlen (show i ≤ 100000 by omega)) (by decide)
    obtain ⟨rfl, rfl⟩ := hyl
    have hE : pts[i]? = some pts[i] := List.getElem?_eq_getElem hlt
    generalize pts[i] = q at hE
    refine ht i q _ hE ?_
    by_cases hei : q = y
    · subst hei
      rw [show decide (V.int (q : Int) = V.int (q : Int)) = true from decide_eq_true rfl]
      refine he i _ ⟨pts.length - (i + 1), by omega, rfl, hlt, ?_, rfl⟩
      rw [List.range_succ, List.filter_append, List.filter_cons_of_pos (by rw [hE]; exact decide_eq_true rfl), List.filter_nil, nI_app, ints_app, Int.zero_add]; rfl
    · rw [show decide (V.int (q : Int) = V.int (y : Int)) = false from decide_eq_false (fun z => hei (by injection z with z; omega))]
      refine ⟨pts.length - (i + 1), by omega, rfl, hlt, ?_, rfl⟩
      rw [List.range_succ, List.filter_append, List.filter_cons_of_neg (by rw [hE]; intro z; exact hei (Option.some.inj (of_decide_eq_true z))), List.filter_nil, List.append_nil]
  · have e : i = pts.length := by omega
    subst e
    exact .inl ⟨Nat.le_refl _, Nat.le_trans hlen (Nat.le_trans (show pts.length ≤ 100000 by omega) (by decide)), fun D hD => k D hD⟩
structure HB (H0 H : Hp) (r lp : Addr) (a : RA) (pts : List Nat) : Prop where
  pl : H lp = some (.lst (intV (nI pts)))
  no : ¬ a.own r lp
  same : Same H0 H
  own : ∀ b, a.own r b → H0 b = none
  nlp : H0 lp = none
section
variable {H0 H H' : Hp} {r lp : Addr} {a a' : RA} {pts : List Nat}
theorem HB.more (h : HB H0 H r lp a pts) (s : Same H H') : HB H0 H' r lp a pts := ⟨s _ _ h.pl, h.no, h.same.trans s, h.own, h.nlp⟩
theorem keep_no {x : Addr} {o : HO} (hx : H x = some o) (no : ¬ a.own r x) (ow : ∀ b, a'.own r b → a.own r b ∨ H b = none) : ¬ a'.own r x := fun q => by
  rcases ow x q with q | q
  · exact no q
  · rw [hx] at q; cases q
theorem HB.op (h : HB H0 H r lp a pts) (b : ButO a r H H') (ow : ∀ b, a'.own r b → a.own r b ∨ H b = none) : HB H0 H' r lp a' pts := by
  refine ⟨b _ _ h.no h.pl, keep_no h.pl h.no ow, fun x o e => b x o (fun q => by rw [h.own x q] at e; cases e) (h.same _ _ e), fun x q => ?_, h.nlp⟩
  rcases ow x q with q | q
  · exact h.own x q
  · exact h.same.free q
theorem HB.push (h : HB H0 H r lp a pts) (y : Nat) : HB H0 (upd H lp (.lst (intV (nI pts) ++ [.int (y : Int)]))) r lp a (pts ++ [y]) := by
  refine ⟨by rw [upd_same, nI_app, ints_app]; rfl, h.no, fun x o e => ?_, h.own, h.nlp⟩
  rw [upd_ne (ne_of_none e h.nlp)]; exact h.same _ _ e
theorem RI.off {C : Addr} {L M B : Nat} {S : RS} {R : Nat → Int → Nat → Prop} {xs : List V} {o : HO} (h : RI C H L M B r S a R) (hx : H lp = some (.lst xs)) (no : ¬ a.own r lp) : RI C (upd H lp o) L M B r S a R := by
  refine ⟨h.rm.keep (fun b o' hb e => ?_) (fun b ys e => ?_), h.g, h.ks, h.l, h.m, h.m1, h.rw_, h.wn, h.fl⟩
  · rw [upd_ne (fun z => no (by rw [← z]; exact hb))]; exact e
  · rw [upd_ne (ne_of e hx (by intro z; cases z))]; exact e
end
structure FL (H : Hp) (r lp : Addr) (a : RA) (lw : Addr) (ws : List Int) : Prop where
  at_ : H lw = some (.lst (intV ws))
  no : ¬ a.own r lw
  ne : lw ≠ lp
section
variable {H H' : Hp} {r lp lw : Addr} {a a' : RA} {ws : List Int}
theorem FL.more (h : FL H r lp a lw ws) (s : Same H H') : FL H' r lp a lw ws := ⟨s _ _ h.at_, h.no, h.ne⟩
theorem FL.op (h : FL H r lp a lw ws) (b : ButO a r H H') (ow : ∀ b, a'.own r b → a.own r b ∨ H b = none) : FL H' r lp a' lw ws := ⟨b _ _ h.no h.at_, keep_no h.at_ h.no ow, h.ne⟩
theorem FL.push (h : FL H r lp a lw ws) {o : HO} : FL (upd H lp o) r lp a lw ws := ⟨by rw [upd_ne h.ne]; exact h.at_, h.no, h.ne⟩
end
abbrev WInv (C : Addr) (H0 : Hp) (sa ta r lp : Addr) (rows : List (List Int)) (p x : Nat) (n : Nat) (σ : St) (H' : Hp) : Prop := ∃ (S : RS) (a : RA) (R : Nat → Int → Nat → Prop) (pts : List Nat) (l : List (Nat × Int)) (cnt : Nat) (v8 v9 v10 v11 v12 v13 : Option V), σ = [some (.ref sa), some (.ref ta), some (.int rows.length), some (.int x), some (.ref r), some (.ref lp), some (.int (n : Int)), some (.int (cnt : Int)), v8, v9, v10, v11, v12, v13] ∧ BI C H' rows.length p rows r S a R pts l ∧ HB H0 H' r lp a pts ∧ n ≤ pts.length ∧ pt pts 0 = x ∧ cnt ≤ 6 * n ∧ ∀ i, i < n → ∀ z, z ∈ stL (2 * rows.length) → Fd R pts (pt pts i) z
abbrev FInv (C : Addr) (H0 : Hp) (sa ta r lp lw : Addr) (rows : List (List Int)) (p x : Nat) (n : Nat) (v8 v9 : Option V) (ws : List Int) (i : Nat) (σ : St) (H' : Hp) : Prop := ∃ (S : RS) (a : RA) (R : Nat → Int → Nat → Prop) (pts : List Nat) (l : List (Nat × Int)) (cnt : Nat) (v10 v11 v12 v13 : Option V), σ = [some (.ref sa), some (.ref ta), some (.int rows.length), some (.int x), some (.ref r), some (.ref lp), some (.int (n : Int)), some (.int (cnt : Int)), v8, v9, v10, v11, v12, v13] ∧ BI C H' rows.length p rows r S a R pts l ∧ HB H0 H' r lp a pts ∧ n < pts.length ∧ pt pts 0 = x ∧ cnt ≤ 6 * n + i ∧ (∀ i, i < n → ∀ z, z ∈ stL (2 * rows.length) → Fd R pts (pt pts i) z) ∧ FL H' r lp a lw ws ∧ ∀ j z, j < i → ws[j]? = some z → Fd R pts (pt pts n) z
abbrev MInv (C : Addr) (H0 : Hp) (sa ta r lp lw ls : Addr) (rows : List (List Int)) (p x : Nat) (n cnt : Nat) (v8 v9 : Option V) (ws : List Int) (S : RS) (R : Nat → Int → Nat → Prop) (pts : List Nat) (m c y : Nat) (z : Int) (σ : St) (H' : Hp) : Prop := ∃ (S1 : RS) (a : RA) (R1 : Nat → Int → Nat → Prop) (pts1 : List Nat), σ = [some (.ref sa), some (.ref ta), some (.int rows.length), some (.int x), some (.ref r), some (.ref lp), some (.int (n : Int)), some (.int (cnt : Int)), v8, v9, some (.int z), some (.int (c : Int)), some (.int (y : Int)), some (.ref ls)] ∧ BM C H' rows.length p rows r S S1 a R R1 pts pts1 m c y z ∧ HB H0 H' r lp a pts1 ∧ FL H' r lp a lw ws ∧ FL H' r lp a ls (nI (sameL pts y))
theorem fin_next {C : Addr} {H0 H' : Hp} {sa ta r lp lw : Addr} {rows : List (List Int)} {p x n i cnt : Nat} {v8 v9 v10 v11 v12 v13 : Option V} {ws : List Int} {z : Int} {S2 : RS} {a2 : RA} {R R2 : Nat → Int → Nat → Prop} {pts pts1 : List Nat} {l : List (Nat × Int)} (hlt : n < pts.length) (h0 : pt pts 0 = x) (hcnt : cnt ≤ 6 * n + i) (hfu : ∀ i, i < n → ∀ z, z ∈ stL (2 * rows.length) → Fd R pts (pt pts i) z) (hdo : ∀ j z, j < i → ws[j]? = some z → Fd R pts (pt pts n) z) (hz : ws[i]? = some z) (hpre : ∃ t, pts1 = pts ++ t)
    (bi : BI C H' rows.length p rows r S2 a2 R2 pts1 ((pt pts n, z) :: l)) (mono : ∀ q z', Fd R pts q z' → Fd R2 pts1 q z') (hb : HB H0 H' r lp a2 pts1) (hF : FL H' r lp a2 lw ws) :
    FInv C H0 sa ta r lp lw rows p x n v8 v9 ws (i + 1) [some (.ref sa), some (.ref ta), some (.int rows.length), some (.int x), some (.ref r), some (.ref lp), some (.int (n : Int)), some (.int ((cnt + 1 : Nat) : Int)), v8, v9, v10, v11, v12, v13] H' := by
  obtain ⟨t, et⟩ := hpre
  have e : ∀ j, j < pts.length → pt pts1 j = pt pts j := fun j hj => by rw [et]; exact pt_app t hj
  refine ⟨S2, a2, R2, pts1, _, cnt + 1, v10, v11, v12, v13, rfl, bi, hb, by rw [et, List.length_append]; omega, by rw [e 0 (by omega)]; exact h0, by omega, fun j hj z' hz' => ?_, hF, fun j z' hj ez => ?_⟩
  · rw [e j (by omega)]; exact mono _ _ (hfu j hj z' hz')
  · rw [e n hlt]
    by_cases hji : j = i
    · subst hji
      rw [hz] at ez
      obtain rfl := Option.some.inj ez
      exact (bi.fd _ List.mem_cons_self).1
    · exact mono _ _ (hdo j z' (by omega) ez)
theorem yard_z {C : Addr} {H : Hp} {M B p : Nat} {r : Addr} {S : RS} {a : RA} {R : Nat → Int → Nat → Prop} {rows : List (List Int)} {pts : List Nat} (ri : RI C H rows.length M B r S a R) (bp : BP S R rows p pts) (j : JR R S.made pts) (full : ∀ i, i < S.made → ∀ z, z ∈ stL (2 * rows.length) → Fd R pts (pt pts i) z) :
    ∀ c, (c < S.made ∧ S.eld c = c) → c < S.made ∧ ∀ k, k < 2 * rows.length → ∃ d, S.by c (M12.st k) = some d ∧ (d < S.made ∧ S.eld d = d) := by
  rintro c ⟨h1, h2⟩
  refine ⟨h1, fun k hk => ?_⟩
  obtain ⟨d, hd⟩ := by_all ri.g bp j h1 (full c h1 (M12.st k) (stL_mem.mpr (M12.st_ok hk)))
  rw [h2] at hd
  have := ri.g.st _ _ _ hd
  exact ⟨d, hd, this.2.1, this.2.2.2⟩
theorem yard_tab {C : Addr} {H : Hp} {M B p x : Nat} {r : Addr} {S : RS} {a : RA} {R : Nat → Int → Nat → Prop} {rows : List (List Int)} {pts : List Nat} (ri : RI C H rows.length M B r S a R) (bp : BP S R rows p pts) (j : JR R S.made pts) (full : ∀ i, i < S.made → ∀ z, z ∈ stL (2 * rows.length) → Fd R pts (pt pts i) z) (hx : pt pts 0 = x) {N N' : Nat}
    (hN : (M24.orb (byF S) (2 * rows.length) 0 N).length = N) (hN' : (M24.orb (fS rows) (2 * rows.length) x N').length = N') :
    M24.tabO (byF S) (2 * rows.length) (M24.orb (byF S) (2 * rows.length) 0 N) = M24.tabO (fS rows) (2 * rows.length) (M24.orb (fS rows) (2 * rows.length) x N') := by
  have hz := yard_z ri bp j full
  have h00 : S.eld 0 = 0 := by have := (ri.g.el 0 ri.m1).1; omega
  have inj : ∀ a b, (a < S.made ∧ S.eld a = a) → (b < S.made ∧ S.eld b = b) → pt pts a = pt pts b → a = b := fun a b ha hb e => by
    have := (ri.g.fin ha.1 hb.1).mpr (j a b ha.1 hb.1 e)
    rw [ha.2, hb.2] at this; exact this
  have cl : ∀ y i, (y < S.made ∧ S.eld y = y) → i < 2 * rows.length → (byF S i y < S.made ∧ S.eld (byF S i y) = byF S i y) := fun y i hy hi => by
    obtain ⟨d, e1, e2⟩ := (hz y hy).2 i hi
    unfold byF
    rw [e1]; exact e2
  have co : ∀ y i, (y < S.made ∧ S.eld y = y) → i < 2 * rows.length → pt pts (byF S i y) = fS rows i (pt pts y) := fun y i hy hi => by
    obtain ⟨d, e1, e2⟩ := (hz y hy).2 i hi
    unfold byF
    rw [e1]; exact by_pt ri.g bp e1
  have hmap := M24.orb_map (P := fun c => c < S.made ∧ S.eld c = c) inj cl co ⟨ri.m1, h00⟩ N
  rw [hx] at hmap
  have hl : (M24.orb (fS rows) (2 * rows.length) x N).length = N := by rw [← hmap, List.length_map]; exact hN
  have e := M24.orb_end hl hN'
  subst e
  rw [← hmap]
  have hP := M24.orb_all (P := fun c => c < S.made ∧ S.eld c = c) ⟨ri.m1, h00⟩ cl N
  refine (M24.tabO_map (M24.orb_nd _ _ _ N) ?_ (fun y hy i hi => ?_) (fun y hy i hi => co y i (hP y hy) hi)).symm
  · rw [hmap]; exact M24.orb_nd _ _ _ N
  · obtain ⟨q, hq⟩ := List.getElem?_of_mem hy
    exact M24.orb_closed (by have := (List.getElem?_eq_some_iff.mp hq).1; omega) hq hi
theorem st_pl {s : Int} (h : s ≠ 0) : M12.st (M11.pl s) = s := by
  unfold M11.pl M12.st
  split
  · rw [if_pos (by omega)]; omega
  · rw [if_neg (by omega)]; omega
section
variable {rows : List (List Int)} {p x N : Nat} (hpm : ∀ r ∈ rows, M11.Pm p r) (hx : x < p) (hN : (M24.orb (fS rows) (2 * rows.length) x N).length = N)
theorem tab_at {come : List Nat} {k i y : Nat} (hk : k < 2 * rows.length) (hy : come[i]? = some y) : M11.nx (M24.tabO (fS rows) (2 * rows.length) come) k i = M24.ix come (fS rows k y) := by
  unfold M11.nx M24.tabO
  rw [List.getD_eq_getElem?_getD (l := List.map _ come), List.getElem?_map, hy]
  show ((((List.range (2 * rows.length)).map fun i => ((M24.ix come (fS rows i y) : Nat) : Int))).getD k 0).toNat = _
  rw [List.getD_eq_getElem?_getD, List.getElem?_map, List.getElem?_range hk]
  rfl
include hpm hx hN in
theorem tab_step {k i y : Nat} (hk : k < 2 * rows.length) (hy : (M24.orb (fS rows) (2 * rows.length) x N)[i]? = some y) : (M24.orb (fS rows) (2 * rows.length) x N)[M11.nx (M24.tabO (fS rows) (2 * rows.length) (M24.orb (fS rows) (2 * rows.length) x N)) k i]? = some (fS rows k y) := by
  rw [tab_at hk hy]
  exact M24.ix_mem (M24.orb_nd _ _ _ N) (M24.orb_closed (by have := (List.getElem?_eq_some_iff.mp hy).1; omega) hy hk)
include hpm hx hN in
theorem tab_walk : ∀ (ws : List Int) {i y : Nat}, M11.Steps rows.length ws → (M24.orb (fS rows) (2 * rows.length) x N)[i]? = some y → (M24.orb (fS rows) (2 * rows.length) x N)[M11.walk (M24.tabO (fS rows) (2 * rows.length) (M24.orb (fS rows) (2 * rows.length) x N)) ws i]? = some (ws.foldl (sf rows) y)
  | [], i, y, _, hy => hy
  | s :: ws, i, y, hs, hy => by
    have h1 := hs s List.mem_cons_self
    have h2 := tab_step hpm hx hN (M11.pl_lt h1) hy
    have h3 : fS rows (M11.pl s) y = sf rows y s := by unfold fS; rw [st_pl h1.1]
    rw [h3] at h2
    exact tab_walk ws (fun t ht => hs t (List.mem_cons_of_mem _ ht)) h2
include hpm hx hN in
theorem tab_ok (hL1 : 1 ≤ rows.length) (hL2 : rows.length ≤ 40) (hp : p ≤ 300) : M11.Tab rows.length (M24.tabO (fS rows) (2 * rows.length) (M24.orb (fS rows) (2 * rows.length) x N)) := by
  have olt : ∀ z ∈ M24.orb (fS rows) (2 * rows.length) x N, z < p := M24.orb_all (P := fun z => z < p) hx (fun y i hy hi => (sf_ok hpm hy (M12.st_ok hi).1 (M12.st_ok hi).2).1) N
  have hle := M11.nodup_len p _ (M24.orb_nd _ _ _ N) olt
  have hpos : 1 ≤ (M24.orb (fS rows) (2 * rows.length) x N).length := by
    have : x ∈ M24.orb (fS rows) (2 * rows.length) x N := by
      obtain ⟨t, ht⟩ := M24.orb_pre (fS rows) (2 * rows.length) x 0 N
      rw [Nat.zero_add] at ht
      rw [ht]; exact List.mem_append_left _ List.mem_cons_self
    exact List.length_pos_of_mem this
  have hlen : (M24.tabO (fS rows) (2 * rows.length) (M24.orb (fS rows) (2 * rows.length) x N)).length = (M24.orb (fS rows) (2 * rows.length) x N).length := by unfold M24.tabO; rw [List.length_map]
  have hat : ∀ i, i < (M24.tabO (fS rows) (2 * rows.length) (M24.orb (fS rows) (2 * rows.length) x N)).length → ∃ y, (M24.orb (fS rows) (2 * rows.length) x N)[i]? = some y := fun i hi => ⟨_, List.getElem?_eq_getElem (by omega)⟩
  refine ⟨by omega, by omega, hL1, hL2, fun i r h => ?_, fun i k hi hk => ?_, fun i k hi hk => ?_, fun i k hi hk => ?_⟩
  · unfold M24.tabO at h
    rw [List.getElem?_map] at h
    cases e : (M24.orb (fS rows) (2 * rows.length) x N)[i]? with
    | none => rw [e] at h; cases h
    | some y =>
      rw [e] at h
      rw [← Option.some.inj h, List.length_map, List.length_range]
  · obtain ⟨y, hy⟩ := hat i hi
    refine ⟨_, by unfold M24.tabO; rw [List.getElem?_map, hy]; rfl, ?_⟩
    rw [tab_at hk hy, List.getElem?_map, List.getElem?_range hk]
    rfl
  · obtain ⟨y, hy⟩ := hat i hi
    have := (List.getElem?_eq_some_iff.mp (tab_step hpm hx hN hk hy)).1
    omega
  · obtain ⟨y, hy⟩ := hat i hi
    have h1 := tab_step hpm hx hN hk hy
    have h2 := tab_at (M11.flip_lt hk) h1
    rw [h2]
    have hs := M12.st_ok hk
    have : fS rows (M11.flip k) (fS rows k y) = y := by
      unfold fS
      rw [st_flip]
      exact (sf_ok hpm (olt y (List.mem_of_getElem? hy)) hs.1 hs.2).2
    rw [this]
    exact M24.ix_at (M24.orb_nd _ _ _ N) hy
end
abbrev DInv (H6 : Hp) (sa ta r lw lc ld : Addr) (pl : Bool) (m x : Nat) (rows : List (List Int)) (come : List Nat) (i : Nat) (σ : St) (H' : Hp) : Prop := ∃ (ts : List Addr) (v10 : Option V), σ = [some (.ref sa), some (.bl pl), some (.int m), some (.int (rows.length : Int)), some (.ref ta), some (.int (x : Int)), some (.ref r), some (.ref lw), some (.ref lc), some (.ref ld), v10, none, none, none, none, none] ∧ Same H6 H' ∧ H' ld = some (.lst (ts.map V.ref)) ∧ RowsAt H' ts ((M24.tabO (fS rows) (2 * rows.length) come).take i) ∧ ld ∉ ts
theorem ok__law_same (T : Txt K mg A) : FnOk P w K mg base CX0 2 A.f__law_same A.d__law_same ["_law_table", "_law_due"] spSame := by
  have G__law_whole : FnOk P w K mg base CX0 1 A.f__law_whole A.d__law_whole ["_law_found"] spWhole := ok__law_whole T
  refine T._law_same.F.ok sc__law_same (fun vs H Q E h => ?_) (fun cdv AA outer s H vs Q E hr h => ?_)
  · obtain ⟨a, b, W, rfl, _⟩ := h
    rfl
  · obtain ⟨a, b, W, rfl, hA, hB, k⟩ := h
    have hu2 := hu_of hr
    refine ⟨_, (pss_cons (ps_cut (ps_if (PW.pt (pw_or (pt_not (pt_val (pe_callB call_isi rfl T.z_isinstance PyProof.Rows.boot_isinstance (pa_cons (pv 0) (pa_cons (pe_bltn (v := .ty "list") rfl T.z_list PyProof.Rows.boot_list rfl) pa_nil))))) (pw_or1 (pt_cmpR op_ne (pe_callB call_len_seq rfl T.z_len PySem.boot_len (pa_cons (pv 0) pa_nil)) (pe_callB call_len_seq rfl T.z_len PySem.boot_len (pa_cons (pv 1) pa_nil)) (nomark _)))))
        (pss_one (ps_ret pe_bl))
        pss_nil))
      (pss_cons (ps_for PassesOwn.never rfl (pi_list (pv 0)) (pg_name (i := 2) sc__law_same.nd rfl (Or.inl rfl))
        (pss_cons (ps_if (pt_not (pt_val (pe_callB call_isi rfl T.z_isinstance PyProof.Rows.boot_isinstance (pa_cons (pv 2) (pa_cons (pe_bltn (v := .ty "list") rfl T.z_list PyProof.Rows.boot_list rfl) pa_nil)))))
          (pss_one (ps_ret pe_bl))
          pss_nil)
        (pss_one (ps_for PassesOwn.never rfl (pi_list (pv 2)) (pg_name (i := 3) sc__law_same.nd rfl (Or.inl rfl))
          (pss_one (ps_if (pt_not (pt_val (pe_call (G__law_whole) (hr.mono (by decide)) rfl T._law_whole.m T._law_whole.F.kp T._law_whole.b .nil pass0 (pa_cons (pv 3) pa_nil))))
            (pss_one (ps_ret pe_bl))
            pss_nil))))))
      (pss_one (ps_ret (pe_cmpR (op_eqLL hu2) (pv 0) (pv 1) (nomark _)))))), ?_⟩
    obtain ⟨ps, hps, hpw⟩ := id hA
    obtain ⟨qs, hqs, hqw⟩ := id hB
    refine ⟨fun σ' H' => σ' = [some (.ref a), some (.ref b), none, none] ∧ H' = H, ?_, ?_⟩
    · refine ⟨_, rfl, _, _, _, _, rfl, .lst hps, kit_self _ _, true, rfl, iteF ?_⟩
      refine ⟨_, rfl, a, _, rfl, .inl (SqL.of hps), _, rfl, b, _, rfl, .inl (SqL.of hqs), rfl, _, rfl, ?_⟩
      refine ite2 (fun h => ?_) (fun _ => ⟨rfl, rfl⟩)
      have h' : (!decide (V.int ((ps.map V.ref).length : Int) = V.int ((qs.map V.ref).length : Int))) = true := h
      rw [List.length_map, List.length_map, hpw.1, hqw.1, decide_eq_true rfl] at h'
      cases h'
    rintro σ' H' ⟨rfl, rfl⟩
    refine ⟨_, rfl, a, rfl, ⟨_, SqL.of hps⟩, ?_⟩
    refine for_list (K := K) (a := a) (xs := ps.map V.ref) (fun i σ H2 => ∃ v2 v3 : Option V, σ = [some (.ref a), some (.ref b), v2, v3] ∧ H2 = H') ⟨none, none, rfl, rfl⟩ (fun i σ H2 _ ⟨_, _, _, e⟩ => by rw [e]; exact SqL.of hps) ?_ ?_
    · rintro i y σ H2 hi ⟨v2, v3, rfl, rfl⟩
      rw [List.getElem?_map] at hi
      have hil : i < ps.length := by
        cases e : ps[i]? with
        | none => rw [e] at hi; cases hi
        | some r => exact (List.getElem?_eq_some_iff.mp e).1
      have g1 : ps[i]? = some ps[i] := List.getElem?_eq_getElem hil
      rw [g1] at hi
      have ey : V.ref ps[i] = y := Option.some.inj hi
      subst ey
      generalize ps[i] = pp at g1
      have g2 : W[i]? = some (W[i]'(by rw [← hpw.1]; exact hil)) := List.getElem?_eq_getElem (by rw [← hpw.1]; exact hil)
      generalize W[i]'(by rw [← hpw.1]; exact hil) = ww at g2
      have hpp := hpw.2 i pp ww g1 g2
      refine ⟨_, rfl, _, _, _, _, rfl, .lst hpp, kit_self _ _, true, rfl, iteF ?_⟩
      refine ⟨_, rfl, pp, rfl, ⟨_, SqL.of hpp⟩, ?_⟩
      refine for_list (K := K) (a := pp) (xs := intV ww) (fun n σ H3 => ∃ v3 : Option V, σ = [some (.ref a), some (.ref b), some (.ref pp), v3] ∧ H3 = H2) ⟨_, rfl, rfl⟩ (fun n σ H3 _ ⟨_, _, e⟩ => by rw [e]; exact SqL.of hpp) ?_ ?_
      · rintro n y σ H3 hn ⟨v3, rfl, rfl⟩
        obtain ⟨z, rfl, hz⟩ := ints_of_at hn
        exact ⟨_, rfl, z, rfl, true, rfl, iteF ⟨_, rfl, rfl⟩⟩
      · rintro σ H3 ⟨v3, rfl, rfl⟩
        exact ⟨_, _, rfl, rfl⟩
    · rintro σ H2 ⟨v2, v3, rfl, rfl⟩
      refine ⟨_, rfl, _, rfl, a, b, W, W, rfl, rfl, hA, hB, ?_⟩
      rw [decide_eq_true rfl]
      exact k
theorem ok__law_orbit (T : Txt K mg A) : FnOk P w K mg base CX0 2 A.f__law_orbit A.d__law_orbit ["_law_turns", "_law_letters", "_law_first"] spOrbit := by
  have G__law_steps : FnOk P w K mg base CX0 1 A.f__law_steps A.d__law_steps ["_law_letters"] spSteps := ok__law_steps T
  have G__law_moved : FnOk P w K mg base CX0 1 A.f__law_moved A.d__law_moved ["_law_turns", "_law_point", "_law_word"] spMoved := ok__law_moved T
  refine T._law_orbit.F.ok sc__law_orbit (fun vs H Q E h => ?_) (fun cdv AA outer s H vs Q E hr h => ?_)
  · obtain ⟨l, rows, p, x, rfl, _⟩ := h
    rfl
  · obtain ⟨l, rows, p, x, rfl, hTa, hL1, hL2, hp2, hpm, hx, k⟩ := h
    refine ⟨_, (pss_cons (ps_set (i := 3) sc__law_orbit.nd rfl (Or.inl rfl) (pe_lst (pa_cons (pv 2) pa_nil)))
      (pss_cons (ps_set (i := 4) sc__law_orbit.nd rfl (Or.inl rfl) pe_int)
      (pss_cons (ps_cut (ps_while PassesOwn.never (pt_cmpR op_lt (pv 4) (pe_callB call_len_seq rfl T.z_len PySem.boot_len (pa_cons (pv 3) pa_nil)) (nomark _))
        (pss_cons (ps_for PassesOwn.never rfl (pi_list (pe_call (G__law_steps) (hr.mono (by decide)) rfl T._law_steps.m T._law_steps.F.kp T._law_steps.b .nil pass0 (pa_cons (pv 1) pa_nil))) (pg_name (i := 5) sc__law_orbit.nd rfl (Or.inl rfl))
          (pss_cons (ps_set (i := 6) sc__law_orbit.nd rfl (Or.inl rfl) (pe_call (G__law_moved) (hr.mono (by decide)) rfl T._law_moved.m T._law_moved.F.kp T._law_moved.b .nil pass0 (pa_cons (pv 0) (pa_cons (pe_ix ix_list (pv 3) (pv 4) (fun _ _ => rfl)) (pa_cons (pe_tup (pa_cons (pv 5) pa_nil)) pa_nil)))))
          (pss_one (ps_cut (ps_if (pt_cmpR op_NOTIN_l (pv 6) (pv 3) rfl)
            (pss_one (ps_expr (pe_bm PySem.F.plainAttrs_list PySem.F.slot_list_append PySem.F.type_list_append mt_append (pv 3) (pa_cons (pv 6) pa_nil))))
            pss_nil)))))
        (pss_one (ps_set (i := 4) sc__law_orbit.nd rfl (Or.inl rfl) (pe_op op_add (pv 4) pe_int))))))
      (pss_one (ps_ret (pv 3)))))), ?_⟩
    refine ⟨_, rfl, by show 1 ≤ sizeLine; decide, fun lc hlc => ?_⟩
    have s1 : Same H (upd H lc (.lst [.int x])) := Same.upd hlc
    have hc1 : upd H lc (.lst [.int x]) lc = some (.lst (intV (nI (M24.orb (fS rows) (2 * rows.length) x 0)))) := upd_same
    generalize upd H lc (.lst [.int x]) = H1 at s1 hc1 ⊢
    have olt : ∀ n, ∀ z ∈ M24.orb (fS rows) (2 * rows.length) x n, z < p := M24.orb_all hx fun y i hy hi => (sf_ok hpm hy (M12.st_ok hi).1 (M12.st_ok hi).2).1
    have olen : ∀ n, (M24.orb (fS rows) (2 * rows.length) x n).length ≤ p := fun n => M11.nodup_len p _ (M24.orb_nd _ _ _ n) (olt n)
    refine ⟨fun σ' H' => ∃ (N : Nat) (v4 v5 v6 : Option V), σ' = [some (.ref l), some (.int rows.length), some (.int x), some (.ref lc), v4, v5, v6] ∧ Same H H' ∧ H' lc = some (.lst (intV (nI (M24.orb (fS rows) (2 * rows.length) x N)))) ∧ (M24.orb (fS rows) (2 * rows.length) x N).length = N, ?_, ?_⟩
    · refine ⟨fun m σ H' => ∃ (n : Nat) (v5 v6 : Option V), m = p - n ∧ σ = [some (.ref l), some (.int rows.length), some (.int x), some (.ref lc), some (.int (n : Int)), v5, v6] ∧ Same H H' ∧ H' lc = some (.lst (intV (nI (M24.orb (fS rows) (2 * rows.length) x n)))) ∧ n ≤ (M24.orb (fS rows) (2 * rows.length) x n).length, ⟨_, 0, none, none, rfl, rfl, s1, hc1, Nat.zero_le _⟩, ?_⟩
      rintro m σ H5 ⟨n, v5, v6, rfl, rfl, s5, hc5, hn⟩
      have hop := olen n
      refine ⟨_, rfl, _, rfl, lc, _, rfl, .inl (SqL.of hc5), _, _, rfl, rfl, _, rfl, ?_⟩
      refine ite2 (fun h => ?_) (fun h => ?_)
      · have hlt : n < (M24.orb (fS rows) (2 * rows.length) x n).length := by
          have h' : (n : Int) < ((intV (nI (M24.orb (fS rows) (2 * rows.length) x n))).length : Int) := of_decide_eq_true h
          rw [ints_len, nI_len] at h'
          omega
        have hx5 := List.getElem?_eq_getElem hlt
        generalize (M24.orb (fS rows) (2 * rows.length) x n)[n] = xi at hx5
        have hxp : xi < p := olt n xi (List.mem_of_getElem? hx5)
        refine ⟨_, fun σ' H' h => h, ?_⟩
        refine ⟨_, rfl, rows.length, rfl, hL1, by omega, fun lS H8 s8 nS h8 => ?_⟩
        have S1 : lS ≠ lc := fun z => by rw [z, hc5] at nS; cases nS
        refine ⟨lS, rfl, ⟨_, SqL.of h8⟩, ?_⟩
        refine for_list (K := K) (a := lS) (xs := intV (stL (2 * rows.length))) (fun m σ H7 => ∃ (v5 v6 : Option V), σ = [some (.ref l), some (.int rows.length), some (.int x), some (.ref lc), some (.int (n : Int)), v5, v6] ∧ Same H H7 ∧ H7 lS = some (.lst (intV (stL (2 * rows.length)))) ∧ H7 lc = some (.lst (intV (nI (M24.addR (fS rows) xi (M24.orb (fS rows) (2 * rows.length) x n) m)))))
          ⟨v5, v6, rfl, s5.trans s8, h8, s8 _ _ hc5⟩ (fun i σ H7 _ ⟨_, _, _, _, hS, _⟩ => SqL.of hS) ?_ ?_
        · rintro m y σ H7 hm ⟨v5, v6, rfl, s7, hS7, hc7⟩
          have hm' : m < 2 * rows.length := by
            have := (List.getElem?_eq_some_iff.mp hm).1
            rw [ints_len, stL_len] at this
            exact this
          rw [ints_at (stL_at hm')] at hm
          have ey : V.int (M12.st m) = y := Option.some.inj hm
          subst ey
          have hst := M12.st_ok hm'
          obtain ⟨o1, o2⟩ := sf_ok hpm hxp hst.1 hst.2
          obtain ⟨t, ht⟩ := M24.addR_pre (fS rows) xi (M24.orb (fS rows) (2 * rows.length) x n) m
          have hxc : (M24.addR (fS rows) xi (M24.orb (fS rows) (2 * rows.length) x n) m)[n]? = some xi := by rw [ht, List.getElem?_append_left hlt]; exact hx5
          have hal : (M24.addR (fS rows) xi (M24.orb (fS rows) (2 * rows.length) x n) m).length ≤ p := M11.nodup_len p _ (M24.addR_nd (M24.orb_nd _ _ _ n) m) fun z hz => by
            rcases M24.mem_addR.mp hz with q | ⟨i, hi, rfl⟩
            · exact olt n z q
            · exact (sf_ok hpm hxp (M12.st_ok (show i < 2 * rows.length by omega)).1 (M12.st_ok (show i < 2 * rows.length by omega)).2).1
          refine ⟨_, rfl, _, rfl, _, rfl, lc, _, _, _, rfl, rfl, SqL.of hc7, atI_nat (ints_at (nI_get hxc)), _, rfl, by show 1 ≤ sizeLine; decide, fun wa hwa => ?_⟩
          have s78 : Same H7 (upd H7 wa (.tup [.int (M12.st m)])) := Same.upd hwa
          have hw8 : upd H7 wa (.tup [.int (M12.st m)]) wa = some (.tup (intV [M12.st m])) := upd_same
          generalize upd H7 wa (.tup [.int (M12.st m)]) = H9 at hw8 s78 ⊢
          have s9 := s7.trans s78
          have hc9 := s78 _ _ hc7
          refine ⟨l, wa, rows, p, xi, [M12.st m], rfl, hTa.same s9, hpm, hxp, by omega, hw8, fun s hs => by rw [List.mem_singleton.mp hs]; exact hst, by omega, ?_⟩
          rw [show List.foldl (sf rows) xi [M12.st m] = fS rows m xi from rfl]
          have hsu := M24.addR_succ (fS rows) xi (M24.orb (fS rows) (2 * rows.length) x n) m
          generalize M24.addR (fS rows) xi (M24.orb (fS rows) (2 * rows.length) x n) m = come at hsu hc9 hal
          rw [hsu]
          generalize fS rows m xi = o
          refine ⟨_, ?_, fun _ _ h => h⟩
          refine ⟨_, rfl, _, rfl, (o : Int), lc, nI come, rfl, rfl, hc9, _, rfl, ?_⟩
          have hmm : ((o : Int) ∈ nI come) ↔ o ∈ come := by
            unfold nI
            rw [List.mem_map]
            constructor
            · rintro ⟨q, hq, e⟩
              have : q = o := by omega
              rw [← this]; exact hq
            · exact fun h => ⟨o, h, rfl⟩
          by_cases hmo : o ∈ come
          · rw [decide_eq_true (hmm.mpr hmo)]
            refine iteF ⟨_, _, rfl, s9, s78 _ _ hS7, ?_⟩
            unfold M24.add
            rw [if_pos hmo]; exact hc9
          · rw [decide_eq_false (fun q => hmo (hmm.mp q))]
            refine iteT ?_
            refine ⟨_, rfl, .inl ⟨rfl, _, SqL.of hc9⟩, _, rfl, lc, _, _, rfl, rfl, hc9, ?_, ?_⟩
            · rw [ints_len, nI_len]
              exact Nat.lt_of_le_of_lt (show come.length ≤ 300 by omega) (by decide)
            refine ⟨_, _, rfl, fun b u e => ?_, ?_, ?_⟩
            · rw [upd_ne (ne_of_none e hlc)]; exact s9 _ _ e
            · rw [upd_ne S1]; exact s78 _ _ hS7
            · unfold M24.add
              rw [if_neg hmo, upd_same, nI_app, ints_app]; rfl
        · rintro σ H7 ⟨v5, v6, rfl, s7, hS7, hc7⟩
          rw [ints_len, stL_len, ← M24.orb_some hx5] at hc7
          refine ⟨_, rfl, _, _, rfl, rfl, p - (n + 1), by omega, n + 1, _, _, rfl, rfl, s7, hc7, ?_⟩
          obtain ⟨t, ht⟩ := M24.orb_pre1 (fS rows) (2 * rows.length) x n
          rw [ht, List.length_append]; omega
      · refine ⟨n, _, _, _, rfl, s5, hc5, ?_⟩
        have h' : ¬ (n : Int) < ((intV (nI (M24.orb (fS rows) (2 * rows.length) x n))).length : Int) := fun q => h (decide_eq_true q)
        rw [ints_len, nI_len] at h'
        omega
    rintro σ' H' ⟨N, v4, v5, v6, rfl, s', hc', hl'⟩
    exact ⟨_, rfl, k lc N H' s' hc' hl'⟩
theorem ok_numbered (T : Txt K mg A) : FnOk P w K mg base CX0 2 A.f_numbered A.d_numbered ["rooms"] (spNumbered A.c_Rooms) := by
  have G_steps_of : FnOk P w K mg base CX0 1 A.f_steps_of A.d_steps_of ["letters"] spStepsO := ok_steps_of T
  have G_Rooms_by : FnOk P w K mg base CX0 1 A.f_Rooms_by A.d_Rooms_by ["self", "room", "step"] (spRBy A.c_Rooms) := ok_Rooms_by T
  refine T.numbered.F.ok sc_numbered (fun vs H Q E h => ?_) (fun cdv AA outer s H vs Q E hr h => ?_)
  · obtain ⟨r, S, a, Z, rfl, _⟩ := h
    rfl
  · obtain ⟨r, S, a, Z, rfl, hR, hL1, hL2, hm, hw, hZ0, hZ, k⟩ := h
    have hu2 := hu_of hr
    refine ⟨_, (pss_cons (ps_set (i := 1) sc_numbered.nd rfl (Or.inl rfl) (pe_call (G_steps_of) (hr.mono (by decide)) rfl T.steps_of.m T.steps_of.F.kp T.steps_of.b .nil pass0 (pa_cons (pe_fld (pv 0) rfl) pa_nil)))
      (pss_cons (ps_set (i := 2) sc_numbered.nd rfl (Or.inr rfl) (pe_lst (pa_cons pe_int pa_nil)))
      (pss_cons (ps_set (i := 3) sc_numbered.nd rfl (Or.inr rfl) (pe_disp (pps_cons pe_int pe_int pps_nil) rfl rfl (by simp) (by decide)))
      (pss_cons (ps_set (i := 4) sc_numbered.nd rfl (Or.inr rfl) (pe_lst pa_nil))
      (pss_cons (ps_cut (ps_while PassesOwn.never (pt_cmpR op_lt (pe_callB call_len_seq rfl T.z_len PySem.boot_len (pa_cons (pv 4) pa_nil)) (pe_callB call_len_seq rfl T.z_len PySem.boot_len (pa_cons (pv 2) pa_nil)) (nomark _))
        (pss_cons (ps_setComp (iy := 5) sc_numbered.nd rfl (Or.inl rfl) (fns := ["rows", "rooms", "found"]) (ixs := [4, 0, 2]) (cl := _) rfl (pi_list (pv 1)) (compScope3 rfl rfl rfl rfl (by decide +kernel) rfl (by decide +kernel) rfl (by decide +kernel) (by decide +kernel) rfl rfl rfl rfl rfl rfl rfl rfl rfl rfl) (fun C s H ex => (pe_meth (pv 2) (cl_Rooms T) T.Rooms_by.m (G_Rooms_by) (hr.mono (by decide)) T.Rooms_by.b .nil pass0 (pa_cons (pe_ix (ix_listK (K := K) rfl) (pv 3) (pe_callB (call_len_seqK (K := K) rfl) rfl T.z_len PySem.boot_len (pa_cons (pv 1) pa_nil)) (fun _ _ => rfl)) (pa_cons (pv 0) pa_nil)))))
        (pss_cons (ps_for PassesOwn.never rfl (pi_list (pv 5)) (pg_name (i := 6) sc_numbered.nd rfl (Or.inl rfl))
          (pss_one (ps_cut (ps_if (pt_cmp (pc_dnotin hu2 (pv 6) (pv 3)))
            (pss_cons (ps_dput hu2 (pv 3) (pv 6) (pe_callB call_len_seq rfl T.z_len PySem.boot_len (pa_cons (pv 2) pa_nil)) rfl)
            (pss_one (ps_expr (pe_bm PySem.F.plainAttrs_list PySem.F.slot_list_append PySem.F.type_list_append mt_append (pv 2) (pa_cons (pv 6) pa_nil)))))
            pss_nil))))
        (pss_one (ps_expr (pe_bm PySem.F.plainAttrs_list PySem.F.slot_list_append PySem.F.type_list_append mt_append (pv 4) (pa_cons (pe_comp (fns := ["numbers"]) (ixs := [3]) (cl := _) rfl (pi_list (pv 5)) (compScope1 rfl rfl (by decide +kernel) rfl (by decide +kernel) rfl (by decide +kernel) (by decide +kernel) rfl rfl rfl rfl) (fun C s H ex => (pe_dget hu2 (pv 1) (pv 0) (fun _ _ => rfl)))) pa_nil))))))))
      (pss_one (ps_ret (pv 4)))))))), ?_⟩
    refine ⟨_, rfl, r, _, a.dx, _, _, rfl, hR.ins, cl_Rooms T, T.n_letters, lk_letters _ _ _, S.L, rfl, hL1, by omega, fun sl H1 s1 hs1 => ?_⟩
    refine ⟨by show 1 ≤ sizeLine; decide, fun lf hlf => ?_⟩
    have s2 := Same.upd (o := .lst [.int 0]) hlf
    have hf2 : upd H1 lf (.lst [.int 0]) lf = some (.lst (intV (nI [0]))) := upd_same
    generalize upd H1 lf (.lst [.int 0]) = H2 at s2 hf2 ⊢
    intro d hd
    refine ⟨upd_same, [(Sum.inl 0, .int 0)], rfl, by show 1 ≤ 15; decide, ?_⟩
    generalize hH3 : upd (upd H2 d (.dK [])) d _ = H3
    have hd3 : H3 d = some (.dK [(Sum.inl 0, .int 0)]) := by rw [← hH3, upd_same]; rfl
    have s3 : Same H2 H3 := fun b o e => by rw [← hH3, upd_ne (ne_of_none e hd), upd_ne (ne_of_none e hd)]; exact e
    clear hH3
    refine ⟨Nat.zero_le _, fun lr hlr => ?_⟩
    have s4 := Same.upd (o := .lst []) hlr
    have hr4 : upd H3 lr (.lst []) lr = some (.lst (([] : List Addr).map V.ref)) := upd_same
    generalize upd H3 lr (.lst []) = H4 at s4 hr4 ⊢
    have B4 : NS H1 H4 lf d lr [] [(Sum.inl 0, .int 0)] (M24.orb (byF S) (2 * S.L) 0 0) (M24.tabN (byF S) (2 * S.L) 0 0) := by
      have nlr : H2 lr = none := s3.free hlr
      have e : lf ≠ lr := fun z => by rw [← z, hf2] at nlr; cases nlr
      refine ⟨(s2.trans s3).trans s4, (s3.trans s4) _ _ hf2, s4 _ _ hd3, NumD.one, hr4, ⟨rfl, fun i r ns h1 => by simp at h1⟩, by simp [e], fun x hx => ?_, s2.free hd⟩
      simp only [List.mem_cons, List.not_mem_nil, or_false] at hx
      rcases hx with e | e
      · rw [e]; exact hlf
      · rw [e]; exact s2.free nlr
    clear s2 s3 s4 hf2 hd3 hr4 hlf hd hlr
    have hcl : ∀ y i, Z y → i < 2 * S.L → Z (byF S i y) := fun y i hy hi => by
      obtain ⟨d, e1, e2⟩ := (hZ y hy).2 i hi
      unfold byF
      rw [e1]; exact e2
    have oZ : ∀ n, ∀ z ∈ M24.orb (byF S) (2 * S.L) 0 n, Z z := M24.orb_all hZ0 hcl
    have olen : ∀ n, (M24.orb (byF S) (2 * S.L) 0 n).length ≤ 300 := fun n => Nat.le_trans (M11.nodup_len S.made _ (M24.orb_nd _ _ _ n) fun z hz => (hZ z (oZ n z hz)).1) hm
    refine ⟨fun σ' H' => ∃ (N : Nat) (ts : List Addr) (kvs : List (Key × V)) (v5 v6 : Option V), σ' = [some (.ref r), some (.ref sl), some (.ref lf), some (.ref d), some (.ref lr), v5, v6] ∧ NS H1 H' lf d lr ts kvs (M24.orb (byF S) (2 * S.L) 0 N) (M24.tabN (byF S) (2 * S.L) 0 N) ∧ (M24.orb (byF S) (2 * S.L) 0 N).length = N, ?_, ?_⟩
    · refine ⟨fun m σ H' => ∃ (n : Nat) (ts : List Addr) (kvs : List (Key × V)) (v5 v6 : Option V), m = 300 - n ∧ σ = [some (.ref r), some (.ref sl), some (.ref lf), some (.ref d), some (.ref lr), v5, v6] ∧ NS H1 H' lf d lr ts kvs (M24.orb (byF S) (2 * S.L) 0 n) (M24.tabN (byF S) (2 * S.L) 0 n) ∧ n ≤ (M24.orb (byF S) (2 * S.L) 0 n).length, ⟨_, 0, [], _, none, none, rfl, rfl, B4, Nat.zero_le _⟩, ?_⟩
      rintro m σ H5 ⟨n, ts, kvs, v5, v6, rfl, rfl, B5, hn⟩
      have hop := olen n
      have htl : ts.length = n := by
        rw [B5.r2.1]
        unfold M24.tabN
        rw [List.length_map, List.length_take]; omega
      refine ⟨_, rfl, lr, _, rfl, .inl (SqL.of B5.r1), _, rfl, lf, _, rfl, .inl (SqL.of B5.f1), _, _, rfl, rfl, _, rfl, ?_⟩
      refine ite2 (fun h => ?_) (fun h => ?_)
      · have hlt : n < (M24.orb (byF S) (2 * S.L) 0 n).length := by
          have h' : ((ts.map V.ref).length : Int) < ((intV (nI (M24.orb (byF S) (2 * S.L) 0 n))).length : Int) := of_decide_eq_true h
          rw [ints_len, nI_len, List.length_map, htl] at h'
          omega
        clear h
        have hx5 := List.getElem?_eq_getElem hlt
        generalize (M24.orb (byF S) (2 * S.L) 0 n)[n] = c at hx5
        have hcZ := oZ n c (List.mem_of_getElem? hx5)
        have hcm := (hZ c hcZ).1
        refine ⟨_, fun σ' H' h => h, ?_⟩
        have R5 : RoomsAt A.c_Rooms H5 r S a := hR.same (s1.trans B5.same)
        have hsl5 := B5.same _ _ hs1
        refine ⟨_, rfl, sl, rfl, ⟨_, SqL.of hsl5⟩, ?_⟩
        refine comp_pure (intV ((List.range (2 * S.L)).map M12.st)) (fun v => match v with | .int z => .int (((S.by c z).getD 0 : Nat) : Int) | v => v) (itl_go (SqL.of hsl5)) (itl_yld (SqL.of hsl5)) (itl_stop (SqL.of hsl5)) (by rw [ints_len, List.length_map, List.length_range]; exact Nat.le_trans (show 2 * S.L ≤ 1000 by omega) (by decide)) (fun i v hv Rr hRr => ?_) (fun lo nlo => ?_)
        · obtain ⟨z, rfl, hz⟩ := ints_of_at hv
          have hi : i < 2 * S.L := by
            have := (List.getElem?_eq_some_iff.mp hz).1
            rw [List.length_map, List.length_range] at this
            exact this
          have ez : M12.st i = z := Option.some.inj ((stL_at hi).symm.trans hz)
          obtain ⟨dd, e1, e2⟩ := (hZ c hcZ).2 i hi
          rw [ez] at e1
          refine ⟨_, rfl, r, a.dx, _, rfl, R5.ins, lk_none _ _ _ (by decide +kernel), _, rfl, _, rfl, lr, _, rfl, .inl (SqL.of B5.r1), lf, _, _, _, rfl, rfl, SqL.of B5.f1, (by rw [List.length_map, htl]; exact atI_nat (ints_at (nI_get hx5))), _, rfl, r, S, a, c, z, rfl, R5, by rw [hw]; exact hcm, ?_⟩
          have hRr : Rr (.int (((S.by c z).getD 0 : Nat) : Int)) H5 := hRr
          rw [e1] at hRr ⊢
          exact hRr
        have eo : (intV ((List.range (2 * S.L)).map M12.st)).map (fun v => match v with | .int z => V.int (((S.by c z).getD 0 : Nat) : Int) | v => v) = intV (nI ((List.range (2 * S.L)).map fun i => byF S i c)) := by
          unfold intV nI
          rw [List.map_map, List.map_map, List.map_map, List.map_map]
          rfl
        rw [eo]
        clear eo
        have s6 := Same.upd (o := .lst (intV (nI ((List.range (2 * S.L)).map fun i => byF S i c)))) nlo
        have ho6 : upd H5 lo (.lst (intV (nI ((List.range (2 * S.L)).map fun i => byF S i c)))) lo = some (.lst (intV (nI ((List.range (2 * S.L)).map fun i => byF S i c)))) := upd_same
        generalize upd H5 lo (.lst (intV (nI ((List.range (2 * S.L)).map fun i => byF S i c)))) = H6 at s6 ho6 ⊢
        have n1 : lo ≠ lf := fun z => by rw [z, B5.f1] at nlo; cases nlo
        have hod : ∀ i, i < 2 * S.L → ((List.range (2 * S.L)).map fun i => byF S i c)[i]? = some (byF S i c) := fun i hi => by rw [List.getElem?_map, List.getElem?_range hi]; rfl
        refine ⟨_, rfl, lo, rfl, ⟨_, SqL.of ho6⟩, ?_⟩
        refine for_list (K := K) (a := lo) (xs := intV (nI ((List.range (2 * S.L)).map fun i => byF S i c))) (fun i σ H7 => ∃ (kvs : List (Key × V)) (v6 : Option V), σ = [some (.ref r), some (.ref sl), some (.ref lf), some (.ref d), some (.ref lr), some (.ref lo), v6] ∧ NS H1 H7 lf d lr ts kvs (M24.addR (byF S) c (M24.orb (byF S) (2 * S.L) 0 n) i) (M24.tabN (byF S) (2 * S.L) 0 n) ∧ H7 lo = some (.lst (intV (nI ((List.range (2 * S.L)).map fun i => byF S i c))))) ⟨kvs, v6, rfl, B5.more s6, ho6⟩ (fun i σ H7 _ ⟨_, _, _, _, h⟩ => SqL.of h) ?_ ?_
        · rintro i y σ H7 hi ⟨kvs, v6, rfl, B7, ho7⟩
          have hi' : i < 2 * S.L := by
            have := (List.getElem?_eq_some_iff.mp hi).1
            rw [ints_len, nI_len, List.length_map, List.length_range] at this
            exact this
          rw [ints_at (nI_get (hod i hi'))] at hi
          have ey := Option.some.inj hi
          subst ey
          have hal : (M24.addR (byF S) c (M24.orb (byF S) (2 * S.L) 0 n) i).length ≤ 300 := Nat.le_trans (M11.nodup_len S.made _ (M24.addR_nd (M24.orb_nd _ _ _ n) i) fun z hz => by
            rcases M24.mem_addR.mp hz with q | ⟨j, hj, rfl⟩
            · exact (hZ z (oZ n z q)).1
            · exact (hZ _ (hcl c j hcZ (by omega))).1) hm
          have hnd : (M24.addR (byF S) c (M24.orb (byF S) (2 * S.L) 0 n) i).Nodup := M24.addR_nd (M24.orb_nd _ _ _ n) i
          have hsu := M24.addR_succ (byF S) c (M24.orb (byF S) (2 * S.L) 0 n) i
          generalize M24.addR (byF S) c (M24.orb (byF S) (2 * S.L) 0 n) i = come at hsu B7 hal hnd
          rw [hsu]
          clear hsu
          generalize byF S i c = o
          refine ⟨_, ?_, fun _ _ h => h⟩
          refine ⟨_, rfl, _, rfl, d, _, rfl, DGet.k (k := Sum.inl (o : Int)) B7.d1, _, rfl, ?_⟩
          rw [B7.nm.2 o]
          by_cases hmo : o ∈ come
          · rw [if_pos hmo]
            refine iteF ⟨kvs, _, rfl, ?_, ho7⟩
            unfold M24.add
            rw [if_pos hmo]; exact B7
          · rw [if_neg hmo]
            refine iteT ?_
            have B8 := B7.add hnd hmo
            have elen : ((intV (nI come)).length : Int) = (come.length : Int) := by rw [ints_len, nI_len]
            refine ⟨_, rfl, lf, _, rfl, .inl (SqL.of B7.f1), _, rfl, _, rfl, d, _, rfl, DPut.k (k := Sum.inl (o : Int)) B7.d1 (Nat.lt_of_le_of_lt (show kvs.length ≤ 300 by have := B7.nm.1; omega) (by decide)), ?_⟩
            have hfd : upd H7 d (.dK (putK kvs (Sum.inl (o : Int)) (.int ((intV (nI come)).length : Int)))) lf = some (.lst (intV (nI come))) := by rw [upd_ne (ne_of B7.f1 B7.d1 (by intro z; cases z))]; exact B7.f1
            refine ⟨_, rfl, .inl ⟨rfl, _, SqL.of hfd⟩, _, rfl, lf, _, _, rfl, rfl, hfd, ?_, ?_⟩
            · rw [ints_len, nI_len]
              exact Nat.lt_of_le_of_lt hal (by decide)
            rw [elen]
            refine ⟨putK kvs (Sum.inl (o : Int)) (.int (come.length : Int)), _, rfl, ?_, ?_⟩
            · unfold M24.add
              rw [if_neg hmo]; exact B8
            · rw [upd_ne n1, upd_ne (ne_of ho7 B7.d1 (by intro z; cases z))]; exact ho7
        · rintro σ H7 ⟨kvs, v6, rfl, B7, ho7⟩
          rw [ints_len, nI_len, List.length_map, List.length_range, ← M24.orb_some hx5] at B7
          have hlen1 := olen (n + 1)
          obtain ⟨t, ht⟩ := M24.orb_pre1 (byF S) (2 * S.L) 0 n
          have hnl : n + 1 ≤ (M24.orb (byF S) (2 * S.L) 0 (n + 1)).length := by rw [ht, List.length_append]; omega
          have hin : ∀ i, i < 2 * S.L → byF S i c ∈ M24.orb (byF S) (2 * S.L) 0 (n + 1) := fun i hi => by rw [M24.orb_some hx5]; exact M24.mem_addR.mpr (.inr ⟨i, hi, rfl⟩)
          refine ⟨_, rfl, .inl ⟨rfl, _, SqL.of B7.r1⟩, _, rfl, lo, rfl, ⟨_, SqL.of ho7⟩, ?_⟩
          refine comp_pure (intV (nI ((List.range (2 * S.L)).map fun i => byF S i c))) (fun v => match v with | .int z => .int ((M24.ix (M24.orb (byF S) (2 * S.L) 0 (n + 1)) z.toNat : Nat) : Int) | v => v) (itl_go (SqL.of ho7)) (itl_yld (SqL.of ho7)) (itl_stop (SqL.of ho7)) (by rw [ints_len, nI_len, List.length_map, List.length_range]; exact Nat.le_trans (show 2 * S.L ≤ 1000 by omega) (by decide)) (fun i v hv Rr hRr => ?_) (fun lq nlq => ?_)
          · obtain ⟨z, rfl, hz⟩ := ints_of_at hv
            have hi : i < 2 * S.L := by
              have := (List.getElem?_eq_some_iff.mp hz).1
              rw [nI_len, List.length_map, List.length_range] at this
              exact this
            have ez : ((byF S i c : Nat) : Int) = z := Option.some.inj ((nI_get (hod i hi)).symm.trans hz)
            subst ez
            have hRr : Rr (.int ((M24.ix (M24.orb (byF S) (2 * S.L) 0 (n + 1)) (((byF S i c : Nat) : Int)).toNat : Nat) : Int)) H7 := hRr
            rw [Int.toNat_natCast] at hRr
            refine ⟨_, rfl, _, rfl, d, _, rfl, ?_, hRr⟩
            have := DGet.k (k := Sum.inl ((byF S i c : Nat) : Int)) B7.d1
            rw [B7.nm.2, if_pos (hin i hi)] at this
            exact this
          have eo : (intV (nI ((List.range (2 * S.L)).map fun i => byF S i c))).map (fun v => match v with | .int z => V.int ((M24.ix (M24.orb (byF S) (2 * S.L) 0 (n + 1)) z.toNat : Nat) : Int) | v => v) = intV ((List.range (2 * S.L)).map fun i => ((M24.ix (M24.orb (byF S) (2 * S.L) 0 (n + 1)) (byF S i c) : Nat) : Int)) := by
            unfold intV nI
            rw [List.map_map, List.map_map, List.map_map, List.map_map]
            rfl
          rw [eo]
          clear eo
          have s8 := Same.upd (o := .lst (intV ((List.range (2 * S.L)).map fun i => ((M24.ix (M24.orb (byF S) (2 * S.L) 0 (n + 1)) (byF S i c) : Nat) : Int)))) nlq
          have hq8 : upd H7 lq (.lst (intV ((List.range (2 * S.L)).map fun i => ((M24.ix (M24.orb (byF S) (2 * S.L) 0 (n + 1)) (byF S i c) : Nat) : Int)))) lq = some (.lst (intV ((List.range (2 * S.L)).map fun i => ((M24.ix (M24.orb (byF S) (2 * S.L) 0 (n + 1)) (byF S i c) : Nat) : Int)))) := upd_same
          generalize upd H7 lq (.lst (intV ((List.range (2 * S.L)).map fun i => ((M24.ix (M24.orb (byF S) (2 * S.L) 0 (n + 1)) (byF S i c) : Nat) : Int)))) = H8 at s8 hq8 ⊢
          have nq : lq ∉ lf :: lr :: ts := by
            simp only [List.mem_cons, not_or]
            refine ⟨fun z => ?_, fun z => ?_, fun z => ?_⟩
            · rw [z, B7.f1] at nlq; cases nlq
            · rw [z, B7.r1] at nlq; cases nlq
            · obtain ⟨ns, e⟩ := rows_mem B7.r2 z
              rw [nlq] at e
              cases e
          have B8 := (B7.more s8).row hq8 (B7.same.free nlq) nq
          rw [← M24.tabN_succ hx5] at B8
          refine ⟨lr, _, _, rfl, rfl, s8 _ _ B7.r1, ?_, ?_⟩
          · rw [List.length_map, htl]
            exact Nat.lt_of_le_of_lt (show n ≤ 300 by omega) (by decide)
          rw [List.map_append] at B8
          exact ⟨300 - (n + 1), by omega, n + 1, ts ++ [lq], kvs, _, _, rfl, rfl, B8, hnl⟩
      · refine ⟨n, ts, kvs, _, _, rfl, B5, ?_⟩
        have h' : ¬ ((ts.map V.ref).length : Int) < ((intV (nI (M24.orb (byF S) (2 * S.L) 0 n))).length : Int) := fun q => h (decide_eq_true q)
        rw [ints_len, nI_len, List.length_map, htl] at h'
        omega
    rintro σ' H' ⟨N, ts, kvs, v5, v6, rfl, B', hN⟩
    refine ⟨_, rfl, k lr N H' (s1.trans B'.same) (s1.free (B'.new lr (List.mem_cons_of_mem _ List.mem_cons_self))) ⟨ts, B'.r1, ?_⟩ hN⟩
    rw [← M24.tabN_end hN]
    exact B'.r2
theorem ok__law_built (T : Txt K mg A) : FnOk P w K mg base CX0 5 A.f__law_built A.d__law_built ["_law_script", "_law_turns", "_law_letters", "_law_first"] (spBuilt K A.c_Rooms) := by
  have G_Rooms___init__ : FnOk P w K mg base CX0 3 A.f_Rooms___init__ A.d_Rooms___init__ ["self", "letters"] (spNew A.c_Rooms) := ok_Rooms___init__ T
  have G__law_steps : FnOk P w K mg base CX0 1 A.f__law_steps A.d__law_steps ["_law_letters"] spSteps := ok__law_steps T
  have G__law_cell_at : FnOk P w K mg base CX0 1 A.f__law_cell_at A.d__law_cell_at ["_law_script", "_law_k"] (spAt K) := ok__law_cell_at T
  have G_Rooms_elder : FnOk P w K mg base CX0 1 A.f_Rooms_elder A.d_Rooms_elder ["self", "room"] (spElder A.c_Rooms) := ok_Rooms_elder T
  have G__law_moved : FnOk P w K mg base CX0 1 A.f__law_moved A.d__law_moved ["_law_turns", "_law_point", "_law_word"] spMoved := ok__law_moved T
  have G_Rooms_by : FnOk P w K mg base CX0 1 A.f_Rooms_by A.d_Rooms_by ["self", "room", "step"] (spRBy A.c_Rooms) := ok_Rooms_by T
  have G_Rooms_make : FnOk P w K mg base CX0 3 A.f_Rooms_make A.d_Rooms_make ["self", "room", "step"] (spMake A.c_Rooms) := ok_Rooms_make T
  have G_Rooms_lay : FnOk P w K mg base CX0 4 A.f_Rooms_lay A.d_Rooms_lay ["self", "room", "step", "other", "row"] (spLay A.c_Rooms) := ok_Rooms_lay T
  refine T._law_built.F.ok sc__law_built (fun vs H Q E h => ?_) (fun cdv AA outer s H vs Q E hr h => ?_)
  · obtain ⟨sa, ta, ns, rows, p, x, rfl, _⟩ := h
    rfl
  · obtain ⟨sa, ta, ns, rows, p, x, rfl, hS, hTa, hL1, hL3, hp6, hpm, hx, k⟩ := h
    have hu := Nat.lt_of_succ_lt (hu_of hr)
    refine ⟨_, (pss_cons (ps_set (i := 4) sc__law_built.nd rfl (Or.inl rfl) (pe_make (mk_Rooms T) (G_Rooms___init__) (hr.mono (by decide)) rfl T.m_Rooms T.Rooms___init__.b .nil pass0 (pa_cons (pv 2) pa_nil)))
      (pss_cons (ps_set (i := 5) sc__law_built.nd rfl (Or.inr rfl) (pe_lst (pa_cons (pv 3) pa_nil)))
      (pss_cons (ps_set (i := 6) sc__law_built.nd rfl (Or.inl rfl) pe_int)
      (pss_cons (ps_set (i := 7) sc__law_built.nd rfl (Or.inl rfl) pe_int)
      (pss_cons (ps_cut (ps_while PassesOwn.never (pt_cmpR op_lt (pv 6) (pe_callB call_len_seq rfl T.z_len PySem.boot_len (pa_cons (pv 5) pa_nil)) (nomark _))
        (pss_cons (ps_set (i := 8) sc__law_built.nd rfl (Or.inl rfl) (pe_call (G__law_steps) (hr.mono (by decide)) rfl T._law_steps.m T._law_steps.F.kp T._law_steps.b .nil pass0 (pa_cons (pv 2) pa_nil)))
        (pss_cons (ps_cut (ps_set (i := 9) sc__law_built.nd rfl (Or.inl rfl) (pe_op op_mod (pe_call (G__law_cell_at) (hr.mono (by decide)) rfl T._law_cell_at.m T._law_cell_at.F.kp T._law_cell_at.b .nil pass0 (pa_cons (pv 0) (pa_cons (pe_op op_add pe_int (pv 6)) pa_nil))) (pe_callB call_len_seq rfl T.z_len PySem.boot_len (pa_cons (pv 8) pa_nil)))))
        (pss_cons (ps_cut (ps_set (i := 8) sc__law_built.nd rfl (Or.inl rfl) (pe_op op_cat (pe_slice sl_list (pv 8) (po_some (pv 9)) po_none) (pe_slice sl_list (pv 8) po_none (po_some (pv 9))))))
        (pss_cons (ps_for PassesOwn.never rfl (pi_list (pe_slice3 sl_revL (pv 8) po_none po_none (po_some (pe_un un_neg pe_int)))) (pg_name (i := 10) sc__law_built.nd rfl (Or.inl rfl))
          (pss_cons (ps_set (i := 11) sc__law_built.nd rfl (Or.inl rfl) (pe_meth (pv 4) (cl_Rooms T) T.Rooms_elder.m (G_Rooms_elder) (hr.mono (by decide)) T.Rooms_elder.b .nil pass0 (pa_cons (pv 6) pa_nil)))
          (pss_cons (ps_set (i := 7) sc__law_built.nd rfl (Or.inl rfl) (pe_op op_add (pv 7) pe_int))
          (pss_cons (ps_if (pt_cmpR op_notN (pe_meth (pv 4) (cl_Rooms T) T.Rooms_by.m (G_Rooms_by) (hr.mono (by decide)) T.Rooms_by.b .nil pass0 (pa_cons (pv 11) (pa_cons (pv 10) pa_nil))) pe_non (nomark _))
            (pss_one ps_continue)
            pss_nil)
          (pss_cons (ps_set (i := 12) sc__law_built.nd rfl (Or.inr rfl) (pe_call (G__law_moved) (hr.mono (by decide)) rfl T._law_moved.m T._law_moved.F.kp T._law_moved.b .nil pass0 (pa_cons (pv 1) (pa_cons (pe_ix ix_list (pv 5) (pv 6) (fun _ _ => rfl)) (pa_cons (pe_tup (pa_cons (pv 10) pa_nil)) pa_nil)))))
          (pss_cons (ps_setCompIf (iy := 13) sc__law_built.nd rfl (Or.inl rfl) (fns := ["_law_points", "_law_point"]) (ixs := [5, 12]) (cl := _) rfl (pi_range1 rfl T.z_range (pa_cons (pe_callB call_len_seq rfl T.z_len PySem.boot_len (pa_cons (pv 5) pa_nil)) pa_nil)) (compScope2 rfl rfl rfl (by decide +kernel) rfl (by decide +kernel) rfl (by decide +kernel) (by decide +kernel) rfl rfl rfl rfl rfl rfl rfl) (fun C s H ex => (pt_cmpR op_eq (pe_ix (ix_listK (K := K) rfl) (pv 1) (pv 0) (fun _ _ => rfl)) (pv 2) (nomark _))) (fun C s H ex => (pv 0)))
          (pss_cons (ps_cut (ps_if (PW.pt (pw_or (pt_cmpR (op_eqLI hu) (pv 13) (pe_lst pa_nil) (nomark _)) (pw_or1 (pt_cmpR op_eq (pe_op op_mod (pe_call (G__law_cell_at) (hr.mono (by decide)) rfl T._law_cell_at.m T._law_cell_at.F.kp T._law_cell_at.b .nil pass0 (pa_cons (pv 0) (pa_cons (pe_op op_add pe_int (pv 7)) pa_nil))) pe_int) pe_int (nomark _)))))
            (pss_cons (ps_expr (pe_meth (pv 4) (cl_Rooms T) T.Rooms_make.m (G_Rooms_make) (hr.mono (by decide)) T.Rooms_make.b .nil pass0 (pa_cons (pv 11) (pa_cons (pv 10) pa_nil))))
            (pss_one (ps_expr (pe_bm PySem.F.plainAttrs_list PySem.F.slot_list_append PySem.F.type_list_append mt_append (pv 5) (pa_cons (pv 12) pa_nil)))))
            pss_nil))
          (pss_one (ps_cut (ps_if (pt_cmpR (op_neLI hu) (pv 13) (pe_lst pa_nil) (nomark _))
            (pss_one (ps_expr (pe_meth (pv 4) (cl_Rooms T) T.Rooms_lay.m (G_Rooms_lay) (hr.mono (by decide)) T.Rooms_lay.b .nil pass0 (pa_cons (pv 11) (pa_cons (pv 10) (pa_cons (pe_meth (pv 4) (cl_Rooms T) T.Rooms_elder.m (G_Rooms_elder) (hr.mono (by decide)) T.Rooms_elder.b .nil pass0 (pa_cons (pe_ix ix_list (pv 13) pe_int (fun _ _ => rfl)) pa_nil)) (pa_cons (pe_tup (pa_cons (pe_strX (l := [115, 97, 105, 100]) rfl) (pa_cons (pv 7) pa_nil))) pa_nil)))))))
            pss_nil))))))))))
        (pss_one (ps_set (i := 6) sc__law_built.nd rfl (Or.inl rfl) (pe_op op_add (pv 6) pe_int)))))))))
      (pss_one (ps_ret (pv 4)))))))), ?_⟩
    refine ⟨_, rfl, fun r dx nx ndx nex => ⟨r, dx, rows.length, rfl, upd_same, hL1, by omega, fun a0 H1 k1 hR0 ho0 => ⟨rfl, ?_⟩⟩⟩
    obtain ⟨s1, own0⟩ := new_ob (C := A.c_Rooms) (S := RS.new rows.length (stL (2 * rows.length))) nx ndx k1 ho0
    clear k1 ho0
    refine ⟨_, rfl, by show 1 ≤ sizeLine; decide, fun lp hlp => ?_⟩
    have s2 := Same.upd (o := .lst [.int x]) hlp
    have hp2 : upd H1 lp (.lst [.int x]) lp = some (.lst (intV (nI [x]))) := upd_same
    have nlo : ¬ a0.own r lp := hR0.mkL hlp
    have nlp := s1.free hlp
    generalize upd H1 lp (.lst [.int x]) = H2 at s2 hp2 ⊢
    have B2 : BI A.c_Rooms H2 rows.length p rows r (RS.new rows.length (stL (2 * rows.length))) a0 (fun _ _ _ => False) [x] [] := by
      refine ⟨List.nodup_nil, (fun x hx => by cases hx), ⟨hR0.same s2, good_new _ _, fun _ _ _ h => h.elim, rfl, Nat.le_refl _, Nat.le_refl _, Nat.le_refl _, Nat.le_refl _, (fun x hx => by cases hx)⟩, ⟨rfl, fun y hy => ?_, fun _ _ _ h => h.elim⟩, fun a b ha hb _ => ?_⟩
      · rw [List.mem_singleton.mp hy]; exact hx
      · have ha : a < 1 := ha
        have hb : b < 1 := hb
        rw [show a = b by omega]; exact .refl _
    have W2 : HB H H2 r lp a0 [x] := ⟨hp2, nlo, s1.trans s2, own0, nlp⟩
    clear s1 s2 hp2 nlo own0 nlp hlp hR0 nx ndx nex
    refine ⟨fun σ' H' => ∃ n, WInv A.c_Rooms H sa ta r lp rows p x n σ' H' ∧ (∀ pts, H' lp = some (.lst (intV (nI pts))) → pts.length ≤ n), ?_, ?_⟩
    · refine ⟨fun m σ H' => ∃ n, m = 60 - n ∧ WInv A.c_Rooms H sa ta r lp rows p x n σ H', ⟨_, 0, rfl, _, _, _, _, _, 0, none, none, none, none, none, none, rfl, B2, W2, Nat.zero_le _, rfl, Nat.zero_le _, fun i hi => by omega⟩, ?_⟩
      clear B2 W2
      rintro m σ H5 ⟨n, rfl, S, a, R, pts, l, cnt, v8, v9, v10, v11, v12, v13, rfl, bi, hb, hn, h0, hcnt, hfu⟩
      have hcap := bi.cap hL3
      have hmade := bi.ri.m
      have hlen := bi.bp.len
      refine ⟨_, rfl, _, rfl, lp, _, rfl, .inl (SqL.of hb.pl), _, _, rfl, rfl, _, rfl, ?_⟩
      refine ite2 (fun h => ?_) (fun h => ?_)
      · have hlt : n < pts.length := by
          have h' : (n : Int) < ((intV (nI pts)).length : Int) := of_decide_eq_true h
          rw [ints_len, nI_len] at h'
          omega
        clear h hn
        refine ⟨_, fun σ' H' h => h, ?_⟩
        refine ⟨_, rfl, rows.length, rfl, hL1, by omega, fun lS H6 s6 nS h6 => ?_⟩
        have hS6 := (hb.same.trans s6).seq hS
        have hll : ((intV (stL (2 * rows.length))).length : Int) = (2 * rows.length : Nat) := by rw [ints_len, stL_len]
        refine ⟨fun σ' H' => ∃ t : Nat, σ' = [some (.ref sa), some (.ref ta), some (.int rows.length), some (.int x), some (.ref r), some (.ref lp), some (.int (n : Int)), some (.int (cnt : Int)), some (.ref lS), some (.int (t : Int)), v10, v11, v12, v13] ∧ H' = H6 ∧ t < 2 * rows.length, ?_, ?_⟩
        · refine ⟨_, rfl, _, rfl, _, _, rfl, rfl, sa, ns, 6 + n, congrArg (fun q => [V.ref sa, V.int q]) (by omega), hS6, by omega, fun y1 => ?_⟩
          obtain ⟨t, ht, htl⟩ := emod_nat y1 (n := 2 * rows.length) (by omega)
          refine ⟨_, rfl, lS, _, rfl, .inl (SqL.of h6), _, _, rfl, rfl, (by rw [hll]; omega), t, ?_, rfl, htl⟩
          rw [← ht, ← hll]; rfl
        rintro σ1 H6' ⟨t, rfl, rfl, htl⟩
        refine ⟨fun σ' H' => ∃ lw, σ' = [some (.ref sa), some (.ref ta), some (.int rows.length), some (.int x), some (.ref r), some (.ref lp), some (.int (n : Int)), some (.int (cnt : Int)), some (.ref lw), some (.int (t : Int)), v10, v11, v12, v13] ∧ Same H6' H' ∧ H' lw = some (.lst (intV ((stL (2 * rows.length)).drop t ++ (stL (2 * rows.length)).take t))), ?_, ?_⟩
        · refine ⟨_, rfl, _, rfl, _, rfl, lS, _, rfl, SqL.of h6, fun q1 nq1 => ?_⟩
          have u1 := Same.upd (o := .lst (cutV (intV (stL (2 * rows.length))) (some (t : Int)) none)) nq1
          have e1 : upd H6' q1 (.lst (cutV (intV (stL (2 * rows.length))) (some (t : Int)) none)) q1 = some (.lst (intV ((stL (2 * rows.length)).drop t))) := by
            rw [upd_same, cut_from _ _ (by rw [ints_len, stL_len]; omega)]
            unfold intV; rw [List.map_drop]
          generalize upd H6' q1 (.lst (cutV (intV (stL (2 * rows.length))) (some (t : Int)) none)) = H61 at u1 e1 ⊢
          refine ⟨_, rfl, _, rfl, _, rfl, lS, _, rfl, SqL.of (u1 _ _ h6), fun q2 nq2 => ?_⟩
          have u2 := Same.upd (o := .lst (cutV (intV (stL (2 * rows.length))) none (some (t : Int)))) nq2
          have e2 : upd H61 q2 (.lst (cutV (intV (stL (2 * rows.length))) none (some (t : Int)))) q2 = some (.lst (intV ((stL (2 * rows.length)).take t))) := by
            rw [upd_same, cut_to]
            unfold intV; rw [List.map_take]
          generalize upd H61 q2 (.lst (cutV (intV (stL (2 * rows.length))) none (some (t : Int)))) = H62 at u2 e2 ⊢
          refine ⟨q1, q2, _, _, rfl, rfl, u2 _ _ e1, e2, ?_, fun lw nlw => ?_⟩
          · rw [ints_len, ints_len, List.length_drop, List.length_take, stL_len]
            exact Nat.le_trans (show _ ≤ 100 by omega) (by decide)
          refine ⟨lw, rfl, u1.trans (u2.trans (Same.upd nlw)), ?_⟩
          rw [upd_same, ints_app]
        rintro σ2 H7 ⟨lw, rfl, s7, hw7⟩
        have hws : ∀ z, z ∈ stL (2 * rows.length) ↔ z ∈ ((stL (2 * rows.length)).drop t ++ (stL (2 * rows.length)).take t).reverse := fun z => by
          rw [List.mem_reverse, List.mem_append]
          constructor
          · intro h
            rw [← List.take_append_drop t (stL (2 * rows.length)), List.mem_append] at h
            exact h.symm
          · rintro (h | h)
            · exact List.mem_of_mem_drop h
            · exact List.mem_of_mem_take h
        have hwl : ((stL (2 * rows.length)).drop t ++ (stL (2 * rows.length)).take t).reverse.length ≤ 6 := by
          rw [List.length_reverse, List.length_append, List.length_drop, List.length_take, stL_len]; omega
        refine ⟨_, rfl, _, rfl, _, rfl, lw, _, rfl, SqL.of hw7, rfl, rfl, rfl, fun lv nlv => ?_⟩
        have erv : (intV ((stL (2 * rows.length)).drop t ++ (stL (2 * rows.length)).take t)).reverse = intV ((stL (2 * rows.length)).drop t ++ (stL (2 * rows.length)).take t).reverse := by unfold intV; rw [List.map_reverse]
        rw [erv]
        generalize ((stL (2 * rows.length)).drop t ++ (stL (2 * rows.length)).take t).reverse = ws at hws hwl
        clear erv hw7
        have s8 := Same.upd (o := .lst (intV ws)) nlv
        have hv8 : upd H7 lv (.lst (intV ws)) lv = some (.lst (intV ws)) := upd_same
        generalize upd H7 lv (.lst (intV ws)) = H8 at s8 hv8 ⊢
        have s58 := s6.trans (s7.trans s8)
        have FL8 : FL H8 r lp a lv ws := ⟨hv8, (bi.ri.rm.same (s6.trans s7)).mkL nlv, fun z => by rw [z, (s6.trans s7) _ _ hb.pl] at nlv; cases nlv⟩
        refine ⟨lv, rfl, ⟨_, SqL.of hv8⟩, ?_⟩
        refine for_list (K := K) (a := lv) (xs := intV ws) (FInv A.c_Rooms H sa ta r lp lv rows p x n (some (.ref lw)) (some (.int (t : Int))) ws) ⟨S, a, R, pts, l, cnt, v10, v11, v12, v13, rfl, bi.same s58, hb.more s58, hlt, h0, hcnt, hfu, FL8, fun j z h => by omega⟩ (fun i σ H9 _ ⟨_, _, _, _, _, _, _, _, _, _, _, _, _, _, _, _, _, h, _⟩ => SqL.of h.at_) ?_ ?_
        · clear bi hb h0 hcnt hfu hcap hmade hlen hlt s6 s7 s8 s58 FL8 hv8 nlv h6 nS hS6 hll
          rintro i y0 σ H9 hi ⟨S, a, R, pts, l, cnt, v10, v11, v12, v13, rfl, bi, hb, hlt, h0, hcnt, hfu, hF, hdo⟩
          obtain ⟨z, rfl, hz⟩ := ints_of_at hi
          have hi6 : i < 6 := by have := (List.getElem?_eq_some_iff.mp hz).1; omega
          have hzs : z ≠ 0 ∧ z.natAbs ≤ rows.length := stL_mem.mp ((hws z).mpr (List.mem_of_getElem? hz))
          have hcap := bi.cap hL3
          have hmade := bi.ri.m
          have hlen := bi.bp.len
          have hat : n < S.made := by omega
          have hel : S.elders[n]? = some (S.eld n) := eld_at (by rw [bi.ri.g.wf.e]; exact hat)
          refine ⟨_, rfl, r, a.dx, _, rfl, bi.ri.rm.ins, lk_none _ _ _ (by decide +kernel), _, rfl, r, S, a, n, _, rfl, bi.ri.rm, hel, ?_⟩
          have hc1 := bi.ri.g.lt hat
          have hc2 := (bi.ri.g.el n hat).2
          refine ⟨_, rfl, _, _, rfl, rfl, ?_⟩
          refine ⟨_, rfl, r, a.dx, _, rfl, bi.ri.rm.ins, lk_none _ _ _ (by decide +kernel), _, rfl, _, rfl, r, S, a, S.eld n, z, rfl, bi.ri.rm, by rw [bi.ri.g.wf.w]; exact hc1, ?_⟩
          cases eb : S.by (S.eld n) z with
          | some b =>
            rw [show (Option.map (fun n : Nat => V.int (n : Int)) (some b)).getD V.non = V.int (b : Int) from rfl]
            refine ⟨rfl, _, rfl, iteT ?_⟩
            refine ⟨S, a, R, pts, l, cnt + 1, _, _, _, _, rfl, bi, hb, hlt, h0, by omega, hfu, hF, fun j z' hj e => ?_⟩
            by_cases hji : j = i
            · subst hji
              rw [hz] at e
              obtain rfl := Option.some.inj e
              exact by_some bi.ri.g bi.bp hat eb
            · exact hdo j z' (by omega) e
          | none =>
            refine ⟨rfl, _, rfl, iteF ?_⟩
            refine ⟨_, rfl, _, rfl, _, rfl, lp, _, _, _, rfl, rfl, SqL.of hb.pl, atI_nat (ints_at (nI_get (pt_at hlt))), _, rfl, by show 1 ≤ sizeLine; decide, fun wa hwa => ?_⟩
            have sA : Same H9 (upd H9 wa (.tup [.int z])) := Same.upd hwa
            have hwA : upd H9 wa (.tup [.int z]) wa = some (.tup (intV [z])) := upd_same
            generalize upd H9 wa (.tup [.int z]) = HA at sA hwA ⊢
            have hxp : pt pts n < p := bi.bp.lt _ (List.mem_of_getElem? (pt_at hlt))
            refine ⟨ta, wa, rows, p, pt pts n, [z], rfl, hTa.same (hb.same.trans sA), hpm, hxp, by omega, hwA, fun s hs => by rw [List.mem_singleton.mp hs]; exact hzs, by omega, ?_⟩
            rw [show List.foldl (sf rows) (pt pts n) [z] = sf rows (pt pts n) z from rfl]
            have bi := bi.same sA
            have hb := hb.more sA
            have hF := hF.more sA
            clear sA hwA hwa
            have hcp : pt pts (S.eld n) = pt pts n := eld_pt bi.ri.g bi.bp hat
            have hyy : sf rows (pt pts (S.eld n)) z = sf rows (pt pts n) z := by rw [hcp]
            generalize hy : sf rows (pt pts n) z = y at hyy ⊢
            have hln : ((intV (nI pts)).length : Int) = (pts.length : Int) := by rw [ints_len, nI_len]
            refine ⟨_, rfl, lp, _, rfl, .inl (SqL.of hb.pl), (pts.length : Int), congrArg (fun q => [V.int q]) hln, by omega, by omega, ?_⟩
            rw [Int.toNat_natCast]
            refine comp_eq pts y (by omega) (fun j q Rr hE hR => ?_) (fun j Rr hR => ⟨_, rfl, hR⟩) (fun ls nls => ?_)
            · exact ⟨_, rfl, _, rfl, lp, _, _, _, rfl, rfl, SqL.of hb.pl, (by rw [Int.zero_add]; exact atI_nat (ints_at (nI_get hE))), _, rfl, rfl, _, rfl, hR⟩
            have sB := Same.upd (o := .lst (intV (nI (sameL pts y)))) nls
            have hsB : upd HA ls (.lst (intV (nI (sameL pts y)))) ls = some (.lst (intV (nI (sameL pts y)))) := upd_same
            have FLs : FL (upd HA ls (.lst (intV (nI (sameL pts y))))) r lp a ls (nI (sameL pts y)) := ⟨hsB, bi.ri.rm.mkL nls, fun q => by rw [q, hb.pl] at nls; cases nls⟩
            generalize upd HA ls (.lst (intV (nI (sameL pts y)))) = HB_ at sB hsB FLs ⊢
            have bi := bi.same sB
            have hb := hb.more sB
            have hF := hF.more sB
            clear sB hsB nls
            refine ⟨MInv A.c_Rooms H sa ta r lp lv ls rows p x n (cnt + 1) (some (.ref lw)) (some (.int (t : Int))) ws S R pts l.length (S.eld n) y z, ?_, ?_⟩
            · refine ⟨_, rfl, Nat.zero_le _, fun e0 he0 => ?_⟩
              have sC := Same.upd (o := .lst []) he0
              have hC : upd HB_ e0 (.lst []) e0 = some (.lst (intV [])) := upd_same
              generalize upd HB_ e0 (.lst []) = HC at sC hC ⊢
              refine ⟨ls, e0, nI (sameL pts y), [], rfl, rfl, sC _ _ FLs.at_, hC, _, rfl, ?_⟩
              by_cases hsn : nI (sameL pts y) = []
              · rw [decide_eq_true hsn]
                refine iteT ?_
                have hr := make_ri (bi.same sC).ri hL3 hc1 hc2 eb hzs
                have hrw := bi.ri.rw_
                refine ⟨_, rfl, r, a.dx, _, rfl, (bi.same sC).ri.rm.ins, lk_none _ _ _ (by decide +kernel), _, rfl, _, rfl, r, S, a, S.eld n, z, rfl, (bi.same sC).ri.rm, bi.ri.g.wf, by rw [bi.ri.l]; exact hL1, by rw [bi.ri.l]; omega, hc1, by omega, by omega, hr.1, fun a1 HD bD hRD oD => ?_⟩
                have ri1 := hr.2 a1 HD hRD
                have hbD := (hb.more sC).op bD oD
                refine ⟨_, rfl, .inl ⟨rfl, _, SqL.of hbD.pl⟩, _, rfl, lp, _, _, rfl, rfl, hbD.pl, ?_, ?_⟩
                · rw [ints_len, nI_len]
                  exact Nat.lt_of_le_of_lt (show pts.length ≤ 300 by omega) (by decide)
                have bm := (bi.same sC).made hpm rfl hc1 hzs ((ri1.off (o := .lst (intV (nI pts) ++ [.int (y : Int)])) hbD.pl hbD.no).up (M' := l.length + 2) (B' := 3 * l.length + 3) (by omega) (by omega))
                rw [hyy] at bm
                exact ⟨_, a1, _, _, rfl, bm, hbD.push y, ((hF.more sC).op bD oD).push, ((FLs.more sC).op bD oD).push⟩
              · rw [decide_eq_false hsn]
                refine iteF ?_
                refine ⟨_, rfl, _, rfl, _, _, rfl, rfl, sa, ns, 7 + (cnt + 1), congrArg (fun q => [V.ref sa, V.int q]) (by omega), (hb.same.trans sC).seq hS, by omega, fun y2 => ?_⟩
                refine ⟨_, _, rfl, rfl, (by show (0 : Int) < 3; decide), rfl, _, rfl, ?_⟩
                refine ite2 (fun _ => ?_) (fun _ => ?_)
                · have hr := make_ri (bi.same sC).ri hL3 hc1 hc2 eb hzs
                  have hrw := bi.ri.rw_
                  refine ⟨_, rfl, r, a.dx, _, rfl, (bi.same sC).ri.rm.ins, lk_none _ _ _ (by decide +kernel), _, rfl, _, rfl, r, S, a, S.eld n, z, rfl, (bi.same sC).ri.rm, bi.ri.g.wf, by rw [bi.ri.l]; exact hL1, by rw [bi.ri.l]; omega, hc1, by omega, by omega, hr.1, fun a1 HD bD hRD oD => ?_⟩
                  have ri1 := hr.2 a1 HD hRD
                  have hbD := (hb.more sC).op bD oD
                  refine ⟨_, rfl, .inl ⟨rfl, _, SqL.of hbD.pl⟩, _, rfl, lp, _, _, rfl, rfl, hbD.pl, ?_, ?_⟩
                  · rw [ints_len, nI_len]
                    exact Nat.lt_of_le_of_lt (show pts.length ≤ 300 by omega) (by decide)
                  have bm := (bi.same sC).made hpm rfl hc1 hzs ((ri1.off (o := .lst (intV (nI pts) ++ [.int (y : Int)])) hbD.pl hbD.no).up (M' := l.length + 2) (B' := 3 * l.length + 3) (by omega) (by omega))
                  rw [hyy] at bm
                  exact ⟨_, a1, _, _, rfl, bm, hbD.push y, ((hF.more sC).op bD oD).push, ((FLs.more sC).op bD oD).push⟩
                · have hmem : y ∈ pts := Classical.byContradiction fun q => hsn (by rw [same_nil.mpr q]; rfl)
                  exact ⟨S, a, R, pts, rfl, (bi.same sC).stay _ z hmem, hb.more sC, hF.more sC, FLs.more sC⟩
            rintro σ3 HC ⟨S1, a1, R1, pts1, rfl, hm, hbC, hFC, hLC⟩
            have hpre := hm.pre
            obtain ⟨tt, ett⟩ := hm.pre
            have hpe : ∀ j, j < pts.length → pt pts1 j = pt pts j := fun j hj => by rw [ett]; exact pt_app tt hj
            refine ⟨_, ?_, fun _ _ h => h⟩
            refine ⟨_, rfl, Nat.zero_le _, fun e0 he0 => ?_⟩
            have sC := Same.upd (o := .lst []) he0
            have hC : upd HC e0 (.lst []) e0 = some (.lst (intV [])) := upd_same
            generalize upd HC e0 (.lst []) = HD at sC hC ⊢
            have riD := hm.ri.same sC
            have hbD := hbC.more sC
            have hFD := hFC.more sC
            have hLD := hLC.more sC
            refine ⟨ls, e0, nI (sameL pts y), [], rfl, rfl, hLD.at_, hC, _, rfl, ?_⟩
            cases hsl : sameL pts y with
            | nil =>
              have hyn : y ∉ pts := same_nil.mp hsl
              rw [show (!decide (nI ([] : List Nat) = [])) = false from rfl]
              refine iteF ?_
              obtain ⟨bi2, mono⟩ := bi.next hm.sub hm.pre hat hzs eb rfl (hm.ri.up (Nat.le_refl _) (by omega)) hm.bp (fun _ _ _ e => e) (hm.j R1 (fun _ _ _ e => e) (.inl hyn)) (hm.fd hyn)
              exact fin_next hlt h0 hcnt hfu hdo hz hpre (bi2.same sC) mono hbD hFD
            | cons s0 rest =>
              obtain ⟨hs1, hs2⟩ := same_mem.mp (show s0 ∈ sameL pts y by rw [hsl]; exact List.mem_cons_self)
              rw [show (!decide (nI (s0 :: rest) = [])) = true from rfl]
              refine iteT ?_
              have hs0 : s0 < S1.made := by have := hm.mm; omega
              have hel1 : S1.elders[s0]? = some (S1.eld s0) := eld_at (by rw [hm.ri.g.wf.e]; exact hs0)
              have hLs := hLD.at_
              rw [hsl] at hLs
              refine ⟨_, rfl, r, a1.dx, _, rfl, riD.rm.ins, lk_none _ _ _ (by decide +kernel), _, rfl, _, rfl, _, rfl, r, a1.dx, _, rfl, riD.rm.ins, lk_none _ _ _ (by decide +kernel), _, rfl, ls, _, _, _, rfl, rfl, SqL.of hLs, atI_nat (j := 0) (ints_at (nI_get rfl)), r, S1, a1, s0, _, rfl, riD.rm, hel1, _, rfl, (by show 2 ≤ sizeLine; decide), fun tp ntp => ?_⟩
              have hcm : S.eld n < S1.made := by have := hm.mm; omega
              have hdm := hm.ri.g.lt hs0
              have hrm := riD.m
              obtain ⟨row, I, μ, p1, p2, p3, p4, p5, p6, p7⟩ := lay_ri ((cnt + 1 : Nat) : Int) riD (by omega) (by omega) hL3 hcm hdm hzs ntp
              have sT := Same.upd (o := .tup [.str (tx [115, 97, 105, 100]), .int ((cnt + 1 : Nat) : Int)]) ntp
              refine ⟨r, tp, S1, a1, S.eld n, S1.eld s0, z, row, I, μ, rfl, p1, p2, p3, p4, p5, p6, fun S2 a2 HE bE hRE iE oE => ?_⟩
              obtain ⟨ri2, em⟩ := p7 S2 a2 HE hRE iE
              have hd0 : pt pts1 (S1.eld s0) = y := by rw [eld_pt hm.ri.g hm.bp hs0, hpe s0 hs1, hs2]
              have hel2 := (hm.ri.g.el s0 hs0).1
              have hcS : S.eld n < pts.length := by rw [hlen]; exact hc1
              have hd1 : pt pts1 (S1.eld s0) = sf rows (pt pts1 (S.eld n)) z := by rw [hd0, hpe _ hcS, hyy]
              have bp2 := hm.bp.lay hm.ri.g hpm em (c := S.eld n) (d := S1.eld s0) hcm hzs hd1
              have j2 := hm.j (RAdd R1 (S.eld n) z (S1.eld s0)) radd_sub (.inr ⟨S1.eld s0, by omega, by rw [← hpe _ (by omega)]; exact hd0, radd_new⟩)
              rw [← em] at j2
              obtain ⟨bi2, mono⟩ := bi.next hm.sub hm.pre hat hzs eb rfl (ri2.up (Nat.le_refl _) (by omega)) bp2 radd_sub j2 ⟨_, radd_new⟩
              exact fin_next hlt h0 hcnt hfu hdo hz hpre bi2 mono ((hbD.more sT).op bE oE) ((hFD.more sT).op bE oE)
        · rintro σ H9 ⟨S, a, R, pts, l, cnt, v10, v11, v12, v13, rfl, bi, hb, hlt, h0, hcnt, hfu, hF, hdo⟩
          rw [ints_len] at hcnt hdo
          have hcap := bi.cap hL3
          have hmade := bi.ri.m
          have hlen := bi.bp.len
          refine ⟨_, rfl, _, _, rfl, rfl, 60 - (n + 1), by omega, n + 1, rfl, S, a, R, pts, l, cnt, _, _, _, _, _, _, rfl, bi, hb, hlt, h0, by omega, fun i hi z hz => ?_⟩
          by_cases hin : i = n
          · subst hin
            obtain ⟨j, hj⟩ := List.getElem?_of_mem ((hws z).mp hz)
            exact hdo j z (List.getElem?_eq_some_iff.mp hj).1 hj
          · exact hfu i (by omega) z hz
      · refine ⟨n, ⟨S, a, R, pts, l, cnt, v8, v9, v10, v11, v12, v13, rfl, bi, hb, hn, h0, hcnt, hfu⟩, fun pts' e => ?_⟩
        have h' : ¬ (n : Int) < ((intV (nI pts)).length : Int) := fun q => h (decide_eq_true q)
        rw [ints_len, nI_len] at h'
        rw [hb.pl] at e
        injection e with e
        injection e with e
        have := congrArg List.length e
        rw [ints_len, ints_len, nI_len, nI_len] at this
        omega
    rintro σ' H' ⟨n, ⟨S, a, R, pts, l, cnt, v8, v9, v10, v11, v12, v13, rfl, bi, hb, hn, h0, hcnt, hfu⟩, hex⟩
    have hcap := bi.cap hL3
    have hlen := bi.bp.len
    have hpl := hex pts hb.pl
    exact ⟨_, rfl, k r S a R pts H' hb.same (bi.ri.up (by omega) (by omega)) bi.bp bi.j h0 fun i hi => hfu i (by omega)⟩
theorem ok_law (T : Txt K mg A) : FnOk P w K mg base CX0 9 A.f_law A.d_law ["_law_script"] (spLaw K) := by
  have G__law_built : FnOk P w K mg base CX0 5 A.f__law_built A.d__law_built ["_law_script", "_law_turns", "_law_letters", "_law_first"] (spBuilt K A.c_Rooms) := ok__law_built T
  have G_Rooms_paper : FnOk P w K mg base CX0 4 A.f_Rooms_paper A.d_Rooms_paper ["self"] (spPaper 1 A.c_Rooms) := ok_Rooms_paper T
  have G__law_orbit : FnOk P w K mg base CX0 2 A.f__law_orbit A.d__law_orbit ["_law_turns", "_law_letters", "_law_first"] spOrbit := ok__law_orbit T
  have G_numbered : FnOk P w K mg base CX0 2 A.f_numbered A.d_numbered ["rooms"] (spNumbered A.c_Rooms) := ok_numbered T
  have G_led : FnOk P w K mg base CX0 2 A.f_led A.d_led ["table", "room", "word"] spLed := ok_led T
  have G__law_turning : FnOk P w K mg base CX0 1 A.f__law_turning A.d__law_turning ["_law_number", "_law_many", "_law_plain"] spTurnP := ok__law_turning T
  have G__law_cell_at : FnOk P w K mg base CX0 1 A.f__law_cell_at A.d__law_cell_at ["_law_script", "_law_k"] (spAt K) := ok__law_cell_at T
  have G__law_same : FnOk P w K mg base CX0 2 A.f__law_same A.d__law_same ["_law_table", "_law_due"] spSame := ok__law_same T
  have G__law_whole : FnOk P w K mg base CX0 1 A.f__law_whole A.d__law_whole ["_law_found"] spWhole := ok__law_whole T
  have G__law_moved : FnOk P w K mg base CX0 1 A.f__law_moved A.d__law_moved ["_law_turns", "_law_point", "_law_word"] spMoved := ok__law_moved T
  have G__law_step : FnOk P w K mg base CX0 1 A.f__law_step A.d__law_step ["_law_number", "_law_letters"] spStep := ok__law_step T
  have G__law_steps : FnOk P w K mg base CX0 1 A.f__law_steps A.d__law_steps ["_law_letters"] spSteps := ok__law_steps T
  refine T.law.F.ok sc_law (fun vs H Q E h => ?_) (fun cdv AA outer s H vs Q E hr h => ?_)
  · obtain ⟨sa, ns, rfl, _⟩ := h
    rfl
  · obtain ⟨sa, ns, rfl, hS, hns, k⟩ := h
    have hu2 := hu_of hr
    have hu8 := Nat.lt_of_le_of_lt (Nat.add_le_add_left (by decide : 8 ≤ 64) _) hr.units
    refine ⟨_, (pss_cons (ps_set (i := 1) sc_law.nd rfl (Or.inr rfl) (pe_cmpR op_eq (pe_op op_mod (pe_call (G__law_cell_at) (hr.mono (by decide)) rfl T._law_cell_at.m T._law_cell_at.F.kp T._law_cell_at.b .nil pass0 (pa_cons (pv 0) (pa_cons pe_int pa_nil))) pe_int) pe_int (nomark _)))
      (pss_cons (ps_set (i := 2) sc_law.nd rfl (Or.inr rfl) (pe_op op_add pe_int (pe_op op_mod (pe_op op_fdiv (pe_call (G__law_cell_at) (hr.mono (by decide)) rfl T._law_cell_at.m T._law_cell_at.F.kp T._law_cell_at.b .nil pass0 (pa_cons (pv 0) (pa_cons pe_int pa_nil))) pe_int) pe_int)))
      (pss_cons (ps_cut (ps_if (pt_val (pv 1))
        (pss_one (ps_set (i := 2) sc_law.nd rfl (Or.inr rfl) (pe_op op_add pe_int (pe_op op_mod (pe_op op_fdiv (pe_call (G__law_cell_at) (hr.mono (by decide)) rfl T._law_cell_at.m T._law_cell_at.F.kp T._law_cell_at.b .nil pass0 (pa_cons (pv 0) (pa_cons pe_int pa_nil))) pe_int) pe_int))))
        pss_nil))
      (pss_cons (ps_cut (ps_set (i := 3) sc_law.nd rfl (Or.inl rfl) (pe_op op_add pe_int (pe_op op_mod (pe_call (G__law_cell_at) (hr.mono (by decide)) rfl T._law_cell_at.m T._law_cell_at.F.kp T._law_cell_at.b .nil pass0 (pa_cons (pv 0) (pa_cons pe_int pa_nil))) pe_int))))
      (pss_cons (ps_cut (ps_set (i := 4) sc_law.nd rfl (Or.inr rfl) (pe_comp (fns := ["_law_script", "_law_plain", "_law_many"]) (ixs := [0, 1, 2]) (cl := _) rfl (pi_range1 rfl T.z_range (pa_cons (pv 3) pa_nil)) (compScope3 rfl rfl rfl rfl (by decide +kernel) rfl (by decide +kernel) rfl (by decide +kernel) (by decide +kernel) rfl rfl rfl rfl rfl rfl rfl rfl rfl rfl) (fun C s H ex => (pe_call (G__law_turning) (hr.mono (by decide)) rfl T._law_turning.m T._law_turning.F.kp T._law_turning.b .nil pass0 (pa_cons (pe_op op_mod (pe_call (G__law_cell_at) (hr.mono (by decide)) rfl T._law_cell_at.m T._law_cell_at.F.kp T._law_cell_at.b .nil pass0 (pa_cons (pv 1) (pa_cons (pe_op op_add pe_int (pv 0)) pa_nil))) pe_int) (pa_cons (pv 3) (pa_cons (pv 2) pa_nil))))))))
      (pss_cons (ps_cut (ps_set (i := 5) sc_law.nd rfl (Or.inl rfl) (pe_op op_mod (pe_call (G__law_cell_at) (hr.mono (by decide)) rfl T._law_cell_at.m T._law_cell_at.F.kp T._law_cell_at.b .nil pass0 (pa_cons (pv 0) (pa_cons pe_int pa_nil))) (pv 2))))
      (pss_cons (ps_set (i := 6) sc_law.nd rfl (Or.inl rfl) (pe_call (G__law_built) (hr.mono (by decide)) rfl T._law_built.m T._law_built.F.kp T._law_built.b .nil pass0 (pa_cons (pv 0) (pa_cons (pv 4) (pa_cons (pv 3) (pa_cons (pv 5) pa_nil))))))
      (pss_cons (ps_set (i := 7) sc_law.nd rfl (Or.inl rfl) (pe_meth0 (pv 6) (cl_Rooms T) T.Rooms_paper.m (G_Rooms_paper) (hr.mono (by decide)) T.Rooms_paper.b .nil pass0))
      (pss_cons (ps_set (i := 8) sc_law.nd rfl (Or.inr rfl) (pe_call (G__law_orbit) (hr.mono (by decide)) rfl T._law_orbit.m T._law_orbit.F.kp T._law_orbit.b .nil pass0 (pa_cons (pv 4) (pa_cons (pv 3) (pa_cons (pv 5) pa_nil)))))
      (pss_cons (ps_set (i := 9) sc_law.nd rfl (Or.inl rfl) (pe_lst pa_nil))
      (pss_cons (ps_for PassesOwn.never rfl (pi_list (pv 8)) (pg_name (i := 10) sc_law.nd rfl (Or.inr rfl))
        (pss_one (ps_expr (pe_bm PySem.F.plainAttrs_list PySem.F.slot_list_append PySem.F.type_list_append mt_append (pv 9) (pa_cons (pe_comp (fns := ["_law_turns", "_law_point", "_law_come"]) (ixs := [4, 10, 8]) (cl := _) rfl (pi_list (pe_call (G__law_steps) (hr.mono (by decide)) rfl T._law_steps.m T._law_steps.F.kp T._law_steps.b .nil pass0 (pa_cons (pv 3) pa_nil))) (compScope3 rfl rfl rfl rfl (by decide +kernel) rfl (by decide +kernel) rfl (by decide +kernel) (by decide +kernel) rfl rfl rfl rfl rfl rfl rfl rfl rfl rfl) (fun C s H ex => (pe_bmK (K := K) rfl PySem.F.plainAttrs_list PySem.F.slot_list_index PySem.F.type_list_index mt_list_index (pv 3) (pa_cons (pe_call (G__law_moved) (hr.mono (by decide)) rfl T._law_moved.m T._law_moved.F.kp T._law_moved.b .nil pass0 (pa_cons (pv 1) (pa_cons (pv 2) (pa_cons (pe_tup (pa_cons (pv 0) pa_nil)) pa_nil)))) pa_nil)))) pa_nil)))))
      (pss_cons (ps_set (i := 11) sc_law.nd rfl (Or.inl rfl) (pe_call (G_numbered) (hr.mono (by decide)) rfl T.numbered.m T.numbered.F.kp T.numbered.b .nil pass0 (pa_cons (pv 6) pa_nil)))
      (pss_cons (ps_cut (ps_if (PW.pt (pw_or (pt_not (pt_val (pe_call (G__law_same) (hr.mono (by decide)) rfl T._law_same.m T._law_same.F.kp T._law_same.b .nil pass0 (pa_cons (pv 11) (pa_cons (pv 9) pa_nil))))) (pw_or (pt_cmpR (op_neLL hu2) (pe_call (G_numbered) (hr.mono (by decide)) rfl T.numbered.m T.numbered.F.kp T.numbered.b .nil pass0 (pa_cons (pv 6) pa_nil)) (pv 11) (nomark _)) (pw_or1 (pt_cmpR (op_neDt hu8) (pe_meth0 (pv 6) (cl_Rooms T) T.Rooms_paper.m (G_Rooms_paper) (hr.mono (by decide)) T.Rooms_paper.b .nil pass0) (pv 7) (nomark _))))))
        (pss_one (ps_ret pe_bl))
        pss_nil))
      (pss_cons (ps_set (i := 12) sc_law.nd rfl (Or.inl rfl) (pe_tup pa_nil))
      (pss_cons (ps_for PassesOwn.never rfl (pi_list (pe_slice sl_list (pv 0) po_none (po_some pe_int))) (pg_name (i := 13) sc_law.nd rfl (Or.inl rfl))
        (pss_one (ps_set (i := 12) sc_law.nd rfl (Or.inl rfl) (pe_op op_catTT (pv 12) (pe_tup (pa_cons (pe_call (G__law_step) (hr.mono (by decide)) rfl T._law_step.m T._law_step.F.kp T._law_step.b .nil pass0 (pa_cons (pe_op op_mod (pe_op op_mul (pv 13) pe_int) pe_int) (pa_cons (pv 3) pa_nil))) pa_nil))))))
      (pss_cons (ps_cut (ps_set (i := 14) sc_law.nd rfl (Or.inl rfl) (pe_op op_mod (pe_op op_fdiv (pe_call (G__law_cell_at) (hr.mono (by decide)) rfl T._law_cell_at.m T._law_cell_at.F.kp T._law_cell_at.b .nil pass0 (pa_cons (pv 0) (pa_cons pe_int pa_nil))) pe_int) (pe_callB call_len_seq rfl T.z_len PySem.boot_len (pa_cons (pv 8) pa_nil)))))
      (pss_cons (ps_set (i := 15) sc_law.nd rfl (Or.inl rfl) (pe_call (G_led) (hr.mono (by decide)) rfl T.led.m T.led.F.kp T.led.b .nil pass0 (pa_cons (pv 11) (pa_cons (pv 14) (pa_cons (pv 12) pa_nil)))))
      (pss_cons (ps_cut (ps_if (PW.pt (pw_or (pt_not (pt_val (pe_call (G__law_whole) (hr.mono (by decide)) rfl T._law_whole.m T._law_whole.F.kp T._law_whole.b .nil pass0 (pa_cons (pv 15) pa_nil)))) (pw_or1 (pt_cmpR op_ne (pe_ix ix_list (pv 8) (pv 15) (fun _ _ => rfl)) (pe_call (G__law_moved) (hr.mono (by decide)) rfl T._law_moved.m T._law_moved.F.kp T._law_moved.b .nil pass0 (pa_cons (pv 4) (pa_cons (pe_ix ix_list (pv 8) (pv 14) (fun _ _ => rfl)) (pa_cons (pv 12) pa_nil)))) (nomark _)))))
        (pss_one (ps_ret pe_bl))
        pss_nil))
      (pss_one (ps_ret (pe_and (pe_cmpR op_eq (pe_call (G_led) (hr.mono (by decide)) rfl T.led.m T.led.F.kp T.led.b .nil pass0 (pa_cons (pv 11) (pa_cons (pv 15) (pa_cons (pe_callTy call_tuple_of rfl T.z_tuple PyProof.Rows.boot_tuple (pa_cons (pe_comp (fns := []) (ixs := []) (cl := []) rfl (pi_tup (pe_slice3 sl_revT (pv 12) po_none po_none (po_some (pe_un un_neg pe_int)))) (compScope0 (by decide +kernel) (by decide +kernel) rfl (by decide +kernel) rfl) (fun C s H ex => (pe_un un_neg (pv 0)))) pa_nil)) pa_nil)))) (pv 14) (nomark _)) (pe_one (pe_cmpR (op_eqLL hu2) (pv 11) (pv 9) (nomark _)))))))))))))))))))))))), ?_⟩
    refine ⟨_, rfl, sa, ns, 0, rfl, hS, by omega, fun z0 => ?_⟩
    refine ⟨_, _, rfl, rfl, (by show (0 : Int) < 2; decide), rfl, ?_⟩
    refine ⟨_, rfl, sa, ns, 0, rfl, hS, by omega, fun z1 => ?_⟩
    refine ⟨_, _, rfl, rfl, ⟨by decide, by decide⟩, _, _, rfl, rfl, (by show (0 : Int) < 4; decide), _, _, rfl, rfl, ?_⟩
    have a1 := Int.emod_nonneg (z1 / 2) (show (4 : Int) ≠ 0 by decide)
    have a2 := Int.emod_lt_of_pos (z1 / 2) (show (0 : Int) < 4 by decide)
    refine ⟨fun σ' H' => ∃ (m : Nat) (pl : Bool), σ' = [some (.ref sa), some (.bl pl), some (.int m), none, none, none, none, none, none, none, none, none, none, none, none, none] ∧ H' = H ∧ 1 ≤ m ∧ m ≤ 6, ?_, ?_⟩
    · refine ⟨_, rfl, _, rfl, ?_⟩
      refine ite2 (fun _ => ?_) (fun _ => ?_)
      · refine ⟨_, rfl, sa, ns, 0, rfl, hS, by omega, fun z2 => ?_⟩
        refine ⟨_, _, rfl, rfl, ⟨by decide, by decide⟩, _, _, rfl, rfl, (by show (0 : Int) < 6; decide), _, _, rfl, rfl, ?_⟩
        have c1 := Int.emod_nonneg (z2 / 2) (show (6 : Int) ≠ 0 by decide)
        have c2 := Int.emod_lt_of_pos (z2 / 2) (show (0 : Int) < 6 by decide)
        refine ⟨(1 + z2 / 2 % 6).toNat, decide (V.int (z0 % 2) = V.int 0), ?_, rfl, by omega, by omega⟩
        rw [show (((1 + z2 / 2 % 6).toNat : Nat) : Int) = 1 + z2 / 2 % 6 by omega]
        rfl
      · refine ⟨(2 + z1 / 2 % 4).toNat, decide (V.int (z0 % 2) = V.int 0), ?_, rfl, by omega, by omega⟩
        rw [show (((2 + z1 / 2 % 4).toNat : Nat) : Int) = 2 + z1 / 2 % 4 by omega]
        rfl
    rintro σ1 H' ⟨m, pl, rfl, rfl, hm1, hm6⟩
    clear a1 a2 z0 z1
    refine ⟨fun σ' H1 => ∃ L : Nat, σ' = [some (.ref sa), some (.bl pl), some (.int m), some (.int (L : Int)), none, none, none, none, none, none, none, none, none, none, none, none] ∧ H1 = H' ∧ 1 ≤ L ∧ L ≤ 3, ?_, ?_⟩
    · refine ⟨_, rfl, sa, ns, 1, rfl, hS, by omega, fun y => ?_⟩
      have y1 := Int.emod_nonneg y (show (3 : Int) ≠ 0 by decide)
      have y2 := Int.emod_lt_of_pos y (show (0 : Int) < 3 by decide)
      refine ⟨_, _, rfl, rfl, (by show (0 : Int) < 3; decide), _, _, rfl, rfl, (1 + y % 3).toNat, ?_, rfl, by omega, by omega⟩
      rw [show (((1 + y % 3).toNat : Nat) : Int) = 1 + y % 3 by omega]
      rfl
    rintro σ2 H1 ⟨L, rfl, rfl, hL1, hL3⟩
    refine ⟨fun σ' H2 => ∃ (ta : Addr) (rows : List (List Int)), σ' = [some (.ref sa), some (.bl pl), some (.int m), some (.int (L : Int)), some (.ref ta), none, none, none, none, none, none, none, none, none, none, none] ∧ Same H1 H2 ∧ TabAt H2 ta rows ∧ rows.length = L ∧ (∀ r ∈ rows, M11.Pm m r), ?_, ?_⟩
    · refine ⟨_, rfl, (L : Int), rfl, by omega, by omega, ?_⟩
      rw [Int.toNat_natCast]
      refine comp_make (α := Unit) L (fun i => .int (0 + (i : Int))) (fun H2 v i => ∃ p, v = .ref p ∧ ∃ row, H2 p = some (.lst (intV row)) ∧ M11.Pm m row) (fun H1 H2 v i s ⟨p, e, row, q, hP⟩ => ⟨p, e, row, s _ _ q, hP⟩) (Nat.le_trans (show L ≤ 1000 by omega) (by decide)) (fun i H2 s2 hi => hi) (fun i x H2 H3 s2 hi y => y) (fun H2 s2 => Nat.le_refl _) (fun i H2 Rr hi s2 kk => ?_) (fun D H2 ys s2 hD hl hr => ?_)
      · refine ⟨_, rfl, _, rfl, _, _, rfl, rfl, sa, ns, 2 + i, congrArg (fun q => [V.ref sa, V.int q]) (by omega), s2.seq hS, by omega, fun y => ?_⟩
        have c1 := Int.emod_nonneg y (show (720 : Int) ≠ 0 by decide)
        exact ⟨_, _, rfl, rfl, (by show (0 : Int) < 720; decide), _, rfl, _, rfl, y % 720, m, pl, rfl, hm1, by omega, c1, fun l row H3 s3 h3 hP => kk (.ref l) H3 s3 ⟨l, rfl, row, h3, hP⟩⟩
      · obtain ⟨ps, rfl, hps⟩ := refs_of (P := fun i p => ∃ row, H2 p = some (.lst (intV row)) ∧ M11.Pm m row) ys 0 (fun i v e => hr i v e)
        rw [List.length_map] at hl
        have hch : ∀ ps : List Addr, (∀ (i : Nat) (p : Addr), ps[i]? = some p → ∃ row, H2 p = some (.lst (intV row)) ∧ M11.Pm m row) → ∃ rows, RowsAt H2 ps rows ∧ ∀ r ∈ rows, M11.Pm m r := fun ps => by
          induction ps with
          | nil => exact fun _ => ⟨[], ⟨rfl, fun i r ns h => by simp at h⟩, fun r h => by cases h⟩
          | cons q ps ih =>
            intro h
            obtain ⟨row, e1, e2⟩ := h 0 q rfl
            obtain ⟨rows, h1, h2⟩ := ih fun i p e => h (i + 1) p (by rw [List.getElem?_cons_succ]; exact e)
            refine ⟨row :: rows, ⟨by rw [List.length_cons, List.length_cons, h1.1], fun i r ns g1 g2 => ?_⟩, fun r hr => ?_⟩
            · cases i with
              | zero =>
                obtain rfl : q = r := by simpa using g1
                obtain rfl : row = ns := by simpa using g2
                exact e1
              | succ i => exact h1.2 i r ns (by simpa using g1) (by simpa using g2)
            · rcases List.mem_cons.mp hr with rfl | hr
              · exact e2
              · exact h2 r hr
        obtain ⟨rows, h1, h2⟩ := hch ps fun i p e => hps i p e
        refine ⟨D, rows, rfl, s2.trans (Same.upd hD), ⟨ps, upd_same, h1.same (Same.upd hD)⟩, by rw [← h1.1, hl], h2⟩
    rintro σ3 H2 ⟨ta, rows, rfl, s2, hTa, rfl, hpm⟩
    have hS2 := s2.seq hS
    refine ⟨fun σ' H3 => ∃ x : Nat, σ' = [some (.ref sa), some (.bl pl), some (.int m), some (.int (rows.length : Int)), some (.ref ta), some (.int (x : Int)), none, none, none, none, none, none, none, none, none, none] ∧ H3 = H2 ∧ x < m, ?_, ?_⟩
    · refine ⟨_, rfl, sa, ns, 5, rfl, hS2, by omega, fun y => ?_⟩
      obtain ⟨t, ht, htl⟩ := emod_nat y (n := m) (by omega)
      refine ⟨_, rfl, _, _, rfl, rfl, (by show (0 : Int) < (m : Int); omega), t, ?_, rfl, htl⟩
      rw [← ht]; rfl
    rintro σ4 H3 ⟨x, rfl, rfl, hx⟩
    refine ⟨_, rfl, _, rfl, _, rfl, _, rfl, sa, ta, ns, rows, m, x, rfl, hS2, hTa, hL1, hL3, hm6, hpm, hx, fun r S a R pts H4 s4 ri bp j h0 full => ?_⟩
    have hfl : ∀ (H : Hp) p y, y ∈ S.rows → DtAt H 4 (.ref p) y → DtAt H 1 (.ref p) y := fun H p y hy q => by
      obtain ⟨ds', rfl, h1⟩ := ri.fl y hy
      exact flat_t h1 q
    have hrw := ri.rw_
    have hmd := ri.m
    refine ⟨_, rfl, r, a.dx, _, rfl, ri.rm.ins, lk_none _ _ _ (by decide +kernel), r, S, a, rfl, ri.rm, by omega, hfl _, fun lw ps H5 s5 nlw hlw hew => ?_⟩
    have hTa5 := hTa.same (s4.trans s5)
    refine ⟨_, rfl, _, rfl, _, rfl, ta, rows, m, x, rfl, hTa5, hL1, by omega, by omega, hpm, hx, fun lc N H6 s6 hc6 hN => ?_⟩
    have olt : ∀ z ∈ M24.orb (fS rows) (2 * rows.length) x N, z < m := M24.orb_all (P := fun z => z < m) hx (fun y i hy hi => (sf_ok hpm hy (M12.st_ok hi).1 (M12.st_ok hi).2).1) N
    have hNm : N ≤ m := by have := M11.nodup_len m _ (M24.orb_nd _ _ _ N) olt; omega
    have hTok := tab_ok hpm hx hN hL1 (by omega) (by omega)
    refine ⟨Nat.zero_le _, fun ld nld => ?_⟩
    have s7 := Same.upd (o := .lst []) nld
    have hd7 : upd H6 ld (.lst []) ld = some (.lst (([] : List Addr).map V.ref)) := upd_same
    generalize upd H6 ld (.lst []) = H7 at s7 hd7 ⊢
    have hcl : (M24.orb (fS rows) (2 * rows.length) x N).Nodup := M24.orb_nd _ _ _ N
    have hclo : ∀ y ∈ M24.orb (fS rows) (2 * rows.length) x N, ∀ i, i < 2 * rows.length → fS rows i y ∈ M24.orb (fS rows) (2 * rows.length) x N := fun y hy i hi => by
      obtain ⟨q, hq⟩ := List.getElem?_of_mem hy
      exact M24.orb_closed (by have := (List.getElem?_eq_some_iff.mp hq).1; omega) hq hi
    generalize hcome : M24.orb (fS rows) (2 * rows.length) x N = come at *
    refine ⟨_, rfl, lc, rfl, ⟨_, SqL.of (s7 _ _ hc6)⟩, ?_⟩
    refine for_list (K := K) (a := lc) (xs := intV (nI come)) (DInv H6 sa ta r lw lc ld pl m x rows come) ⟨[], none, rfl, s7, hd7, ⟨rfl, fun i r ns h => by simp at h⟩, by simp⟩ (fun i σ H8 _ ⟨_, _, _, s, _⟩ => SqL.of (s _ _ hc6)) ?_ ?_
    · rintro i v σ H8 hi ⟨ts, v10, rfl, s8, hd8, hr8, nd8⟩
      have hil : i < come.length := by
        have := (List.getElem?_eq_some_iff.mp hi).1
        rw [ints_len, nI_len] at this
        exact this
      have hy := List.getElem?_eq_getElem hil
      generalize come[i] = y at hy
      rw [ints_at (nI_get hy)] at hi
      obtain rfl := Option.some.inj hi
      have hyp := olt y (List.mem_of_getElem? hy)
      have hrow : (M24.tabO (fS rows) (2 * rows.length) come)[i]? = some ((List.range (2 * rows.length)).map fun k => ((M24.ix come (fS rows k y) : Nat) : Int)) := by unfold M24.tabO; rw [List.getElem?_map, hy]; rfl
      refine ⟨_, rfl, .inl ⟨rfl, _, SqL.of hd8⟩, _, rfl, rows.length, rfl, hL1, by omega, fun lS H9 s9 nS h9 => ?_⟩
      refine ⟨lS, rfl, ⟨_, SqL.of h9⟩, ?_⟩
      have hsl : (intV (stL (2 * rows.length))).length = 2 * rows.length := by rw [ints_len, stL_len]
      refine comp_make (α := Unit) (2 * rows.length) (fun i => .int (M12.st i)) (fun H2 v k => v = .int ((M24.ix come (fS rows k y) : Nat) : Int)) (fun _ _ _ _ _ h => h) (Nat.le_trans (show 2 * rows.length ≤ 1000 by omega) (by decide)) (fun k H2 s2 hk => itl_go (SqL.of (s2 _ _ h9)) k (by omega)) (fun k v H2 H3 s2 hk yl => ?_) (fun H2 s2 => ?_) (fun k H2 Rr hk s2 kk => ?_) (fun D H2 ys s2 hD hl hr => ?_)
      · obtain ⟨e1, e2⟩ := itl_yld (SqL.of (s2 _ _ h9)) k v H3 (by omega) yl
        rw [ints_at (stL_at hk)] at e2
        exact ⟨e1, (Option.some.inj e2).symm⟩
      · have := itl_stop (SqL.of (K := K) (s2 _ _ h9))
        rw [hsl] at this
        exact this
      · have hc2 : H2 lc = some (.lst (intV (nI come))) := s2 _ _ (s9 _ _ (s8 _ _ hc6))
        have hst := M12.st_ok hk
        refine ⟨_, rfl, .inl ⟨rfl, _, SqL.of hc2⟩, _, rfl, _, rfl, _, rfl, by show 1 ≤ sizeLine; decide, fun wa hwa => ?_⟩
        have sw := Same.upd (o := .tup [.int (M12.st k)]) hwa
        refine ⟨ta, wa, rows, m, y, [M12.st k], rfl, hTa5.same (s6.trans (s8.trans (s9.trans (s2.trans sw)))), hpm, hyp, by omega, upd_same, fun s hs => by rw [List.mem_singleton.mp hs]; exact hst, by omega, ?_⟩
        rw [show List.foldl (sf rows) y [M12.st k] = fS rows k y from rfl]
        have hmm := hclo y (List.mem_of_getElem? hy) k hk
        refine ⟨lc, nI come, (fS rows k y : Int), rfl, rfl, sw _ _ hc2, List.mem_map_of_mem hmm, fun i' hi' _ => kk _ _ sw ?_⟩
        have : come[i']? = some (fS rows k y) := by
          unfold nI at hi'
          rw [List.getElem?_map] at hi'
          cases e : come[i']? with
          | none => rw [e] at hi'; cases hi'
          | some q =>
            rw [e] at hi'
            have : (q : Int) = (fS rows k y : Int) := Option.some.inj hi'
            rw [show q = fS rows k y by omega]
        rw [M24.ix_at hcl this]
      · have ey : ys = intV ((List.range (2 * rows.length)).map fun k => ((M24.ix come (fS rows k y) : Nat) : Int)) := by
          refine List.ext_getElem? fun k => ?_
          by_cases hk : k < 2 * rows.length
          · have e1 := List.getElem?_eq_getElem (l := ys) (show k < ys.length by omega)
            rw [e1, hr k _ e1]
            exact (ints_at (by rw [List.getElem?_map, List.getElem?_range hk]; rfl)).symm
          · rw [List.getElem?_eq_none (by omega), List.getElem?_eq_none (by rw [ints_len, List.length_map, List.length_range]; omega)]
        subst ey
        have sD := Same.upd (o := .lst (intV ((List.range (2 * rows.length)).map fun k => ((M24.ix come (fS rows k y) : Nat) : Int)))) hD
        have hDD : upd H2 D (.lst (intV ((List.range (2 * rows.length)).map fun k => ((M24.ix come (fS rows k y) : Nat) : Int)))) D = some (.lst (intV ((List.range (2 * rows.length)).map fun k => ((M24.ix come (fS rows k y) : Nat) : Int)))) := upd_same
        generalize upd H2 D (.lst (intV ((List.range (2 * rows.length)).map fun k => ((M24.ix come (fS rows k y) : Nat) : Int)))) = HD at sD hDD ⊢
        have s8D := s9.trans (s2.trans sD)
        have hn2 : H8 D = none := s9.free (s2.free hD)
        have nD : D ≠ ld := fun e => by rw [e, hd8] at hn2; cases hn2
        refine ⟨ld, _, _, rfl, rfl, s8D _ _ hd8, ?_, ?_⟩
        · rw [List.length_map, hr8.1, List.length_take]
          exact Nat.lt_of_le_of_lt (show _ ≤ 300 by omega) (by decide)
        refine ⟨ts ++ [D], _, rfl, fun b o e => ?_, by rw [upd_same, List.map_append]; rfl, ?_, ?_⟩
        · rw [upd_ne (ne_of_none e nld)]
          exact s8D _ _ (s8 _ _ e)
        · rw [List.take_succ, hrow]
          refine RowsAt.but (w := ld) ((hr8.same s8D).snoc hDD) But.upd ?_
          intro q
          rcases List.mem_append.mp q with q | q
          · exact nd8 q
          · exact nD (List.mem_singleton.mp q).symm
        · intro q
          rcases List.mem_append.mp q with q | q
          · exact nd8 q
          · exact nD (List.mem_singleton.mp q).symm
    rintro σ H8 ⟨ts, v10, rfl, s8, hd8, hr8, nd8⟩
    rw [ints_len, nI_len, List.take_of_length_le (by unfold M24.tabO; rw [List.length_map]; exact Nat.le_refl _)] at hr8
    have hDue : TabAt H8 ld (M24.tabO (fS rows) (2 * rows.length) come) := ⟨ts, hd8, hr8⟩
    have ri8 := ri.same (s5.trans (s6.trans s8))
    have hZ := yard_z ri bp j full
    have h00 : S.eld 0 = 0 := by have := (ri.g.el 0 ri.m1).1; omega
    have ytab : ∀ {N2 : Nat}, (M24.orb (byF S) (2 * S.L) 0 N2).length = N2 → M24.tabO (byF S) (2 * S.L) (M24.orb (byF S) (2 * S.L) 0 N2) = M24.tabO (fS rows) (2 * rows.length) come := fun {N2} h => by
      rw [ri.l] at h ⊢
      rw [← hcome]
      exact yard_tab ri bp j full h0 h (by rw [hcome]; exact hN)
    have hL1' : 1 ≤ S.L := by rw [ri.l]; exact hL1
    have hL2' : S.L ≤ 40 := by rw [ri.l]; omega
    have hZ' : ∀ c, (c < S.made ∧ S.eld c = c) → c < S.made ∧ ∀ k, k < 2 * S.L → ∃ d, S.by c (M12.st k) = some d ∧ (d < S.made ∧ S.eld d = d) := by rw [ri.l]; exact hZ
    refine ⟨_, rfl, r, S, a, (fun c => c < S.made ∧ S.eld c = c), rfl, ri8.rm, hL1', hL2', by omega, ri.g.wf.w, ⟨ri.m1, h00⟩, hZ', fun lt N2 H9 s9 nlt hT9 hN2 => ?_⟩
    rw [ytab hN2] at hT9
    have hDue9 := hDue.same s9
    have ri9 := ri8.same s9
    refine ⟨fun σ' H' => σ' = [some (.ref sa), some (.bl pl), some (.int m), some (.int (rows.length : Int)), some (.ref ta), some (.int (x : Int)), some (.ref r), some (.ref lw), some (.ref lc), some (.ref ld), v10, some (.ref lt), none, none, none, none] ∧ Same H9 H', ?_, ?_⟩
    · refine ⟨_, rfl, _, rfl, lt, ld, _, rfl, hT9, hDue9, true, rfl, iteF ?_⟩
      refine ⟨_, rfl, r, S, a, (fun c => c < S.made ∧ S.eld c = c), rfl, ri9.rm, hL1', hL2', by omega, ri.g.wf.w, ⟨ri.m1, h00⟩, hZ', fun lt2 N3 H10 s10 nlt2 hT10 hN3 => ?_⟩
      rw [ytab hN3] at hT10
      refine ⟨_, rfl, lt2, lt, _, _, rfl, rfl, hT10, hT9.same s10, _, rfl, ?_⟩
      rw [decide_eq_true rfl]
      refine iteF ?_
      have ri10 := ri9.same s10
      refine ⟨_, rfl, r, a.dx, _, rfl, ri10.rm.ins, lk_none _ _ _ (by decide +kernel), r, S, a, rfl, ri10.rm, by omega, hfl _, fun lw2 ps2 H11 s11 nlw2 hlw2 hew2 => ?_⟩
      have s511 := s6.trans (s8.trans (s9.trans (s10.trans s11)))
      exact ⟨_, rfl, .l S.rows, lw2, lw, rfl, rfl, pap_dt hlw2 hew2, pap_dt (s511 _ _ hlw) (hew.imp fun p x _ _ e => e.same s511), _, rfl, iteF ⟨rfl, s10.trans s11⟩⟩
    rintro σ5 H10 ⟨rfl, s10⟩
    have s310 := s4.trans (s5.trans (s6.trans (s8.trans (s9.trans s10))))
    have hS10 := s310.seq hS2
    have hTa10 := hTa.same s310
    have hT10 := hT9.same s10
    have hD10 := hDue9.same s10
    have hc10 := s10 _ _ (s9 _ _ (s8 _ _ hc6))
    clear ri8 ri9 hDue9 hDue hT9 hZ hZ' ytab hL1' hL2' h00 full h0 j bp ri hew hlw nlw s4 s5 s6 s7 s8 s9 s10 hd7 hd8 hr8 nd8 nlt hN2 hc6 hTa5 hTa hS2 s2 hrw hmd hfl nld
    refine ⟨Nat.zero_le _, fun w0 nw0 => ?_⟩
    have u1 := Same.upd (o := .tup []) nw0
    have hw1 : upd H10 w0 (.tup []) w0 = some (.tup (intV [])) := upd_same
    generalize upd H10 w0 (.tup []) = H11 at u1 hw1 ⊢
    refine ⟨_, rfl, 63, rfl, sa, intV ns, rfl, u1.seq hS10, fun lp nlp => ?_⟩
    have ecut : cutV (intV ns) none (some 63) = intV (ns.take 63) := by
      have := cut_to (intV ns) 63
      unfold intV at this ⊢
      rw [List.map_take]; exact this
    rw [ecut]
    have hcsl : (ns.take 63).length ≤ 63 := by rw [List.length_take]; omega
    generalize ns.take 63 = cs at hcsl
    have u2 := Same.upd (o := .lst (intV cs)) nlp
    have hlp : upd H11 lp (.lst (intV cs)) lp = some (.lst (intV cs)) := upd_same
    generalize upd H11 lp (.lst (intV cs)) = H12 at u2 hlp ⊢
    refine ⟨lp, rfl, ⟨_, SqL.of hlp⟩, ?_⟩
    refine for_list (K := K) (a := lp) (xs := intV cs) (fun i σ H' => ∃ (wa : Addr) (ws : List Int) (v13 : Option V), σ = [some (.ref sa), some (.bl pl), some (.int m), some (.int (rows.length : Int)), some (.ref ta), some (.int (x : Int)), some (.ref r), some (.ref lw), some (.ref lc), some (.ref ld), v10, some (.ref lt), some (.ref wa), v13, none, none] ∧ Same H12 H' ∧ H' wa = some (.tup (intV ws)) ∧ ws.length = i ∧ M11.Steps rows.length ws) ⟨w0, [], none, rfl, fun _ _ e => e, u2 _ _ hw1, rfl, fun s hs => by cases hs⟩ (fun i σ H' _ ⟨_, _, _, _, s, _⟩ => SqL.of (s _ _ hlp)) ?_ ?_
    · rintro i v σ H13 hi ⟨wa, ws, v13, rfl, s13, hwa, hwl, hst⟩
      obtain ⟨z, rfl, hz⟩ := ints_of_at hi
      have hic := (List.getElem?_eq_some_iff.mp hz).1
      refine ⟨_, rfl, _, rfl, _, _, rfl, rfl, .inr ⟨by decide, by decide⟩, _, _, rfl, rfl, (by show (0 : Int) < 2147483647; decide), _, rfl, _, rows.length, rfl, hL1, by omega, fun s h1 h2 => ?_⟩
      refine ⟨by show 1 ≤ sizeLine; decide, fun q nq => ?_⟩
      have sq := Same.upd (o := .tup [.int s]) nq
      have hq : upd H13 q (.tup [.int s]) q = some (.tup (intV [s])) := upd_same
      generalize upd H13 q (.tup [.int s]) = H14 at sq hq ⊢
      refine ⟨wa, q, _, _, rfl, rfl, sq _ _ hwa, hq, ?_, fun p H15 s15 h15 => ?_⟩
      · rw [ints_len, ints_len]
        exact Nat.le_trans (show ws.length + 1 ≤ 100 by omega) (by decide)
      rw [← ints_app] at h15
      refine ⟨p, ws ++ [s], _, rfl, s13.trans (sq.trans s15), h15, by rw [List.length_append, hwl]; rfl, fun t ht => ?_⟩
      rcases List.mem_append.mp ht with ht | ht
      · exact hst t ht
      · rw [List.mem_singleton.mp ht]; exact ⟨h1, h2⟩
    rintro σ6 H13 ⟨wa, ws, v13, rfl, s13, hwa, hwl, hst⟩
    rw [ints_len] at hwl
    have s1013 := u1.trans (u2.trans s13)
    have hS13 := s1013.seq hS10
    have hTa13 := hTa10.same s1013
    have hT13 := hT10.same s1013
    have hD13 := hD10.same s1013
    have hc13 := s1013 _ _ hc10
    have hcp : 0 < come.length := by have := hTok.pos; unfold M24.tabO at this; rw [List.length_map] at this; omega
    have hll : ((intV (nI come)).length : Int) = (come.length : Int) := by rw [ints_len, nI_len]
    refine ⟨fun σ' H' => ∃ i : Nat, σ' = [some (.ref sa), some (.bl pl), some (.int m), some (.int (rows.length : Int)), some (.ref ta), some (.int (x : Int)), some (.ref r), some (.ref lw), some (.ref lc), some (.ref ld), v10, some (.ref lt), some (.ref wa), v13, some (.int (i : Int)), none] ∧ H' = H13 ∧ i < come.length, ?_, ?_⟩
    · refine ⟨_, rfl, sa, ns, 1, rfl, hS13, by omega, fun y => ?_⟩
      obtain ⟨t, ht, htl⟩ := emod_nat (y / 3) (n := come.length) hcp
      refine ⟨_, _, rfl, rfl, ⟨by decide, by decide⟩, _, rfl, lc, _, rfl, .inl (SqL.of hc13), _, _, rfl, rfl, (by rw [hll]; omega), t, ?_, rfl, htl⟩
      rw [← ht, ← hll]; rfl
    rintro σ7 H14 ⟨i, rfl, rfl, hi⟩
    have hTl : (M24.tabO (fS rows) (2 * rows.length) come).length = come.length := by unfold M24.tabO; rw [List.length_map]
    have hy := List.getElem?_eq_getElem hi
    generalize come[i] = y at hy
    have hwk : come[M11.walk (M24.tabO (fS rows) (2 * rows.length) come) ws i]? = some (ws.foldl (sf rows) y) := by
      have := tab_walk hpm hx (N := N) (by rw [hcome]; exact hN) ws hst (by rw [hcome]; exact hy)
      rw [hcome] at this; exact this
    have hbk := M11.walk_back hTok hst (show i < (M24.tabO (fS rows) (2 * rows.length) come).length by omega)
    rw [M11.walk_app] at hbk
    have hwlt := M11.walk_lt hTok hst (show i < (M24.tabO (fS rows) (2 * rows.length) come).length by omega)
    refine ⟨_, rfl, _, rfl, _, rfl, lt, wa, _, rows.length, i, ws, rfl, hT13, hTok, by omega, hwa, hst, ?_⟩
    generalize M11.walk (M24.tabO (fS rows) (2 * rows.length) come) ws i = f at hwk hbk hwlt ⊢
    refine ⟨fun σ' H' => σ' = [some (.ref sa), some (.bl pl), some (.int m), some (.int (rows.length : Int)), some (.ref ta), some (.int (x : Int)), some (.ref r), some (.ref lw), some (.ref lc), some (.ref ld), v10, some (.ref lt), some (.ref wa), v13, some (.int (i : Int)), some (.int (f : Int))] ∧ H' = H14, ?_, ?_⟩
    · refine ⟨_, rfl, (f : Int), rfl, true, rfl, iteF ?_⟩
      refine ⟨_, rfl, _, rfl, lc, _, _, _, rfl, rfl, SqL.of hc13, atI_nat (ints_at (nI_get hwk)), ?_⟩
      refine ⟨_, rfl, _, rfl, _, rfl, lc, _, _, _, rfl, rfl, SqL.of hc13, atI_nat (ints_at (nI_get hy)), _, rfl, ta, wa, rows, m, y, ws, rfl, hTa13, hpm, olt y (List.mem_of_getElem? hy), by omega, hwa, hst, by omega, ?_⟩
      refine ⟨rfl, _, rfl, ?_⟩
      rw [show (!decide (V.int ((ws.foldl (sf rows) y : Nat) : Int) = V.int ((ws.foldl (sf rows) y : Nat) : Int))) = false by rw [decide_eq_true rfl]; rfl]
      exact iteF ⟨rfl, rfl⟩
    rintro σ8 H15 ⟨rfl, rfl⟩
    have hzr : (intV ws).reverse.length ≤ sizeLine := by rw [List.length_reverse, ints_len]; exact Nat.le_trans (show ws.length ≤ 1000 by omega) (by decide)
    refine ⟨_, rfl, _, rfl, _, rfl, _, rfl, _, rfl, wa, _, rfl, hwa, rfl, rfl, rfl, fun q nq => ?_⟩
    have v1 := Same.upd (o := .tup (intV ws).reverse) nq
    have hq5 : upd H15 q (.tup (intV ws).reverse) q = some (.tup (intV ws).reverse) := upd_same
    generalize upd H15 q (.tup (intV ws).reverse) = H16 at v1 hq5 ⊢
    refine ⟨q, rfl, ⟨_, SqT.of hq5⟩, ?_⟩
    refine comp_pure (intV ws).reverse negV (itt_go (SqT.of hq5)) (itt_yld (SqT.of hq5)) (itt_stop (SqT.of hq5)) hzr (fun i v hv Rr hR => ?_) (fun D2 nD2 => ?_)
    · obtain ⟨z, rfl, _⟩ := ints_of_at (ns := ws.reverse) (by unfold intV at hv ⊢; rw [List.map_reverse]; exact hv)
      exact ⟨_, rfl, _, rfl, hR⟩
    have ebk : (intV ws).reverse.map negV = intV (M11.back ws) := by
      unfold intV M11.back
      rw [← List.map_reverse, List.map_map, List.map_map]
      rfl
    rw [ebk]
    refine ⟨D2, _, rfl, .inl ⟨SqL.of upd_same, fun bq nbq => ?_⟩⟩
    have v2 := v1.trans ((Same.upd (o := .lst (intV (M11.back ws))) nD2).trans (Same.upd (o := .tup (intV (M11.back ws))) nbq))
    have hb6 : upd (upd H16 D2 (.lst (intV (M11.back ws)))) bq (.tup (intV (M11.back ws))) bq = some (.tup (intV (M11.back ws))) := upd_same
    generalize upd (upd H16 D2 (.lst (intV (M11.back ws)))) bq (.tup (intV (M11.back ws))) = H17 at v2 hb6 ⊢
    refine ⟨lt, bq, _, rows.length, f, M11.back ws, rfl, hT13.same v2, hTok, hwlt, hb6, M11.steps_back hst, ?_⟩
    rw [hbk]
    refine ⟨_, rfl, rfl, ?_⟩
    rw [show decide (V.int (i : Int) = V.int (i : Int)) = true from decide_eq_true rfl]
    refine ⟨true, rfl, iteT ?_⟩
    refine ⟨_, rfl, _, rfl, lt, ld, _, _, rfl, rfl, hT13.same v2, hD13.same v2, ?_⟩
    rw [decide_eq_true rfl]
    exact k _
end
theorem all_mk {l : PySem.W.OpenLaw} {w : World} {K : PySem.W.Frag} {h : Heap} {mg : Str → Option Value} {fa : Addr} (X : K.In h) (G : h.Ns mainGlobals mg) (hfa : mg "law" = some (.ref fa))
    {C_Rooms : Addr} {f1 : Addr} {od1 an1 : Option Addr} {sl1 : Array (Option Value)} {oc1 kV1 dc1 pm1 cd1 ct1 : Value} {f2 : Addr} {od2 an2 : Option Addr} {sl2 : Array (Option Value)} {oc2 kV2 dc2 pm2 cd2 ct2 : Value} {f3 : Addr} {od3 an3 : Option Addr} {sl3 : Array (Option Value)} {oc3 kV3 dc3 pm3 cd3 ct3 : Value} {f4 : Addr} {od4 an4 : Option Addr} {sl4 : Array (Option Value)} {oc4 kV4 dc4 pm4 cd4 ct4 : Value} {f5 : Addr} {od5 an5 : Option Addr} {sl5 : Array (Option Value)} {oc5 kV5 dc5 pm5 cd5 ct5 : Value} {f6 : Addr} {od6 an6 : Option Addr} {sl6 : Array (Option Value)} {oc6 kV6 dc6 pm6 cd6 ct6 : Value} {f7 : Addr} {od7 an7 : Option Addr} {sl7 : Array (Option Value)} {oc7 kV7 dc7 pm7 cd7 ct7 : Value} {f8 : Addr} {od8 an8 : Option Addr} {sl8 : Array (Option Value)} {oc8 kV8 dc8 pm8 cd8 ct8 : Value} {f9 : Addr} {od9 an9 : Option Addr} {sl9 : Array (Option Value)} {oc9 kV9 dc9 pm9 cd9 ct9 : Value} {f10 : Addr} {od10 an10 : Option Addr} {sl10 : Array (Option Value)} {oc10 kV10 dc10 pm10 cd10 ct10 : Value} {f11 : Addr} {od11 an11 : Option Addr} {sl11 : Array (Option Value)} {oc11 kV11 dc11 pm11 cd11 ct11 : Value} {f12 : Addr} {od12 an12 : Option Addr} {sl12 : Array (Option Value)} {oc12 kV12 dc12 pm12 cd12 ct12 : Value} {f13 : Addr} {od13 an13 : Option Addr} {sl13 : Array (Option Value)} {oc13 kV13 dc13 pm13 cd13 ct13 : Value} {f14 : Addr} {od14 an14 : Option Addr} {sl14 : Array (Option Value)} {oc14 kV14 dc14 pm14 cd14 ct14 : Value} {f15 : Addr} {od15 an15 : Option Addr} {sl15 : Array (Option Value)} {oc15 kV15 dc15 pm15 cd15 ct15 : Value} {f16 : Addr} {od16 an16 : Option Addr} {sl16 : Array (Option Value)} {oc16 kV16 dc16 pm16 cd16 ct16 : Value} {f17 : Addr} {od17 an17 : Option Addr} {sl17 : Array (Option Value)} {oc17 kV17 dc17 pm17 cd17 ct17 : Value} {f18 : Addr} {od18 an18 : Option Addr} {sl18 : Array (Option Value)} {oc18 kV18 dc18 pm18 cd18 ct18 : Value} {f19 : Addr} {od19 an19 : Option Addr} {sl19 : Array (Option Value)} {oc19 kV19 dc19 pm19 cd19 ct19 : Value} {f20 : Addr} {od20 an20 : Option Addr} {sl20 : Array (Option Value)} {oc20 kV20 dc20 pm20 cd20 ct20 : Value} {f21 : Addr} {od21 an21 : Option Addr} {sl21 : Array (Option Value)} {oc21 kV21 dc21 pm21 cd21 ct21 : Value} {f22 : Addr} {od22 an22 : Option Addr} {sl22 : Array (Option Value)} {oc22 kV22 dc22 pm22 cd22 ct22 : Value} {f23 : Addr} {od23 an23 : Option Addr} {sl23 : Array (Option Value)} {oc23 kV23 dc23 pm23 cd23 ct23 : Value} {f24 : Addr} {od24 an24 : Option Addr} {sl24 : Array (Option Value)} {oc24 kV24 dc24 pm24 cd24 ct24 : Value} {f25 : Addr} {od25 an25 : Option Addr} {sl25 : Array (Option Value)} {oc25 kV25 dc25 pm25 cd25 ct25 : Value} {f26 : Addr} {od26 an26 : Option Addr} {sl26 : Array (Option Value)} {oc26 kV26 dc26 pm26 cd26 ct26 : Value}
    (y_Rooms : PySem.W.nsIn K mainGlobals "Rooms" = some (some (.ref C_Rooms)))
    (a1 : PySem.W.nsIn K mainGlobals "steps_of" = some (some (.ref f1))) (l1 : K.lookup f1 = some ⟨oc1, od1, .func (PySem.W.fnOf "steps_of" "steps_of" (defArgs s_steps_of) (defBody s_steps_of) (defScope s_steps_of) .none kV1 dc1 pm1 an1 cd1 ct1), sl1⟩) (c1 : PySem.W.codeIn K cd1 "steps_of" = true) (k1 : PySem.W.keepIn K (.ref f1) = true)
    (a2 : PySem.W.nsIn K mainGlobals "numbered" = some (some (.ref f2))) (l2 : K.lookup f2 = some ⟨oc2, od2, .func (PySem.W.fnOf "numbered" "numbered" (defArgs s_numbered) (defBody s_numbered) (defScope s_numbered) .none kV2 dc2 pm2 an2 cd2 ct2), sl2⟩) (c2 : PySem.W.codeIn K cd2 "numbered" = true) (k2 : PySem.W.keepIn K (.ref f2) = true)
    (a3 : PySem.W.nsIn K mainGlobals "led" = some (some (.ref f3))) (l3 : K.lookup f3 = some ⟨oc3, od3, .func (PySem.W.fnOf "led" "led" (defArgs s_led) (defBody s_led) (defScope s_led) .none kV3 dc3 pm3 an3 cd3 ct3), sl3⟩) (c3 : PySem.W.codeIn K cd3 "led" = true) (k3 : PySem.W.keepIn K (.ref f3) = true)
    (a4 : PySem.W.nsIn K mainGlobals "place_of" = some (some (.ref f4))) (l4 : K.lookup f4 = some ⟨oc4, od4, .func (PySem.W.fnOf "place_of" "place_of" (defArgs s_place_of) (defBody s_place_of) (defScope s_place_of) .none kV4 dc4 pm4 an4 cd4 ct4), sl4⟩) (c4 : PySem.W.codeIn K cd4 "place_of" = true) (k4 : PySem.W.keepIn K (.ref f4) = true)
    (a5 : PySem.W.nsIn K mainGlobals "all_gaps" = some (some (.ref f5))) (l5 : K.lookup f5 = some ⟨oc5, od5, .func (PySem.W.fnOf "all_gaps" "all_gaps" (defArgs s_all_gaps) (defBody s_all_gaps) (defScope s_all_gaps) .none kV5 dc5 pm5 an5 cd5 ct5), sl5⟩) (c5 : PySem.W.codeIn K cd5 "all_gaps" = true) (k5 : PySem.W.keepIn K (.ref f5) = true)
    (a6 : PySem.W.nsIn K mainGlobals "own" = some (some (.ref f6))) (l6 : K.lookup f6 = some ⟨oc6, od6, .func (PySem.W.fnOf "own" "own" (defArgs s_own) (defBody s_own) (defScope s_own) .none kV6 dc6 pm6 an6 cd6 ct6), sl6⟩) (c6 : PySem.W.codeIn K cd6 "own" = true) (k6 : PySem.W.keepIn K (.ref f6) = true)
    (a7 : PySem.W.nsIn K mainGlobals "_law_cell_at" = some (some (.ref f7))) (l7 : K.lookup f7 = some ⟨oc7, od7, .func (PySem.W.fnOf "_law_cell_at" "_law_cell_at" (defArgs s__law_cell_at) (defBody s__law_cell_at) (defScope s__law_cell_at) .none kV7 dc7 pm7 an7 cd7 ct7), sl7⟩) (c7 : PySem.W.codeIn K cd7 "_law_cell_at" = true) (k7 : PySem.W.keepIn K (.ref f7) = true)
    (a8 : PySem.W.nsIn K mainGlobals "_law_whole" = some (some (.ref f8))) (l8 : K.lookup f8 = some ⟨oc8, od8, .func (PySem.W.fnOf "_law_whole" "_law_whole" (defArgs s__law_whole) (defBody s__law_whole) (defScope s__law_whole) .none kV8 dc8 pm8 an8 cd8 ct8), sl8⟩) (c8 : PySem.W.codeIn K cd8 "_law_whole" = true) (k8 : PySem.W.keepIn K (.ref f8) = true)
    (a9 : PySem.W.nsIn K mainGlobals "_law_step" = some (some (.ref f9))) (l9 : K.lookup f9 = some ⟨oc9, od9, .func (PySem.W.fnOf "_law_step" "_law_step" (defArgs s__law_step) (defBody s__law_step) (defScope s__law_step) .none kV9 dc9 pm9 an9 cd9 ct9), sl9⟩) (c9 : PySem.W.codeIn K cd9 "_law_step" = true) (k9 : PySem.W.keepIn K (.ref f9) = true)
    (a10 : PySem.W.nsIn K mainGlobals "_law_turning" = some (some (.ref f10))) (l10 : K.lookup f10 = some ⟨oc10, od10, .func (PySem.W.fnOf "_law_turning" "_law_turning" (defArgs s__law_turning) (defBody s__law_turning) (defScope s__law_turning) .none kV10 dc10 pm10 an10 cd10 ct10), sl10⟩) (c10 : PySem.W.codeIn K cd10 "_law_turning" = true) (k10 : PySem.W.keepIn K (.ref f10) = true)
    (a11 : PySem.W.nsIn K mainGlobals "_law_moved" = some (some (.ref f11))) (l11 : K.lookup f11 = some ⟨oc11, od11, .func (PySem.W.fnOf "_law_moved" "_law_moved" (defArgs s__law_moved) (defBody s__law_moved) (defScope s__law_moved) .none kV11 dc11 pm11 an11 cd11 ct11), sl11⟩) (c11 : PySem.W.codeIn K cd11 "_law_moved" = true) (k11 : PySem.W.keepIn K (.ref f11) = true)
    (a12 : PySem.W.nsIn K mainGlobals "_law_steps" = some (some (.ref f12))) (l12 : K.lookup f12 = some ⟨oc12, od12, .func (PySem.W.fnOf "_law_steps" "_law_steps" (defArgs s__law_steps) (defBody s__law_steps) (defScope s__law_steps) .none kV12 dc12 pm12 an12 cd12 ct12), sl12⟩) (c12 : PySem.W.codeIn K cd12 "_law_steps" = true) (k12 : PySem.W.keepIn K (.ref f12) = true)
    (a13 : PySem.W.nsIn K mainGlobals "_law_orbit" = some (some (.ref f13))) (l13 : K.lookup f13 = some ⟨oc13, od13, .func (PySem.W.fnOf "_law_orbit" "_law_orbit" (defArgs s__law_orbit) (defBody s__law_orbit) (defScope s__law_orbit) .none kV13 dc13 pm13 an13 cd13 ct13), sl13⟩) (c13 : PySem.W.codeIn K cd13 "_law_orbit" = true) (k13 : PySem.W.keepIn K (.ref f13) = true)
    (a14 : PySem.W.nsIn K mainGlobals "_law_built" = some (some (.ref f14))) (l14 : K.lookup f14 = some ⟨oc14, od14, .func (PySem.W.fnOf "_law_built" "_law_built" (defArgs s__law_built) (defBody s__law_built) (defScope s__law_built) .none kV14 dc14 pm14 an14 cd14 ct14), sl14⟩) (c14 : PySem.W.codeIn K cd14 "_law_built" = true) (k14 : PySem.W.keepIn K (.ref f14) = true)
    (a15 : PySem.W.nsIn K mainGlobals "_law_same" = some (some (.ref f15))) (l15 : K.lookup f15 = some ⟨oc15, od15, .func (PySem.W.fnOf "_law_same" "_law_same" (defArgs s__law_same) (defBody s__law_same) (defScope s__law_same) .none kV15 dc15 pm15 an15 cd15 ct15), sl15⟩) (c15 : PySem.W.codeIn K cd15 "_law_same" = true) (k15 : PySem.W.keepIn K (.ref f15) = true)
    (a16 : PySem.W.nsIn K mainGlobals "law" = some (some (.ref f16))) (l16 : K.lookup f16 = some ⟨oc16, od16, .func (PySem.W.fnOf "law" "law" (defArgs s_law) (defBody s_law) (defScope s_law) .none kV16 dc16 pm16 an16 cd16 ct16), sl16⟩) (c16 : PySem.W.codeIn K cd16 "law" = true) (k16 : PySem.W.keepIn K (.ref f16) = true)
    (a17 : PySem.W.findIn K (.ref C_Rooms) "__init__" = some (some (.ref f17))) (i17 : PySem.W.isFn K (.ref f17) = true) (l17 : K.lookup f17 = some ⟨oc17, od17, .func (PySem.W.fnOf "__init__" "Rooms.__init__" (defArgs s_Rooms___init__) (defBody s_Rooms___init__) (defScope s_Rooms___init__) .none kV17 dc17 pm17 an17 cd17 ct17), sl17⟩) (c17 : PySem.W.codeIn K cd17 "Rooms.__init__" = true) (k17 : PySem.W.keepIn K (.ref f17) = true)
    (a18 : PySem.W.findIn K (.ref C_Rooms) "make" = some (some (.ref f18))) (i18 : PySem.W.isFn K (.ref f18) = true) (l18 : K.lookup f18 = some ⟨oc18, od18, .func (PySem.W.fnOf "make" "Rooms.make" (defArgs s_Rooms_make) (defBody s_Rooms_make) (defScope s_Rooms_make) .none kV18 dc18 pm18 an18 cd18 ct18), sl18⟩) (c18 : PySem.W.codeIn K cd18 "Rooms.make" = true) (k18 : PySem.W.keepIn K (.ref f18) = true)
    (a19 : PySem.W.findIn K (.ref C_Rooms) "lay" = some (some (.ref f19))) (i19 : PySem.W.isFn K (.ref f19) = true) (l19 : K.lookup f19 = some ⟨oc19, od19, .func (PySem.W.fnOf "lay" "Rooms.lay" (defArgs s_Rooms_lay) (defBody s_Rooms_lay) (defScope s_Rooms_lay) .none kV19 dc19 pm19 an19 cd19 ct19), sl19⟩) (c19 : PySem.W.codeIn K cd19 "Rooms.lay" = true) (k19 : PySem.W.keepIn K (.ref f19) = true)
    (a20 : PySem.W.findIn K (.ref C_Rooms) "by" = some (some (.ref f20))) (i20 : PySem.W.isFn K (.ref f20) = true) (l20 : K.lookup f20 = some ⟨oc20, od20, .func (PySem.W.fnOf "by" "Rooms.by" (defArgs s_Rooms_by) (defBody s_Rooms_by) (defScope s_Rooms_by) .none kV20 dc20 pm20 an20 cd20 ct20), sl20⟩) (c20 : PySem.W.codeIn K cd20 "Rooms.by" = true) (k20 : PySem.W.keepIn K (.ref f20) = true)
    (a21 : PySem.W.findIn K (.ref C_Rooms) "elder" = some (some (.ref f21))) (i21 : PySem.W.isFn K (.ref f21) = true) (l21 : K.lookup f21 = some ⟨oc21, od21, .func (PySem.W.fnOf "elder" "Rooms.elder" (defArgs s_Rooms_elder) (defBody s_Rooms_elder) (defScope s_Rooms_elder) .none kV21 dc21 pm21 an21 cd21 ct21), sl21⟩) (c21 : PySem.W.codeIn K cd21 "Rooms.elder" = true) (k21 : PySem.W.keepIn K (.ref f21) = true)
    (a22 : PySem.W.findIn K (.ref C_Rooms) "paper" = some (some (.ref f22))) (i22 : PySem.W.isFn K (.ref f22) = true) (l22 : K.lookup f22 = some ⟨oc22, od22, .func (PySem.W.fnOf "paper" "Rooms.paper" (defArgs s_Rooms_paper) (defBody s_Rooms_paper) (defScope s_Rooms_paper) .none kV22 dc22 pm22 an22 cd22 ct22), sl22⟩) (c22 : PySem.W.codeIn K cd22 "Rooms.paper" = true) (k22 : PySem.W.keepIn K (.ref f22) = true)
    (a23 : PySem.W.findIn K (.ref C_Rooms) "keep" = some (some (.ref f23))) (i23 : PySem.W.isFn K (.ref f23) = true) (l23 : K.lookup f23 = some ⟨oc23, od23, .func (PySem.W.fnOf "keep" "Rooms.keep" (defArgs s_Rooms_keep) (defBody s_Rooms_keep) (defScope s_Rooms_keep) .none kV23 dc23 pm23 an23 cd23 ct23), sl23⟩) (c23 : PySem.W.codeIn K cd23 "Rooms.keep" = true) (k23 : PySem.W.keepIn K (.ref f23) = true)
    (a24 : PySem.W.findIn K (.ref C_Rooms) "take_in" = some (some (.ref f24))) (i24 : PySem.W.isFn K (.ref f24) = true) (l24 : K.lookup f24 = some ⟨oc24, od24, .func (PySem.W.fnOf "take_in" "Rooms.take_in" (defArgs s_Rooms_take_in) (defBody s_Rooms_take_in) (defScope s_Rooms_take_in) .none kV24 dc24 pm24 an24 cd24 ct24), sl24⟩) (c24 : PySem.W.codeIn K cd24 "Rooms.take_in" = true) (k24 : PySem.W.keepIn K (.ref f24) = true)
    (a25 : PySem.W.findIn K (.ref C_Rooms) "put_together" = some (some (.ref f25))) (i25 : PySem.W.isFn K (.ref f25) = true) (l25 : K.lookup f25 = some ⟨oc25, od25, .func (PySem.W.fnOf "put_together" "Rooms.put_together" (defArgs s_Rooms_put_together) (defBody s_Rooms_put_together) (defScope s_Rooms_put_together) .none kV25 dc25 pm25 an25 cd25 ct25), sl25⟩) (c25 : PySem.W.codeIn K cd25 "Rooms.put_together" = true) (k25 : PySem.W.keepIn K (.ref f25) = true)
    (a26 : PySem.W.findIn K (.ref C_Rooms) "put_off" = some (some (.ref f26))) (i26 : PySem.W.isFn K (.ref f26) = true) (l26 : K.lookup f26 = some ⟨oc26, od26, .func (PySem.W.fnOf "put_off" "Rooms.put_off" (defArgs s_Rooms_put_off) (defBody s_Rooms_put_off) (defScope s_Rooms_put_off) .none kV26 dc26 pm26 an26 cd26 ct26), sl26⟩) (c26 : PySem.W.codeIn K cd26 "Rooms.put_off" = true) (k26 : PySem.W.keepIn K (.ref f26) = true)
    (w_pg_Rooms : PySem.W.plainGet K C_Rooms Str.empty = true)
    (w_hd_Rooms : PySem.W.hasDictIn K C_Rooms = true)
    (w_po_Rooms : PySem.W.plainOver K C_Rooms = true)
    (w_sa_Rooms : PySem.W.findIn K (.ref C_Rooms) "__setattr__" = some (some (.builtin "object.__setattr__")))
    (w_mk_Rooms : PySem.W.makesIn K C_Rooms = true)
    (w_kc_Rooms : PySem.W.keepIn K (.ref C_Rooms) = true)
    (w_n_letters : PySem.W.findIn K (.ref C_Rooms) "letters" = some none)
    (w_n_made : PySem.W.findIn K (.ref C_Rooms) "made" = some none)
    (w_n_rows : PySem.W.findIn K (.ref C_Rooms) "rows" = some none)
    (w_n_ways : PySem.W.findIn K (.ref C_Rooms) "ways" = some none)
    (w_n_gaps : PySem.W.findIn K (.ref C_Rooms) "gaps" = some none)
    (w_n_elders : PySem.W.findIn K (.ref C_Rooms) "elders" = some none)
    (w_n_called : PySem.W.findIn K (.ref C_Rooms) "called" = some none)
    (w_n_went : PySem.W.findIn K (.ref C_Rooms) "went" = some none)
    (z1 : PySem.W.nsIn K mainGlobals "min" = some none)
    (z2 : PySem.W.nsIn K mainGlobals "max" = some none)
    (z3 : PySem.W.nsIn K mainGlobals "range" = some none)
    (z4 : PySem.W.nsIn K mainGlobals "len" = some none)
    (z5 : PySem.W.nsIn K mainGlobals "tuple" = some none)
    (z6 : PySem.W.nsIn K mainGlobals "list" = some none)
    (z7 : PySem.W.nsIn K mainGlobals "isinstance" = some none)
    (z8 : PySem.W.nsIn K mainGlobals "bool" = some none)
    (z9 : PySem.W.nsIn K mainGlobals "int" = some none)
    (z10 : PySem.W.nsIn K mainGlobals "dict" = some none)
    : ∃ fd : FuncData, (∀ (s : Shared) (v : Value), BindsTo s fd ⟨[v], []⟩ [("_law_script", v)]) ∧ ∀ base : Heap, K.In base → base.Ns mainGlobals mg → FnOk l.prog w K mg base CX0 9 fa fd ["_law_script"] (spLaw K) := by
  have e := hfa.symm.trans (PySem.W.mg_of X G a16)
  cases e
  have F1 := fun_mk (st := s_steps_of) l1 c1 k1
  have D1 : Def K mg "steps_of" s_steps_of ["letters"] _ _ := ⟨F1, PySem.W.mg_of X G a1, F1.binds (ps := ["letters"]) fun _ _ _ _ _ _ us hl => match us, hl with | [_], _ => rfl⟩
  have F2 := fun_mk (st := s_numbered) l2 c2 k2
  have D2 : Def K mg "numbered" s_numbered ["rooms"] _ _ := ⟨F2, PySem.W.mg_of X G a2, F2.binds (ps := ["rooms"]) fun _ _ _ _ _ _ us hl => match us, hl with | [_], _ => rfl⟩
  have F3 := fun_mk (st := s_led) l3 c3 k3
  have D3 : Def K mg "led" s_led ["table", "room", "word"] _ _ := ⟨F3, PySem.W.mg_of X G a3, F3.binds (ps := ["table", "room", "word"]) fun _ _ _ _ _ _ us hl => match us, hl with | [_, _, _], _ => rfl⟩
  have F4 := fun_mk (st := s_place_of) l4 c4 k4
  have D4 : Def K mg "place_of" s_place_of ["step"] _ _ := ⟨F4, PySem.W.mg_of X G a4, F4.binds (ps := ["step"]) fun _ _ _ _ _ _ us hl => match us, hl with | [_], _ => rfl⟩
  have F5 := fun_mk (st := s_all_gaps) l5 c5 k5
  have D5 : Def K mg "all_gaps" s_all_gaps ["letters"] _ _ := ⟨F5, PySem.W.mg_of X G a5, F5.binds (ps := ["letters"]) fun _ _ _ _ _ _ us hl => match us, hl with | [_], _ => rfl⟩
  have F6 := fun_mk (st := s_own) l6 c6 k6
  have D6 : Def K mg "own" s_own ["value"] _ _ := ⟨F6, PySem.W.mg_of X G a6, F6.binds (ps := ["value"]) fun _ _ _ _ _ _ us hl => match us, hl with | [_], _ => rfl⟩
  have F7 := fun_mk (st := s__law_cell_at) l7 c7 k7
  have D7 : Def K mg "_law_cell_at" s__law_cell_at ["_law_script", "_law_k"] _ _ := ⟨F7, PySem.W.mg_of X G a7, F7.binds (ps := ["_law_script", "_law_k"]) fun _ _ _ _ _ _ us hl => match us, hl with | [_, _], _ => rfl⟩
  have F8 := fun_mk (st := s__law_whole) l8 c8 k8
  have D8 : Def K mg "_law_whole" s__law_whole ["_law_found"] _ _ := ⟨F8, PySem.W.mg_of X G a8, F8.binds (ps := ["_law_found"]) fun _ _ _ _ _ _ us hl => match us, hl with | [_], _ => rfl⟩
  have F9 := fun_mk (st := s__law_step) l9 c9 k9
  have D9 : Def K mg "_law_step" s__law_step ["_law_number", "_law_letters"] _ _ := ⟨F9, PySem.W.mg_of X G a9, F9.binds (ps := ["_law_number", "_law_letters"]) fun _ _ _ _ _ _ us hl => match us, hl with | [_, _], _ => rfl⟩
  have F10 := fun_mk (st := s__law_turning) l10 c10 k10
  have D10 : Def K mg "_law_turning" s__law_turning ["_law_number", "_law_many", "_law_plain"] _ _ := ⟨F10, PySem.W.mg_of X G a10, F10.binds (ps := ["_law_number", "_law_many", "_law_plain"]) fun _ _ _ _ _ _ us hl => match us, hl with | [_, _, _], _ => rfl⟩
  have F11 := fun_mk (st := s__law_moved) l11 c11 k11
  have D11 : Def K mg "_law_moved" s__law_moved ["_law_turns", "_law_point", "_law_word"] _ _ := ⟨F11, PySem.W.mg_of X G a11, F11.binds (ps := ["_law_turns", "_law_point", "_law_word"]) fun _ _ _ _ _ _ us hl => match us, hl with | [_, _, _], _ => rfl⟩
  have F12 := fun_mk (st := s__law_steps) l12 c12 k12
  have D12 : Def K mg "_law_steps" s__law_steps ["_law_letters"] _ _ := ⟨F12, PySem.W.mg_of X G a12, F12.binds (ps := ["_law_letters"]) fun _ _ _ _ _ _ us hl => match us, hl with | [_], _ => rfl⟩
  have F13 := fun_mk (st := s__law_orbit) l13 c13 k13
  have D13 : Def K mg "_law_orbit" s__law_orbit ["_law_turns", "_law_letters", "_law_first"] _ _ := ⟨F13, PySem.W.mg_of X G a13, F13.binds (ps := ["_law_turns", "_law_letters", "_law_first"]) fun _ _ _ _ _ _ us hl => match us, hl with | [_, _, _], _ => rfl⟩
  have F14 := fun_mk (st := s__law_built) l14 c14 k14
  have D14 : Def K mg "_law_built" s__law_built ["_law_script", "_law_turns", "_law_letters", "_law_first"] _ _ := ⟨F14, PySem.W.mg_of X G a14, F14.binds (ps := ["_law_script", "_law_turns", "_law_letters", "_law_first"]) fun _ _ _ _ _ _ us hl => match us, hl with | [_, _, _, _], _ => rfl⟩
  have F15 := fun_mk (st := s__law_same) l15 c15 k15
  have D15 : Def K mg "_law_same" s__law_same ["_law_table", "_law_due"] _ _ := ⟨F15, PySem.W.mg_of X G a15, F15.binds (ps := ["_law_table", "_law_due"]) fun _ _ _ _ _ _ us hl => match us, hl with | [_, _], _ => rfl⟩
  have F16 := fun_mk (st := s_law) l16 c16 k16
  have D16 : Def K mg "law" s_law ["_law_script"] _ _ := ⟨F16, PySem.W.mg_of X G a16, F16.binds (ps := ["_law_script"]) fun _ _ _ _ _ _ us hl => match us, hl with | [_], _ => rfl⟩
  have F17 := fun_mk (st := s_Rooms___init__) l17 c17 k17
  have D17 : MDef K C_Rooms "__init__" "Rooms.__init__" s_Rooms___init__ ["self", "letters"] _ _ := ⟨F17, ⟨a17, i17, k17⟩, F17.binds (ps := ["self", "letters"]) fun _ _ _ _ _ _ us hl => match us, hl with | [_, _], _ => rfl⟩
  have F18 := fun_mk (st := s_Rooms_make) l18 c18 k18
  have D18 : MDef K C_Rooms "make" "Rooms.make" s_Rooms_make ["self", "room", "step"] _ _ := ⟨F18, ⟨a18, i18, k18⟩, F18.binds (ps := ["self", "room", "step"]) fun _ _ _ _ _ _ us hl => match us, hl with | [_, _, _], _ => rfl⟩
  have F19 := fun_mk (st := s_Rooms_lay) l19 c19 k19
  have D19 : MDef K C_Rooms "lay" "Rooms.lay" s_Rooms_lay ["self", "room", "step", "other", "row"] _ _ := ⟨F19, ⟨a19, i19, k19⟩, F19.binds (ps := ["self", "room", "step", "other", "row"]) fun _ _ _ _ _ _ us hl => match us, hl with | [_, _, _, _, _], _ => rfl⟩
  have F20 := fun_mk (st := s_Rooms_by) l20 c20 k20
  have D20 : MDef K C_Rooms "by" "Rooms.by" s_Rooms_by ["self", "room", "step"] _ _ := ⟨F20, ⟨a20, i20, k20⟩, F20.binds (ps := ["self", "room", "step"]) fun _ _ _ _ _ _ us hl => match us, hl with | [_, _, _], _ => rfl⟩
  have F21 := fun_mk (st := s_Rooms_elder) l21 c21 k21
  have D21 : MDef K C_Rooms "elder" "Rooms.elder" s_Rooms_elder ["self", "room"] _ _ := ⟨F21, ⟨a21, i21, k21⟩, F21.binds (ps := ["self", "room"]) fun _ _ _ _ _ _ us hl => match us, hl with | [_, _], _ => rfl⟩
  have F22 := fun_mk (st := s_Rooms_paper) l22 c22 k22
  have D22 : MDef K C_Rooms "paper" "Rooms.paper" s_Rooms_paper ["self"] _ _ := ⟨F22, ⟨a22, i22, k22⟩, F22.binds (ps := ["self"]) fun _ _ _ _ _ _ us hl => match us, hl with | [_], _ => rfl⟩
  have F23 := fun_mk (st := s_Rooms_keep) l23 c23 k23
  have D23 : MDef K C_Rooms "keep" "Rooms.keep" s_Rooms_keep ["self", "room", "step", "other"] _ _ := ⟨F23, ⟨a23, i23, k23⟩, F23.binds (ps := ["self", "room", "step", "other"]) fun _ _ _ _ _ _ us hl => match us, hl with | [_, _, _, _], _ => rfl⟩
  have F24 := fun_mk (st := s_Rooms_take_in) l24 c24 k24
  have D24 : MDef K C_Rooms "take_in" "Rooms.take_in" s_Rooms_take_in ["self", "way", "pending"] _ _ := ⟨F24, ⟨a24, i24, k24⟩, F24.binds (ps := ["self", "way", "pending"]) fun _ _ _ _ _ _ us hl => match us, hl with | [_, _, _], _ => rfl⟩
  have F25 := fun_mk (st := s_Rooms_put_together) l25 c25 k25
  have D25 : MDef K C_Rooms "put_together" "Rooms.put_together" s_Rooms_put_together ["self", "room", "step", "one", "other", "pending"] _ _ := ⟨F25, ⟨a25, i25, k25⟩, F25.binds (ps := ["self", "room", "step", "one", "other", "pending"]) fun _ _ _ _ _ _ us hl => match us, hl with | [_, _, _, _, _, _], _ => rfl⟩
  have F26 := fun_mk (st := s_Rooms_put_off) l26 c26 k26
  have D26 : MDef K C_Rooms "put_off" "Rooms.put_off" s_Rooms_put_off ["self", "room", "pending"] _ _ := ⟨F26, ⟨a26, i26, k26⟩, F26.binds (ps := ["self", "room", "pending"]) fun _ _ _ _ _ _ us hl => match us, hl with | [_, _, _], _ => rfl⟩
  have T : Txt K mg ⟨f1, PySem.W.fnOf "steps_of" "steps_of" (defArgs s_steps_of) (defBody s_steps_of) (defScope s_steps_of) .none kV1 dc1 pm1 an1 cd1 ct1, f2, PySem.W.fnOf "numbered" "numbered" (defArgs s_numbered) (defBody s_numbered) (defScope s_numbered) .none kV2 dc2 pm2 an2 cd2 ct2, f3, PySem.W.fnOf "led" "led" (defArgs s_led) (defBody s_led) (defScope s_led) .none kV3 dc3 pm3 an3 cd3 ct3, f4, PySem.W.fnOf "place_of" "place_of" (defArgs s_place_of) (defBody s_place_of) (defScope s_place_of) .none kV4 dc4 pm4 an4 cd4 ct4, f5, PySem.W.fnOf "all_gaps" "all_gaps" (defArgs s_all_gaps) (defBody s_all_gaps) (defScope s_all_gaps) .none kV5 dc5 pm5 an5 cd5 ct5, f6, PySem.W.fnOf "own" "own" (defArgs s_own) (defBody s_own) (defScope s_own) .none kV6 dc6 pm6 an6 cd6 ct6, f7, PySem.W.fnOf "_law_cell_at" "_law_cell_at" (defArgs s__law_cell_at) (defBody s__law_cell_at) (defScope s__law_cell_at) .none kV7 dc7 pm7 an7 cd7 ct7, f8, PySem.W.fnOf "_law_whole" "_law_whole" (defArgs s__law_whole) (defBody s__law_whole) (defScope s__law_whole) .none kV8 dc8 pm8 an8 cd8 ct8, f9, PySem.W.fnOf "_law_step" "_law_step" (defArgs s__law_step) (defBody s__law_step) (defScope s__law_step) .none kV9 dc9 pm9 an9 cd9 ct9, f10, PySem.W.fnOf "_law_turning" "_law_turning" (defArgs s__law_turning) (defBody s__law_turning) (defScope s__law_turning) .none kV10 dc10 pm10 an10 cd10 ct10, f11, PySem.W.fnOf "_law_moved" "_law_moved" (defArgs s__law_moved) (defBody s__law_moved) (defScope s__law_moved) .none kV11 dc11 pm11 an11 cd11 ct11, f12, PySem.W.fnOf "_law_steps" "_law_steps" (defArgs s__law_steps) (defBody s__law_steps) (defScope s__law_steps) .none kV12 dc12 pm12 an12 cd12 ct12, f13, PySem.W.fnOf "_law_orbit" "_law_orbit" (defArgs s__law_orbit) (defBody s__law_orbit) (defScope s__law_orbit) .none kV13 dc13 pm13 an13 cd13 ct13, f14, PySem.W.fnOf "_law_built" "_law_built" (defArgs s__law_built) (defBody s__law_built) (defScope s__law_built) .none kV14 dc14 pm14 an14 cd14 ct14, f15, PySem.W.fnOf "_law_same" "_law_same" (defArgs s__law_same) (defBody s__law_same) (defScope s__law_same) .none kV15 dc15 pm15 an15 cd15 ct15, fa, PySem.W.fnOf "law" "law" (defArgs s_law) (defBody s_law) (defScope s_law) .none kV16 dc16 pm16 an16 cd16 ct16, f17, PySem.W.fnOf "__init__" "Rooms.__init__" (defArgs s_Rooms___init__) (defBody s_Rooms___init__) (defScope s_Rooms___init__) .none kV17 dc17 pm17 an17 cd17 ct17, f18, PySem.W.fnOf "make" "Rooms.make" (defArgs s_Rooms_make) (defBody s_Rooms_make) (defScope s_Rooms_make) .none kV18 dc18 pm18 an18 cd18 ct18, f19, PySem.W.fnOf "lay" "Rooms.lay" (defArgs s_Rooms_lay) (defBody s_Rooms_lay) (defScope s_Rooms_lay) .none kV19 dc19 pm19 an19 cd19 ct19, f20, PySem.W.fnOf "by" "Rooms.by" (defArgs s_Rooms_by) (defBody s_Rooms_by) (defScope s_Rooms_by) .none kV20 dc20 pm20 an20 cd20 ct20, f21, PySem.W.fnOf "elder" "Rooms.elder" (defArgs s_Rooms_elder) (defBody s_Rooms_elder) (defScope s_Rooms_elder) .none kV21 dc21 pm21 an21 cd21 ct21, f22, PySem.W.fnOf "paper" "Rooms.paper" (defArgs s_Rooms_paper) (defBody s_Rooms_paper) (defScope s_Rooms_paper) .none kV22 dc22 pm22 an22 cd22 ct22, f23, PySem.W.fnOf "keep" "Rooms.keep" (defArgs s_Rooms_keep) (defBody s_Rooms_keep) (defScope s_Rooms_keep) .none kV23 dc23 pm23 an23 cd23 ct23, f24, PySem.W.fnOf "take_in" "Rooms.take_in" (defArgs s_Rooms_take_in) (defBody s_Rooms_take_in) (defScope s_Rooms_take_in) .none kV24 dc24 pm24 an24 cd24 ct24, f25, PySem.W.fnOf "put_together" "Rooms.put_together" (defArgs s_Rooms_put_together) (defBody s_Rooms_put_together) (defScope s_Rooms_put_together) .none kV25 dc25 pm25 an25 cd25 ct25, f26, PySem.W.fnOf "put_off" "Rooms.put_off" (defArgs s_Rooms_put_off) (defBody s_Rooms_put_off) (defScope s_Rooms_put_off) .none kV26 dc26 pm26 an26 cd26 ct26, C_Rooms⟩ := ⟨D1, D2, D3, D4, D5, D6, D7, D8, D9, D10, D11, D12, D13, D14, D15, D16, D17, D18, D19, D20, D21, D22, D23, D24, D25, D26, PySem.W.mg_none_of X G z1, PySem.W.mg_none_of X G z2, PySem.W.mg_none_of X G z3, PySem.W.mg_none_of X G z4, PySem.W.mg_none_of X G z5, PySem.W.mg_none_of X G z6, PySem.W.mg_none_of X G z7, PySem.W.mg_none_of X G z8, PySem.W.mg_none_of X G z9, PySem.W.mg_none_of X G z10, PySem.W.mg_of X G y_Rooms, w_pg_Rooms, w_hd_Rooms, w_po_Rooms, w_sa_Rooms, w_mk_Rooms, w_kc_Rooms, w_n_letters, w_n_made, w_n_rows, w_n_ways, w_n_gaps, w_n_elders, w_n_called, w_n_went⟩
  exact ⟨_, fun s v => .of_eq rfl, fun base _ _ => ok_law T⟩
theorem walk {l : PySem.W.OpenLaw} {q : Program} {loose : List Str} {XP : (Str → Option Value) → Heap → Prop} {YP : World → Heap → Prop} {d : DefRec} {K : Params → PySem.W.Frag} (hn : l.most = some 63) (hdf : d.params.defaults = [])
    (hY : ∀ (w : World) (h : Heap), YP w h → (K w.params).In h)
    (F : ∀ (w : World) (mg : Str → Option Value) (fa : Addr) (h : Heap), (K w.params).In h → h.Ns mainGlobals mg → mg d.name = some (.ref fa) →
      ∃ fd : FuncData, (∀ (s : Shared) (u : Value), BindsTo s fd ⟨[u], []⟩ [("_law_script", u)]) ∧ ∀ base : Heap, (K w.params).In base → base.Ns mainGlobals mg → FnOk l.prog w (K w.params) mg base CX0 9 fa fd ["_law_script"] (spLaw (K w.params))) :
    PySem.W.WalkO q loose XP YP l.row.toRowW d [] (fun f vs => PySem.call f vs) :=
  L2.walk_of (n := 63) (k := 9) (x := "_law_script") (CX := fun w => CX0) (sp := fun w => spLaw (K w.params)) hn (by decide) hdf ⟨rfl, by decide, by decide⟩ hY F (fun _ _ a ns hl _ hS => ⟨a, ns, rfl, hS, hl, fun _ => rfl⟩) fun _ _ _ _ _ z => z
end K32
open PySem PySem.W PyProof.Rows
set_option maxRecDepth 100000 in
set_option maxHeartbeats 0 in
theorem PySem.Challenge.cw_cosetyard_k32_numbered_holds : PySem.Challenge.rw_cosetyard_k32_numbered.Holds := by
  w_on; o_law; k_head; (case hw => w_witness2)
  k_fill
  refine K32.walk (l := PySem.Challenge.rw_cosetyard_k32_numbered) rfl rfl (fun w h Y => PySem.W.kIn_of Y) ?F
  case F =>
    intro w mg fa h KX G hmg
    refine' K32.all_mk KX G hmg ?y_Rooms ?a1 ?l1 ?c1 ?k1 ?a2 ?l2 ?c2 ?k2 ?a3 ?l3 ?c3 ?k3 ?a4 ?l4 ?c4 ?k4 ?a5 ?l5 ?c5 ?k5 ?a6 ?l6 ?c6 ?k6 ?a7 ?l7 ?c7 ?k7 ?a8 ?l8 ?c8 ?k8 ?a9 ?l9 ?c9 ?k9 ?a10 ?l10 ?c10 ?k10 ?a11 ?l11 ?c11 ?k11 ?a12 ?l12 ?c12 ?k12 ?a13 ?l13 ?c13 ?k13 ?a14 ?l14 ?c14 ?k14 ?a15 ?l15 ?c15 ?k15 ?a16 ?l16 ?c16 ?k16 ?a17 ?i17 ?l17 ?c17 ?k17 ?a18 ?i18 ?l18 ?c18 ?k18 ?a19 ?i19 ?l19 ?c19 ?k19 ?a20 ?i20 ?l20 ?c20 ?k20 ?a21 ?i21 ?l21 ?c21 ?k21 ?a22 ?i22 ?l22 ?c22 ?k22 ?a23 ?i23 ?l23 ?c23 ?k23 ?a24 ?i24 ?l24 ?c24 ?k24 ?a25 ?i25 ?l25 ?c25 ?k25 ?a26 ?i26 ?l26 ?c26 ?k26 ?w_pg_Rooms ?w_hd_Rooms ?w_po_Rooms ?w_sa_Rooms ?w_mk_Rooms ?w_kc_Rooms ?w_n_letters ?w_n_made ?w_n_rows ?w_n_ways ?w_n_gaps ?w_n_elders ?w_n_called ?w_n_went ?z1 ?z2 ?z3 ?z4 ?z5 ?z6 ?z7 ?z8 ?z9 ?z10
    (case y_Rooms => k_is)
    (case a1 => k_is)
    (case l1 => k_is)
    (case c1 => k_is)
    (case k1 => k_is)
    (case a2 => k_is)
    (case l2 => k_is)
    (case c2 => k_is)
    (case k2 => k_is)
    (case a3 => k_is)
    (case l3 => k_is)
    (case c3 => k_is)
    (case k3 => k_is)
    (case a4 => k_is)
    (case l4 => k_is)
    (case c4 => k_is)
    (case k4 => k_is)
    (case a5 => k_is)
    (case l5 => k_is)
    (case c5 => k_is)
    (case k5 => k_is)
    (case a6 => k_is)
    (case l6 => k_is)
    (case c6 => k_is)
    (case k6 => k_is)
    (case a7 => k_is)
    (case l7 => k_is)
    (case c7 => k_is)
    (case k7 => k_is)
    (case a8 => k_is)
    (case l8 => k_is)
    (case c8 => k_is)
    (case k8 => k_is)
    (case a9 => k_is)
    (case l9 => k_is)
    (case c9 => k_is)
    (case k9 => k_is)
    (case a10 => k_is)
    (case l10 => k_is)
    (case c10 => k_is)
    (case k10 => k_is)
    (case a11 => k_is)
    (case l11 => k_is)
    (case c11 => k_is)
    (case k11 => k_is)
    (case a12 => k_is)
    (case l12 => k_is)
    (case c12 => k_is)
    (case k12 => k_is)
    (case a13 => k_is)
    (case l13 => k_is)
    (case c13 => k_is)
    (case k13 => k_is)
    (case a14 => k_is)
    (case l14 => k_is)
    (case c14 => k_is)
    (case k14 => k_is)
    (case a15 => k_is)
    (case l15 => k_is)
    (case c15 => k_is)
    (case k15 => k_is)
    (case a16 => k_is)
    (case l16 => k_is)
    (case c16 => k_is)
    (case k16 => k_is)
    (case a17 => k_is)
    (case i17 => k_is)
    (case l17 => k_is)
    (case c17 => k_is)
    (case k17 => k_is)
    (case a18 => k_is)
    (case i18 => k_is)
    (case l18 => k_is)
    (case c18 => k_is)
    (case k18 => k_is)
    (case a19 => k_is)
    (case i19 => k_is)
    (case l19 => k_is)
    (case c19 => k_is)
    (case k19 => k_is)
    (case a20 => k_is)
    (case i20 => k_is)
    (case l20 => k_is)
    (case c20 => k_is)
    (case k20 => k_is)
    (case a21 => k_is)
    (case i21 => k_is)
    (case l21 => k_is)
    (case c21 => k_is)
    (case k21 => k_is)
    (case a22 => k_is)
    (case i22 => k_is)
    (case l22 => k_is)
    (case c22 => k_is)
    (case k22 => k_is)
    (case a23 => k_is)
    (case i23 => k_is)
    (case l23 => k_is)
    (case c23 => k_is)
    (case k23 => k_is)
    (case a24 => k_is)
    (case i24 => k_is)
    (case l24 => k_is)
    (case c24 => k_is)
    (case k24 => k_is)
    (case a25 => k_is)
    (case i25 => k_is)
    (case l25 => k_is)
    (case c25 => k_is)
    (case k25 => k_is)
    (case a26 => k_is)
    (case i26 => k_is)
    (case l26 => k_is)
    (case c26 => k_is)
    (case k26 => k_is)
    (case w_pg_Rooms => first | k_is | kit_is | kts_exm | kernel_rfl)
    (case w_hd_Rooms => first | k_is | kit_is | kts_exm | kernel_rfl)
    (case w_po_Rooms => first | k_is | kit_is | kts_exm | kernel_rfl)
    (case w_sa_Rooms => first | k_is | kit_is | kts_exm | kernel_rfl)
    (case w_mk_Rooms => first | k_is | kit_is | kts_exm | kernel_rfl)
    (case w_kc_Rooms => first | k_is | kit_is | kts_exm | kernel_rfl)
    (case w_n_letters => first | k_is | kit_is | kts_exm | kernel_rfl)
    (case w_n_made => first | k_is | kit_is | kts_exm | kernel_rfl)
    (case w_n_rows => first | k_is | kit_is | kts_exm | kernel_rfl)
    (case w_n_ways => first | k_is | kit_is | kts_exm | kernel_rfl)
    (case w_n_gaps => first | k_is | kit_is | kts_exm | kernel_rfl)
    (case w_n_elders => first | k_is | kit_is | kts_exm | kernel_rfl)
    (case w_n_called => first | k_is | kit_is | kts_exm | kernel_rfl)
    (case w_n_went => first | k_is | kit_is | kts_exm | kernel_rfl)
    (case z1 => k_is)
    (case z2 => k_is)
    (case z3 => k_is)
    (case z4 => k_is)
    (case z5 => k_is)
    (case z6 => k_is)
    (case z7 => k_is)
    (case z8 => k_is)
    (case z9 => k_is)
    (case z10 => k_is)
