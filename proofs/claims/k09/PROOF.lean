import PyProof.Rows.All
import Wide.All
import OpenK.AllK
import Wide.FinOn
import Lean
import PyProof.EqAt
import PyProof.EqKinds
import PyProof.TupleCall
import PyProof.FString
import OpenK.KOwn
import KE.KTryMore
import PyProof.NsDelKeeps
import PyProof.StrBlock2
import PyProof.AutoListH
import KE.KIntText
import PyProof.Rows.StrIntSpec
import KE.KRevIter
import PyProof.StrWalks
import PyProof.CompUse
import PyProof.NeKinds
import PyProof.Rows.Range3
import PyProof.Rows.EnumRows
import PyProof.ConsumeWalk
import PyProof.Rows.SeqGen
import PyProof.StrLawsRepr
import PyProof.ZipIter
import PyProof.Rows.FactsT2
import PyProof.EnumMake
import PyProof.DictWalks
import PyProof.DictTruth
import PyProof.ListRange
import PyProof.ListStr
import PyProof.TupleOfGen
import PyProof.TupleOfSeq
import PyProof.MinMaxWalk
import PyProof.WalkInts
import KE.KSortAsk
import PyProof.MeetsSeq3
import KE.KRevSl
import PyProof.Rows.SeqMore
import PyProof.ListMulRoad
import PyProof.Rows.SumAny
import PyProof.SeqI3
import PyProof.AttrMissSeq
import KE.KDictOf
import PyProof.Rows.StrCut
import PyProof.Rows.StrSplitCount
import PyProof.DictItems
import PySem.Challenge.RW_cosetyard_k09_lists
-- CHANGE: your row's module here, as the last of these rows
set_option Elab.async false
set_option linter.all false
set_option maxRecDepth 100000
namespace L2
open PySem PySem.Spec PyProof.Rows
abbrev Key := Sum Int Str
def keyIs : Key → Value → Bool
  | .inl k, v => Value.isInt k v
  | .inr x, v => Value.isStrOf x v
def keyH (w : World) : Key → Int
  | .inl k => hashInt k
  | .inr x => hashStr w x
theorem keyIs_shape : ∀ {k : Key} {v : Value}, keyIs k v = true → (∃ i t, k = Sum.inl i ∧ v = Value.int i t) ∨ (∃ x t, k = Sum.inr x ∧ v = Value.str x t)
  | .inl i, v, h => by
    obtain ⟨t, e⟩ := Value.isInt_shape (k := i) (v := v) h
    exact .inl ⟨i, t, rfl, e⟩
  | .inr x, v, h => by
    obtain ⟨t, e⟩ := Value.isStrOf_shape (x := x) (v := v) h
    exact .inr ⟨x, t, rfl, e⟩
theorem keyIs_int (i : Int) (t : Tok) : keyIs (.inl i) (.int i t) = true := by simp [keyIs, Value.isInt]
theorem keyIs_str (x : Str) (t : Tok) : keyIs (.inr x) (.str x t) = true := by simp [keyIs, Value.isStrOf]
theorem key_ll (a b : Int) : decide ((Sum.inl a : Key) = Sum.inl b) = (a == b) := by
  by_cases e : a = b
  · subst e; simp
  · have h : ¬ (Sum.inl a : Key) = Sum.inl b := fun q => e (Sum.inl.inj q)
    rw [decide_eq_false h]
    exact (beq_eq_false_iff_ne.mpr e).symm
theorem key_rr (a b : Str) : decide ((Sum.inr a : Key) = Sum.inr b) = decide (a = b) := by
  by_cases e : a = b
  · subst e; simp
  · have h : ¬ (Sum.inr a : Key) = Sum.inr b := fun q => e (Sum.inr.inj q)
    rw [decide_eq_false h, decide_eq_false e]
theorem key_lr (a : Int) (b : Str) : decide ((Sum.inl a : Key) = Sum.inr b) = false := decide_eq_false (fun q => nomatch q)
theorem key_rl (a : Str) (b : Int) : decide ((Sum.inr a : Key) = Sum.inl b) = false := decide_eq_false (fun q => nomatch q)
def mixKind (prog : Program) (w : World) : PySem.KeyKind prog w Key where
  is := keyIs
  hash := keyH w
  inj := fun v a b ha hb => by
    rcases keyIs_shape ha with ⟨i, t, rfl, rfl⟩ | ⟨x, t, rfl, rfl⟩
    · rcases keyIs_shape hb with ⟨j, u, rfl, e⟩ | ⟨y, u, rfl, e⟩
      · injection e with e1 _; rw [e1]
      · exact nomatch e
    · rcases keyIs_shape hb with ⟨j, u, rfl, e⟩ | ⟨y, u, rfl, e⟩
      · exact nomatch e
      · injection e with e1 _; rw [e1]
  byValue := fun k v h => by
    rcases keyIs_shape h with ⟨i, t, rfl, rfl⟩ | ⟨x, t, rfl, rfl⟩ <;> rfl
  pyHash := fun hv h => by
    rcases keyIs_shape hv with ⟨i, t, rfl, rfl⟩ | ⟨x, t, rfl, rfl⟩
    · exact wpAny_pyHash_int h
    · exact wpAny_pyHash_str h
  eqBool := fun hu hv h => by
    rcases keyIs_shape hu with ⟨i, t, rfl, rfl⟩ | ⟨x, t, rfl, rfl⟩
    · rcases keyIs_shape hv with ⟨j, u, rfl, rfl⟩ | ⟨y, u, rfl, rfl⟩
      · rw [key_ll] at h; exact wpAny_eqBool_int h
      · rw [key_lr] at h; exact SeqAt.EqAt.int_str i t y u _ _ _ _ h
    · rcases keyIs_shape hv with ⟨j, u, rfl, rfl⟩ | ⟨y, u, rfl, rfl⟩
      · rw [key_rl] at h; exact SeqAt.EqAt.str_int x t j u _ _ _ _ h
      · rw [key_rr] at h; exact wpAny_eqBool_str h
  «strs» := fun k x t v h => by
    rcases keyIs_shape h with ⟨i, u, rfl, e⟩ | ⟨y, u, rfl, e⟩
    · exact nomatch e
    · injection e with e1 _
      subst e1
      cases v <;> rfl
theorem mixKind_int (prog : Program) (w : World) (i : Int) (t : Tok) : (mixKind prog w).is (.inl i) (.int i t) = true := keyIs_int i t
theorem mixKind_str (prog : Program) (w : World) (x : Str) (t : Tok) : (mixKind prog w).is (.inr x) (.str x t) = true := keyIs_str x t
end L2
namespace L2
open PySem PySem.Spec PyProof.Rows
inductive V where
  | non | bl (b : Bool) | int (i : Int) | str (x : Str) | byt (b : Array UInt8) | flt (b : UInt64) | ref (a : Addr) | ty (n : String)
  deriving DecidableEq
def RelV : V → Value → Prop
  | .non, u => u = Value.none
  | .bl b, u => u = Value.bool b
  | .int i, u => ∃ t, u = Value.int i t
  | .str x, u => ∃ t, u = Value.str x t
  | .byt b, u => ∃ t, u = Value.bytes b t
  | .flt b, u => ∃ t, u = Value.float b t
  | .ref a, u => u = Value.ref a
  | .ty n, u => u = Value.type n
abbrev Vals : List V → List Value → Prop := Paired RelV
theorem Vals.length {xs : List V} {us : List Value} (r : Vals xs us) : xs.length = us.length := Paired.length r
theorem Vals.get : ∀ {xs : List V} {us : List Value} {i : Nat} {x : V}, Vals xs us → xs[i]? = some x → ∃ u, us[i]? = some u ∧ RelV x u
  | _, _, _, _, .nil, e => by simp at e
  | _, _, 0, _, .cons r _, e => by simp at e; subst e; exact ⟨_, rfl, r⟩
  | _, _, i + 1, x, .cons _ t, e => by
    obtain ⟨u, h1, h2⟩ := Vals.get (i := i) (x := x) t (by simpa using e)
    exact ⟨u, by simpa using h1, h2⟩
theorem Vals.set {x : V} {u : Value} (r : RelV x u) : ∀ {xs : List V} {us : List Value} (i : Nat), Vals xs us → Vals (xs.set i x) (us.set i u)
  | _, _, _, .nil => .nil
  | _, _, 0, .cons _ t => .cons r t
  | _, _, i + 1, .cons q t => .cons q (Vals.set r i t)
theorem Vals.append : ∀ {xs ys : List V} {us ws : List Value}, Vals xs us → Vals ys ws → Vals (xs ++ ys) (us ++ ws)
  | _, _, _, _, .nil, s => s
  | _, _, _, _, .cons r t, s => .cons r (Vals.append t s)
theorem Vals.take : ∀ {xs : List V} {us : List Value} (n : Nat), Vals xs us → Vals (xs.take n) (us.take n)
  | _, _, 0, _ => .nil
  | _, _, _ + 1, .nil => .nil
  | _, _, n + 1, .cons r t => .cons r (Vals.take n t)
theorem Vals.drop : ∀ {xs : List V} {us : List Value} (n : Nat), Vals xs us → Vals (xs.drop n) (us.drop n)
  | _, _, 0, r => r
  | _, _, _ + 1, .nil => .nil
  | _, _, n + 1, .cons _ t => Vals.drop n t
def RelO : Option V → Option Value → Prop
  | some v, some u => RelV v u
  | none, none => True
  | _, _ => False
def KV {κ : Type} : List (κ × V) → List (κ × Value) → Prop := Paired fun (p : κ × V) (q : κ × Value) => p.1 = q.1 ∧ RelV p.2 q.2
def kV : Key → V
  | .inl i => .int i
  | .inr x => .str x
inductive HO where
  /-- a list -/
  | lst (xs : List V)
  /-- a tuple (never changes) -/
  | tup (xs : List V)
  /-- a dict whose keys are ints and texts; one whose keys are tuples of ints and texts (the empty one is both) -/
  | dK (kvs : List (Key × V)) | dT (kvs : List (List Key × V))
  /-- a set of ints: its members, its size -/
  | set (S : Int → Bool) (n : Nat)
  /-- an instance of the class at C, its dict at dx, its attributes -/
  | ins (C dx : Addr) (fs : List (Str × V))
  /-- the dict of the instance at x -/
  | own (x : Addr)
  /-- the dict of an exception -/
  | xd (fs : List (Str × V))
  /-- a bound method, f of x -/
  | met (f x : Addr)
  /-- a range object lo, lo + 1, .. below hi -/
  | rng (lo hi : Int)
  /-- a thing that is known to the object (the script; a dict while a loop walks it): read, never written while it is so -/
  | frz (o : Obj) (u : HO)
  /-- a code object's table -/
  | tbl (ps : Array Value)
  /-- any other thing, by what is true of its one object (a def of one's own: SetO a S n := HO.ext fun h => ..) -/
  | ext (φ : Heap → Prop)
abbrev Hp := Addr → Option HO
def upd (H : Hp) (a : Addr) (o : HO) : Hp := fun b => if b = a then some o else H b
theorem upd_same {H : Hp} {a : Addr} {o : HO} : upd H a o a = some o := by unfold upd; rw [if_pos rfl]
theorem upd_ne {H : Hp} {a b : Addr} {o : HO} (h : b ≠ a) : upd H a o b = H b := by unfold upd; rw [if_neg h]
theorem upd_upd {H : Hp} {a : Addr} {o u : HO} : upd (upd H a o) a u = upd H a u := by
  funext b; unfold upd; split <;> rfl
theorem ne_of {H : Hp} {a b : Addr} {o u : HO} (h : H a = some o) (h' : H b = some u) (d : o ≠ u) : a ≠ b := by
  intro e; subst e; rw [h] at h'; exact d (Option.some.inj h')
theorem ne_of_none {H : Hp} {a b : Addr} {o : HO} (h : H a = some o) (h' : H b = none) : a ≠ b := by
  intro e; subst e; rw [h] at h'; cases h'
section
variable (P : Program) (w : World)
def ObjOk (H : Hp) (h : Heap) (a : Addr) : HO → Prop
  | .lst xs => xs.length ≤ sizeLine ∧ ∃ (its : List Value) (n : Nat), Vals xs its ∧ h.get? a = some { cls := .type "list", data := .seq its.toArray n }
  | .tup xs => xs.length ≤ sizeLine ∧ ∃ its : List Value, Vals xs its ∧ IsTup h a its.toArray
  | .dK kvs => kvs.length ≤ sizeLine ∧ (a == sysModules) = false ∧ ∃ vs, KV kvs vs ∧ h.DictOf (mixKind P w) a vs
  | .dT kvs => kvs.length ≤ sizeLine ∧ (a == sysModules) = false ∧ ∃ xs : List (List Key × Addr × Value),
      Paired (fun (p : List Key × V) (q : List Key × Addr × Value) => p.1 = q.1 ∧ H q.2.1 = some (.tup (p.1.map kV)) ∧ RelV p.2 q.2.2) kvs xs ∧
      ∃ o es ep, h.get? a = some o ∧ o.ExactDict ∧ o.data = .dict es ep ∧ es.toList = xs.map (entryOfKey (tupleKind (mixKind P w))) ∧ (xs.map (·.1)).Nodup
  | .set S n => h.SetOf (intKind P w) a S n
  | .ins C dx fs => H dx = some (.own a) ∧ fs.length ≤ 1000 ∧ dx ≠ a ∧ h.get? a = some (PySem.W.instObj C dx) ∧
      ∃ mA, h.Ns1 dx mA ∧ (∀ f, RelO (fs.lookup f) (mA f)) ∧ PySem.Within mA (fs.map (·.1))
  | .own _ => ∃ o, h.get? a = some o
  | .xd fs => ∃ mA, h.Ns1 a mA ∧ ∀ f, RelO (fs.lookup f) (mA f)
  | .rng lo hi => ∃ t u v, h.get? a = some { cls := .type "range", data := .fields #[.int lo t, .int hi u, .int 1 v] }
  | .frz o u => h.get? a = some o ∧ ObjOk H h a u
  | .tbl ps => h.get? a = some { cls := .none, data := .fields ps }
  | .met f x => h.get? a = some (PySem.W.methodObj (.ref f) (.ref x))
  | .ext φ => φ h ∧ (∃ o, h.get? a = some o) ∧ ∀ h1 h2 : Heap, φ h1 → (∀ o, h1.get? a = some o → h2.get? a = some o) → φ h2
def HOk (H : Hp) (h : Heap) : Prop := ∀ a o, H a = some o → ObjOk P w H h a o
end
section
variable {P : Program} {w : World} {H H' : Hp} {h h' : Heap} {a : Addr} {o : HO}
theorem ObjOk.lt (x : ObjOk P w H h a o) : a < h.objs.size := by
  cases o with
  | lst xs => obtain ⟨_, _, _, _, e⟩ := x; exact Heap.lt_size e
  | tup xs => obtain ⟨_, _, _, p⟩ := x; exact p.lt
  | dK kvs => obtain ⟨_, _, _, _, o, _, _, e, _⟩ := x; exact Heap.lt_size e
  | dT kvs => obtain ⟨_, _, _, _, o, _, _, e, _⟩ := x; exact Heap.lt_size e
  | set S n => obtain ⟨o, _, _, _, e, _⟩ := x; exact Heap.lt_size e
  | ins C dx fs => obtain ⟨_, _, _, e, _⟩ := x; exact Heap.lt_size e
  | own y => obtain ⟨_, e⟩ := x; exact Heap.lt_size e
  | xd fs => obtain ⟨_, ⟨_, _, _, e, _⟩, _⟩ := x; exact Heap.lt_size e
  | rng lo hi => obtain ⟨_, _, _, e⟩ := x; exact Heap.lt_size e
  | frz ob u => obtain ⟨e, _⟩ := x; exact Heap.lt_size e
  | tbl ps => exact Heap.lt_size (show h.get? a = some _ from x)
  | met f y => exact Heap.lt_size (show h.get? a = some _ from x)
  | ext φ => obtain ⟨_, ⟨_, e⟩, _⟩ := x; exact Heap.lt_size e
theorem Paired.mapP {α β : Type} {F G : α → β → Prop} : ∀ {l₁ : List α} {l₂ : List β}, Paired F l₁ l₂ → (∀ a b, F a b → G a b) → Paired G l₁ l₂
  | _, _, .nil, _ => .nil
  | _, _, .cons r t, f => .cons (f _ _ r) (Paired.mapP t f)
theorem ObjOk.stay (x : ObjOk P w H h a o) (k : ∀ b u, (b = a ∨ H b = some (.own a)) → h.get? b = some u → h'.get? b = some u)
    (ho : ∀ b, H b = some (.own a) → H' b = some (.own a)) (ht : ∀ b xs, H b = some (.tup xs) → H' b = some (.tup xs)) : ObjOk P w H' h' a o := by
  induction o with
  | lst xs => obtain ⟨z, its, n, r, e⟩ := x; exact ⟨z, its, n, r, k _ _ (.inl rfl) e⟩
  | tup xs => obtain ⟨z, its, r, ob, e, c⟩ := x; exact ⟨z, its, r, ob, k _ _ (.inl rfl) e, c⟩
  | dK kvs => obtain ⟨z, y, vs, r, ob, es, ep, e, c⟩ := x; exact ⟨z, y, vs, r, ob, es, ep, k _ _ (.inl rfl) e, c⟩
  | dT kvs =>
    obtain ⟨z, y, xs, r, ob, es, ep, e, c⟩ := x
    exact ⟨z, y, xs, Paired.mapP r fun p q z => ⟨z.1, ht _ _ z.2.1, z.2.2⟩, ob, es, ep, k _ _ (.inl rfl) e, c⟩
  | set S n => obtain ⟨ob, es, ep, t, e, c⟩ := x; exact ⟨ob, es, ep, t, k _ _ (.inl rfl) e, c⟩
  | ins C dx fs =>
    obtain ⟨d, z, ne, e, mA, ⟨od, es, ep, e2, c⟩, r⟩ := x
    exact ⟨ho _ d, z, ne, k _ _ (.inl rfl) e, mA, ⟨od, es, ep, k _ _ (.inr d) e2, c⟩, r⟩
  | own y => obtain ⟨ob, e⟩ := x; exact ⟨ob, k _ _ (.inl rfl) e⟩
  | xd fs => obtain ⟨mA, ⟨od, es, ep, e, c⟩, r⟩ := x; exact ⟨mA, ⟨od, es, ep, k _ _ (.inl rfl) e, c⟩, r⟩
  | rng lo hi => obtain ⟨t, u, v, e⟩ := x; exact ⟨t, u, v, k _ _ (.inl rfl) e⟩
  | frz ob u ih => obtain ⟨e, q⟩ := x; exact ⟨k _ _ (.inl rfl) e, ih q⟩
  | tbl ps =>
    have e : h.get? a = some { cls := .none, data := .fields ps } := x
    show h'.get? a = some { cls := .none, data := .fields ps }
    exact k a _ (.inl rfl) e
  | met f y =>
    have e : h.get? a = some (PySem.W.methodObj (.ref f) (.ref y)) := x
    show h'.get? a = some (PySem.W.methodObj (.ref f) (.ref y))
    exact k a _ (.inl rfl) e
  | ext φ => obtain ⟨p, ⟨o, e⟩, st⟩ := x; exact ⟨st _ _ p fun o q => k _ _ (.inl rfl) q, ⟨o, k _ _ (.inl rfl) e⟩, st⟩
theorem HOk.lt (x : HOk P w H h) (e : H a = some o) : a < h.objs.size := (x a o e).lt
theorem HOk.fresh (x : HOk P w H h) (e : h.objs.size ≤ a) : H a = none := by
  cases q : H a with
  | none => rfl
  | some u => exact absurd (Nat.lt_of_lt_of_le (x.lt q) e) (Nat.lt_irrefl _)
theorem HOk.kept (x : HOk P w H h) (k : ∀ b u, h.get? b = some u → h'.get? b = some u) : HOk P w H h' := fun a o e =>
  (x a o e).stay (fun b u _ q => k b u q) (fun _ q => q) fun _ _ q => q
theorem HOk.laid (x : HOk P w H h) (k : ∀ b u, h.get? b = some u → h'.get? b = some u) (hp : h.objs.size ≤ a) (new : ObjOk P w (upd H a o) h' a o) : HOk P w (upd H a o) h' := fun b u e => by
  have hn := x.fresh hp
  by_cases hb : b = a
  · subst hb; rw [upd_same] at e; cases e; exact new
  · rw [upd_ne hb] at e
    exact (x b u e).stay (fun c v _ q => k c v q) (fun c q => by rw [upd_ne (ne_of_none q hn)]; exact q) fun c xs q => by rw [upd_ne (ne_of_none q hn)]; exact q
end
def Rd (H : Hp) (a : Addr) (u : HO) : Prop := H a = some u ∨ ∃ o, H a = some (.frz o u)
theorem Rd.of {H : Hp} {a : Addr} {u : HO} (h : H a = some u) : Rd H a u := .inl h
theorem Rd.ok {P : Program} {w : World} {H : Hp} {h : Heap} {a : Addr} {u : HO} (r : Rd H a u) (x : HOk P w H h) : ObjOk P w H h a u := by
  rcases r with r | ⟨o, r⟩
  · exact x a u r
  · obtain ⟨_, q⟩ := x a _ r
    exact q
def Mut : Option HO → Prop
  | some (.lst _) => True
  | some (.dK _) => True
  | some (.dT _) => True
  | some (.set _ _) => True
  | some (.ins _ _ _) => True
  | some (.ext _) => True
  | _ => False
section
variable {P : Program} {w : World} {H : Hp} {h h' : Heap} {x e : Addr} {o' : HO}
theorem HOk.write (ok : HOk P w H h) (mu : Mut (H x)) (he : e = x ∨ H e = some (.own x)) (k : ∀ b u, b ≠ e → h.get? b = some u → h'.get? b = some u) (heo : ∃ u, h'.get? e = some u)
    (new : ObjOk P w (upd H x o') h' x o') : HOk P w (upd H x o') h' := fun b u q => by
  have nown : ∀ c y, H c = some (.own y) → c ≠ x := fun c y r z => by subst z; rw [r] at mu; exact mu
  have ntup : ∀ c xs, H c = some (.tup xs) → c ≠ x := fun c xs r z => by subst z; rw [r] at mu; exact mu
  by_cases hb : b = x
  · subst hb; rw [upd_same] at q; cases q; exact new
  · rw [upd_ne hb] at q
    by_cases hbe : b = e
    · have q' : H b = some (.own x) := by
        rcases he with z | z
        · exact absurd (hbe.trans z) hb
        · rw [hbe]; exact z
      rw [q] at q'; cases q'
      obtain ⟨v, hv⟩ := heo
      exact ⟨v, by rw [hbe]; exact hv⟩
    · refine (ok b u q).stay (fun c v hc r => k c v ?_ r) (fun c r => by rw [upd_ne (nown c b r)]; exact r) fun c xs r => by rw [upd_ne (ntup c xs r)]; exact r
      rcases hc with rfl | hc
      · exact hbe
      · rintro rfl
        rcases he with z | z
        · exact nown c b hc z
        · rw [hc] at z; cases z; exact hb rfl
end
structure Un (fs ex : List Addr) (H H' : Hp) (h h' : Heap) : Prop where
  keep : ∀ b o, h.get? b = some o → H b = none → b ∉ fs → b ∉ ex → h'.get? b = some o
  slot : ∀ b o, h.get? b = some o → H b = none → b ∈ fs → b ∉ ex → ∃ sl, h'.get? b = some { o with slots := sl }
  free : ∀ b o, h.get? b = some o → H b = none → b ∉ ex → H' b = none
  there : ∀ b o, h.get? b = some o → b ∉ ex → ∃ o', h'.get? b = some o'
  tups : ∀ b xs, H b = some (.tup xs) → H' b = some (.tup xs)
  frzs : ∀ b o u, H b = some (.frz o u) → H' b = some (.frz o u)
  tbls : ∀ b ps, H b = some (.tbl ps) → ∃ more, H' b = some (.tbl (ps ++ more))
section
variable {fs fs' ex ex' : List Addr} {H H1 H2 : Hp} {h h1 h2 h' : Heap} {a x e : Addr} {o : HO}
theorem Un.any (u : Un fs ex H H1 h h1) {b : Addr} {ob : Obj} (q : h.get? b = some ob) (n : H b = none) (hx : b ∉ ex) : ∃ sl, h1.get? b = some { ob with slots := sl } := by
  by_cases hb : b ∈ fs
  · exact u.slot b ob q n hb hx
  · exact ⟨ob.slots, u.keep b ob q n hb hx⟩
theorem Un.trans (a : Un fs ex H H1 h h1) (b : Un fs ex H1 H2 h1 h2) : Un fs ex H H2 h h2 where
  keep := fun c ob q n hc hx => b.keep c ob (a.keep c ob q n hc hx) (a.free c ob q n hx) hc hx
  slot := fun c ob q n hc hx => by
    obtain ⟨sl, e1⟩ := a.slot c ob q n hc hx
    obtain ⟨sl', e2⟩ := b.slot c _ e1 (a.free c ob q n hx) hc hx
    exact ⟨sl', e2⟩
  free := fun c ob q n hx => by
    obtain ⟨o', e1⟩ := a.there c ob q hx
    exact b.free c o' e1 (a.free c ob q n hx) hx
  there := fun c ob q hx => by
    obtain ⟨o', e1⟩ := a.there c ob q hx
    exact b.there c o' e1 hx
  tups := fun c xs q => b.tups c xs (a.tups c xs q)
  frzs := fun c ob xs q => b.frzs c ob xs (a.frzs c ob xs q)
  tbls := fun c ps q => by
    obtain ⟨m1, e1⟩ := a.tbls c ps q
    obtain ⟨m2, e2⟩ := b.tbls c _ e1
    exact ⟨m1 ++ m2, by rw [e2, Array.append_assoc]⟩
theorem Un.kept (k : ∀ b u, h.get? b = some u → h'.get? b = some u) : Un fs ex H H h h' :=
  ⟨fun b ob q _ _ _ => k b ob q, fun b ob q _ _ _ => ⟨ob.slots, k b ob q⟩, fun _ _ _ n _ => n, fun b ob q _ => ⟨ob, k b ob q⟩, fun _ _ q => q, fun _ _ _ q => q, fun _ ps q => ⟨#[], by rw [q]; simp⟩⟩
theorem Un.refl : Un fs ex H H h h := Un.kept fun _ _ q => q
theorem Un.laid (k : ∀ b u, h.get? b = some u → h'.get? b = some u) (hp : h.objs.size ≤ a) (hn : H a = none) : Un fs ex H (upd H a o) h h' where
  keep := fun b u q _ _ _ => k b u q
  slot := fun b u q _ _ _ => ⟨u.slots, k b u q⟩
  free := fun b u q n _ => by rw [upd_ne (Nat.ne_of_lt (Nat.lt_of_lt_of_le (Heap.lt_size q) hp))]; exact n
  there := fun b u q _ => ⟨u, k b u q⟩
  tups := fun b xs q => by rw [upd_ne (ne_of_none q hn)]; exact q
  frzs := fun b u xs q => by rw [upd_ne (ne_of_none q hn)]; exact q
  tbls := fun b ps q => ⟨#[], by rw [upd_ne (ne_of_none q hn), q]; simp⟩
theorem Un.write (mu : Mut (H x)) (he : e = x ∨ H e = some (.own x)) (k : ∀ b u, b ≠ e → h.get? b = some u → h'.get? b = some u) (heo : ∃ u, h'.get? e = some u) : Un fs ex H (upd H x o) h h' := by
  have hx : ∀ b, H b = none → b ≠ x := fun b n z => by subst z; rw [n] at mu; exact mu
  have hb : ∀ b, H b = none → b ≠ e := fun b n z => by
    subst z
    rcases he with r | r
    · exact hx b n r
    · rw [n] at r; cases r
  have hm : ∀ b u, H b = some u → ¬ Mut (some u) → b ≠ x := fun b u q nm z => by subst z; rw [q] at mu; exact nm mu
  refine ⟨fun b u q n _ _ => k b u (hb b n) q, fun b u q n _ _ => ⟨u.slots, k b u (hb b n) q⟩, fun b u q n _ => by rw [upd_ne (hx b n)]; exact n, fun b u q _ => ?_,
    fun b xs q => by rw [upd_ne (hm b _ q fun z => z)]; exact q, fun b u xs q => by rw [upd_ne (hm b _ q fun z => z)]; exact q, fun b ps q => ⟨#[], by rw [upd_ne (hm b _ q fun z => z), q]; simp⟩⟩
  by_cases hbe : b = e
  · subst hbe; exact heo
  · exact ⟨u, k b u hbe q⟩
theorem Un.mono (u : Un fs ex H H1 h h1) (hs : ∀ b ∈ fs, b ∈ fs') (hx : ∀ b ∈ ex, b ∈ ex') : Un fs' ex' H H1 h h1 :=
  ⟨fun b ob q n hb he => u.keep b ob q n (fun z => hb (hs b z)) fun z => he (hx b z), fun _ _ q n _ he => u.any q n fun z => he (hx _ z), fun b ob q n he => u.free b ob q n fun z => he (hx b z), fun b ob q he => u.there b ob q fun z => he (hx b z), u.tups, u.frzs, u.tbls⟩
end
def trk (h : Heap) (H : Hp) : List Addr := (List.range h.objs.size).filter fun a => (H a).isSome
def hidT (h : Heap) (H : Hp) : Heap := PySem.W.hideAll h (trk h H)
theorem hidT_size (h : Heap) (H : Hp) : (hidT h H).objs.size = h.objs.size := PySem.W.hideAll_size _ _
theorem hidT_get {h : Heap} {H : Hp} {b : Addr} {o : Obj} (e : h.get? b = some o) (n : H b = none) : (hidT h H).get? b = some o :=
  PySem.W.hideAll_get _ e fun hm => by
    have q : (H b).isSome = true := (List.mem_filter.mp hm).2
    rw [n] at q; simp at q
theorem of_hidT {h : Heap} {H : Hp} {b : Addr} {o : Obj} (e : (hidT h H).get? b = some o) : h.get? b = some o ∧ H b = none := by
  have e' : h.get? b = some o := PySem.W.of_hideAll (trk h H) e
  refine ⟨e', ?_⟩
  cases q : H b with
  | none => rfl
  | some x =>
    have hm : b ∈ trk h H := List.mem_filter.mpr ⟨List.mem_range.mpr (Heap.lt_size e'), by simp [q]⟩
    have z : (hidT h H).get? b = none := PySem.W.hideAll_none (trk h H) hm
    rw [z] at e; cases e
def allNews (g h : Heap) (L : Addr) : List (Addr × Obj) := (List.range h.objs.size).filterMap fun a => if a = L ∨ (g.get? a).isSome = true then none else (h.get? a).map fun o => (a, o)
def rest (g h : Heap) (L d : Addr) : List (Addr × Obj) := (allNews g h L).filter fun p => decide (p.1 ≠ d)
end L2
namespace L2
open PySem PySem.Spec PyProof.Rows
structure Mod (K : PySem.W.Frag) (mg : Str → Option Value) (base : Heap) : Prop where
  kin : K.In base
  glob : base.Ns mainGlobals mg
  blt : ∃ mb, base.Ns builtinsNs mb ∧ ∀ x : Str, x ≠ "__name__" → mb x = bootBuiltins x
  nolimit : base.NoLimit
structure Cx where
  prog : Program
  w : World
  K : PySem.W.Frag
  mg : Str → Option Value
  base : Heap
  A : Around
  N : List Str
  s₀ : Shared
  H₀ : Hp
  env : Env
  outer : List Env
  stack : List Env
  ex : List Addr
  fn : Str → Bool
  calm : Bool
  pn : List (Addr × Obj)
  xe : Value → Shared → Prop
def frs (l : List Env) : List Addr := l.filterMap (·.frame)
abbrev Cx.fs (X : Cx) : List Addr := frs X.outer
def Vis (sc : Scope) (x : Str) : Prop := sc.names.lookup x = some .local ∨ sc.names.lookup x = some .cell ∨ sc.names.lookup x = some .free
def Loc (sc : Scope) (x : Str) : Prop := sc.names.lookup x = some .local ∨ sc.names.lookup x = some .cell
def Look (env : Env) (h : Heap) (m : Str → Option Value) (x : Str) (u : Value) : Prop :=
  (env.kindOf x = some .local ∧ m x = some u) ∨ ((env.kindOf x = some .cell ∨ env.kindOf x = some .free) ∧ ∃ c, env.cells.lookup x = some c ∧ h.IsCell c (some u))
structure Cx.Ok (X : Cx) : Prop where
  mod : Mod X.K X.mg X.base
  kind : X.env.scope.kind = .function
  glob : X.env.globals = mainGlobals
  blt : X.env.builtins = builtinsNs
  above : X.s₀.heap.objs.size ≤ X.env.locals
  inj : ∀ x y c, X.env.cells.lookup x = some c → X.env.cells.lookup y = some c → x = y
  has : ∀ x, (X.env.kindOf x = some .cell ∨ X.env.kindOf x = some .free) → ∃ c, X.env.cells.lookup x = some c
  cab : ∀ x c, X.fn x = true → X.env.cells.lookup x = some c → X.s₀.heap.objs.size ≤ c
  hd : X.calm = true → X.A.handled = none
  frames : X.A.frames = some X.stack
  stk : X.stack = X.outer ∨ (X.stack = X.env :: X.outer ∧ X.env.frame = some X.env.locals)
  exf : ∀ b ∈ X.ex, b ≠ X.env.locals ∧ ∀ x c, X.env.cells.lookup x = some c → c ≠ b
  bs : ∀ b o, X.base.get? b = some o → X.s₀.heap.get? b = some o ∧ X.H₀ b = none
  bsz : X.base.objs.size ≤ X.s₀.heap.objs.size
  noex : ∀ b o, X.base.get? b = some o → b ∉ X.ex
  exfs : ∀ b ∈ X.ex, b ∉ X.fs
  funs : X.s₀.heap.FunFrames X.base X.outer
  frf : ∀ b ∈ X.fs, X.H₀ b = none
structure Inv (X : Cx) (pins : List (Addr × Obj)) (σ : List (Option V)) (H : Hp) (s : Shared) : Prop where
  ok : X.Ok
  os : s.os = X.s₀.os
  bare : AllBare s.gens
  base : Un X.fs X.ex X.H₀ H X.s₀.heap s.heap
  loc : ∃ m, s.heap.Ns X.env.locals m ∧ ∀ (i : Nat) (x : Str) (v : V), X.N[i]? = some x → σ[i]? = some (some v) → Vis X.env.scope x → ∃ u, RelV v u ∧ Look X.env s.heap m x u
  cell : ∀ x c, X.env.cells.lookup x = some c → ∃ v, s.heap.IsCell c v
  free : H X.env.locals = none
  freeC : ∀ x c, X.env.cells.lookup x = some c → H c = none
  pin : ∀ p ∈ X.pn ++ pins, s.heap.get? p.1 = some p.2 ∧ H p.1 = none ∧ p.1 ≠ X.env.locals ∧ p.1 ∉ X.fs ∧ ∀ v, p.2.data ≠ .cell v
  hok : HOk X.prog X.w H s.heap
  len : σ.length = X.N.length
section
variable {X : Cx} {pins : List (Addr × Obj)} {σ : List (Option V)} {H H' : Hp} {s : Shared} {h' : Heap}
theorem Cx.Ok.nofr (ok : X.Ok) {b : Addr} {o : Obj} (e : X.base.get? b = some o) : b ∉ X.fs := fun hb => by
  have := (ok.funs.mem hb).1
  rw [e] at this; cases this
theorem Inv.bs (I : Inv X pins σ H s) : ∀ b o, X.base.get? b = some o → s.heap.get? b = some o ∧ H b = none := fun b o e =>
  ⟨I.base.keep b o (I.ok.bs b o e).1 (I.ok.bs b o e).2 (I.ok.nofr e) (I.ok.noex b o e), I.base.free b o (I.ok.bs b o e).1 (I.ok.bs b o e).2 (I.ok.noex b o e)⟩
theorem Inv.bk (I : Inv X pins σ H s) : ∀ b o, X.base.get? b = some o → s.heap.get? b = some o := fun b o e => (I.bs b o e).1
theorem Inv.mod (I : Inv X pins σ H s) : Mod X.K X.mg X.base := I.ok.mod
theorem Inv.kIn (I : Inv X pins σ H s) : X.K.In s.heap := I.ok.mod.kin.keeps I.bk
theorem Inv.nolimit (I : Inv X pins σ H s) : s.heap.NoLimit := I.ok.mod.nolimit.keeps I.bk
theorem Inv.fr (I : Inv X pins σ H s) : ∃ m, Fr X.base X.env.locals s.heap m :=
  let ⟨m, hn, _⟩ := I.loc
  ⟨m, hn, I.bk, Nat.le_trans I.ok.bsz I.ok.above⟩
theorem Inv.lt (I : Inv X pins σ H s) : X.env.locals < s.heap.objs.size := let ⟨_, hn, _⟩ := I.loc; hn.lt
theorem Inv.sz (I : Inv X pins σ H s) : X.s₀.heap.objs.size ≤ s.heap.objs.size := Nat.le_trans I.ok.above (Nat.le_of_lt I.lt)
theorem Inv.nofs (I : Inv X pins σ H s) {a : Addr} (h : s.heap.objs.size ≤ a) : a ∉ X.fs := fun hb => by
  obtain ⟨_, o, ho, _⟩ := I.ok.funs.mem hb
  exact absurd (Nat.lt_of_lt_of_le (Heap.lt_size ho) (Nat.le_trans I.sz h)) (Nat.lt_irrefl _)
theorem Inv.cne (I : Inv X pins σ H s) : ∀ x c, X.env.cells.lookup x = some c → c ≠ X.env.locals := fun x c e z => by
  obtain ⟨v, o, ho, hd⟩ := I.cell x c e
  obtain ⟨m, ⟨o', es, ep, ho', hd', _⟩, _⟩ := I.loc
  rw [z, ho'] at ho; cases ho; rw [hd'] at hd; cases hd
theorem Inv.funs (I : Inv X pins σ H s) : s.heap.FunFrames X.base X.outer := by
  have all : ∀ (l : List Env), (∀ b ∈ frs l, b ∈ X.fs) → X.s₀.heap.FunFrames X.base l → s.heap.FunFrames X.base l := by
    intro l
    induction l with
    | nil => intro _ _; trivial
    | cons env r ih =>
      intro hs hl
      obtain ⟨hk, ⟨L, o, hf, hn, ho, hd⟩, hr⟩ := hl
      have hL : L ∈ X.fs := hs L (by unfold frs; rw [List.filterMap_cons, hf]; exact List.mem_cons_self)
      obtain ⟨sl, e⟩ := I.base.slot L o ho (I.ok.frf L hL) hL fun z => I.ok.exfs L z hL
      exact ⟨hk, ⟨L, _, hf, hn, e, hd⟩, ih (fun b hb => hs b (by unfold frs; rw [List.filterMap_cons, hf]; exact List.mem_cons_of_mem _ hb)) hr⟩
  exact all X.outer (fun _ hb => hb) I.ok.funs
theorem Inv.stack (I : Inv X pins σ H s) : s.heap.FunFrames X.base X.stack := by
  rcases I.ok.stk with e | ⟨e, hf⟩
  · rw [e]; exact I.funs
  · rw [e]
    obtain ⟨m, hn, _⟩ := I.loc
    refine .cons (by rw [I.ok.kind]; decide) hf hn ?_ I.funs
    exact Heap.get?_none_of_le (Nat.le_trans I.ok.bsz I.ok.above)
theorem Inv.stkSub (I : Inv X pins σ H s) : ∀ b ∈ frs X.stack, b ∈ X.env.locals :: X.fs := fun b hb => by
  rcases I.ok.stk with e | ⟨e, hf⟩
  · rw [e] at hb; exact List.mem_cons_of_mem _ hb
  · rw [e] at hb
    unfold frs at hb
    rw [List.filterMap_cons, hf] at hb
    exact hb
theorem Inv.stkFree (I : Inv X pins σ H s) : ∀ b ∈ frs X.stack, H b = none := fun b hb => by
  rcases List.mem_cons.mp (I.stkSub b hb) with e | hb
  · rw [e]; exact I.free
  · obtain ⟨_, o, ho, _⟩ := I.ok.funs.mem hb
    exact I.base.free b o ho (I.ok.frf b hb) fun z => I.ok.exfs b z hb
theorem Inv.step {g' : Array GenState} {t' : Nat} {d' : Drawn} {ch : List Addr} (I : Inv X pins σ H s)
    (hch : ∀ b ∈ ch, (b ∈ X.ex ∨ X.s₀.heap.objs.size ≤ b) ∧ b ≠ X.env.locals ∧ (∀ x c, X.env.cells.lookup x = some c → c ≠ b) ∧ ∀ p ∈ X.pn ++ pins, p.1 ≠ b)
    (keep : ∀ b o, b ≠ X.env.locals → b ∉ X.fs → b ∉ ch → s.heap.get? b = some o → H b = none → h'.get? b = some o)
    (slot : ∀ b o, b ≠ X.env.locals → b ∈ X.fs → b ∉ ch → s.heap.get? b = some o → H b = none → ∃ sl, h'.get? b = some { o with slots := sl }) (free : ∀ b o, b ∉ ch → s.heap.get? b = some o → H b = none → H' b = none)
    (there : ∀ b o, b ∉ ch → s.heap.get? b = some o → ∃ o', h'.get? b = some o')
    (tups : ∀ b xs, H b = some (.tup xs) → H' b = some (.tup xs)) (frzs : ∀ b o u, H b = some (.frz o u) → H' b = some (.frz o u)) (tbls : ∀ b ps, H b = some (.tbl ps) → ∃ more, H' b = some (.tbl (ps ++ more)))
    (ns : ∀ m, s.heap.Ns X.env.locals m → h'.Ns X.env.locals m) (hok : HOk X.prog X.w H' h') (hg : AllBare g') :
    Inv X pins σ H' { s with heap := h', gens := g', drawn := d', toks := t' } := by
  have neL : ∀ b o, X.s₀.heap.get? b = some o → b ≠ X.env.locals := fun b o e => Nat.ne_of_lt (Nat.lt_of_lt_of_le (Heap.lt_size e) I.ok.above)
  have neC : ∀ b o, X.s₀.heap.get? b = some o → b ∉ X.ex → b ∉ ch := fun b o e hx hb => by
    rcases (hch b hb).1 with z | z
    · exact hx z
    · exact absurd (Nat.lt_of_lt_of_le (Heap.lt_size e) z) (Nat.lt_irrefl _)
  have cellK : ∀ x c, X.env.cells.lookup x = some c → ∀ v, s.heap.IsCell c v → h'.IsCell c v := fun x c e v ⟨o, ho, hd⟩ => by
    have nch : c ∉ ch := fun z => (hch c z).2.2.1 x c e rfl
    by_cases hc : c ∈ X.fs
    · obtain ⟨sl, q⟩ := slot c o (I.cne x c e) hc nch ho (I.freeC x c e)
      exact ⟨_, q, hd⟩
    · exact ⟨o, keep c o (I.cne x c e) hc nch ho (I.freeC x c e), hd⟩
  refine ⟨I.ok, I.os, hg, ⟨fun b o e n hb hx => ?_, fun b o e n hb hx => ?_, fun b o e n hx => ?_, fun b o e hx => ?_, fun b xs e => tups b xs (I.base.tups b xs e), fun b o xs e => frzs b o xs (I.base.frzs b o xs e), fun b ps e => ?_⟩, ?_, fun x c e => ?_, ?_, fun x c e => ?_, fun p hp => ?_, hok, I.len⟩
  · exact keep b o (neL b o e) hb (neC b o e hx) (I.base.keep b o e n hb hx) (I.base.free b o e n hx)
  · obtain ⟨sl, e1⟩ := I.base.slot b o e n hb hx
    obtain ⟨sl', e2⟩ := slot b _ (neL b o e) hb (neC b o e hx) e1 (I.base.free b o e n hx)
    exact ⟨sl', e2⟩
  · obtain ⟨o', e1⟩ := I.base.there b o e hx
    exact free b o' (neC b o e hx) e1 (I.base.free b o e n hx)
  · obtain ⟨o', e1⟩ := I.base.there b o e hx
    exact there b o' (neC b o e hx) e1
  · obtain ⟨m1, e1⟩ := I.base.tbls b ps e
    obtain ⟨m2, e2⟩ := tbls b _ e1
    exact ⟨m1 ++ m2, by rw [e2, Array.append_assoc]⟩
  · obtain ⟨m, hn, hl⟩ := I.loc
    refine ⟨m, ns m hn, fun i x v e1 e2 e3 => ?_⟩
    obtain ⟨u, r, l⟩ := hl i x v e1 e2 e3
    refine ⟨u, r, ?_⟩
    rcases l with l | ⟨k, c, e, z⟩
    · exact .inl l
    · exact .inr ⟨k, c, e, cellK x c e _ z⟩
  · obtain ⟨v, z⟩ := I.cell x c e
    exact ⟨v, cellK x c e v z⟩
  · obtain ⟨m, ⟨o, _, _, ho, _⟩, _⟩ := I.loc
    exact free _ o (fun z => (hch _ z).2.1 rfl) ho I.free
  · obtain ⟨v, o, ho, hd⟩ := I.cell x c e
    exact free c o (fun z => (hch c z).2.2.1 x c e rfl) ho (I.freeC x c e)
  · obtain ⟨e, n, ne, nf, d⟩ := I.pin p hp
    have nch : p.1 ∉ ch := fun z => (hch p.1 z).2.2.2 p hp rfl
    exact ⟨keep p.1 p.2 ne nf nch e n, free p.1 p.2 nch e n, ne, nf, d⟩
theorem Inv.un {t' : Nat} (I : Inv X pins σ H s) (u : Un X.fs [] H H' s.heap h') (hok : HOk X.prog X.w H' h') : Inv X pins σ H' { s with heap := h', toks := t' } := by
  obtain ⟨m, ⟨o, es, ep, ho, r⟩, _⟩ := id I.loc
  obtain ⟨sl, hL⟩ := u.any ho I.free (by simp)
  exact I.step (g' := s.gens) (d' := s.drawn) (ch := []) (fun _ z => nomatch z) (fun b o _ hb _ e n => u.keep b o e n hb (by simp)) (fun b o _ hb _ e n => u.slot b o e n hb (by simp)) (fun b o _ e n => u.free b o e n (by simp)) (fun b o _ e => u.there b o e (by simp)) u.tups u.frzs u.tbls (fun m' hm => by
    obtain ⟨o', es', ep', ho', r'⟩ := hm
    rw [ho] at ho'; cases ho'
    exact ⟨_, es', ep', hL, r'⟩) hok I.bare
theorem Inv.call {g' : Array GenState} {t' : Nat} {d' : Drawn} {ch : List Addr} (I : Inv X pins σ H s) (u : Un (frs X.stack) ch H H' s.heap h') (hok : HOk X.prog X.w H' h') (hg : AllBare g')
    (hch : ∀ b ∈ ch, (b ∈ X.ex ∨ X.s₀.heap.objs.size ≤ b) ∧ b ≠ X.env.locals ∧ (∀ x c, X.env.cells.lookup x = some c → c ≠ b) ∧ ∀ p ∈ X.pn ++ pins, p.1 ≠ b) :
    Inv X pins σ H' { s with heap := h', gens := g', drawn := d', toks := t' } := by
  obtain ⟨m, ⟨o, es, ep, ho, r⟩, _⟩ := id I.loc
  obtain ⟨sl, hL⟩ := u.any ho I.free fun z => (hch _ z).2.1 rfl
  exact I.step (ch := ch) hch (fun b o hL hb hc e n => u.keep b o e n (fun z => (List.mem_cons.mp (I.stkSub b z)).elim hL hb) hc) (fun b o _ _ hc e n => u.any e n hc) (fun b o hc e n => u.free b o e n hc) (fun b o hc e => u.there b o e hc) u.tups u.frzs u.tbls (fun m' hm => by
    obtain ⟨o', es', ep', ho', r'⟩ := hm
    rw [ho] at ho'; cases ho'
    exact ⟨_, es', ep', hL, r'⟩) hok hg
theorem Inv.turned {t' : Nat} {it : Addr} (I : Inv X pins σ H s) (k : ∀ b o, b ≠ it → s.heap.get? b = some o → h'.get? b = some o) (hn : H it = none) (hL : it ≠ X.env.locals)
    (h1 : it ∈ X.ex ∨ X.s₀.heap.objs.size ≤ it) (h2 : ∀ x c, X.env.cells.lookup x = some c → c ≠ it) (h3 : ∀ p ∈ X.pn ++ pins, p.1 ≠ it) : Inv X pins σ H { s with heap := h', toks := t' } := by
  have nit : ∀ b u, H b = some u → b ≠ it := fun b u e z => by rw [z, hn] at e; cases e
  refine I.step (g' := s.gens) (d' := s.drawn) (ch := [it]) (fun b hb => ?_) (fun b o _ _ hc e _ => k b o (fun z => hc (by simp [z])) e) (fun b o _ _ hc e _ => ⟨o.slots, k b o (fun z => hc (by simp [z])) e⟩) (fun _ _ _ _ n => n)
    (fun b o hc e => ⟨o, k b o (fun z => hc (by simp [z])) e⟩) (fun _ _ e => e) (fun _ _ _ e => e) (fun b ps e => ⟨#[], by rw [e]; simp⟩) (fun m hm => ?_) (fun b u e => ?_) I.bare
  · have e : b = it := by simpa using hb
    subst e
    exact ⟨h1, hL, h2, h3⟩
  · obtain ⟨o, es, ep, ho, r⟩ := hm
    exact ⟨o, es, ep, k _ o (Ne.symm hL) ho, r⟩
  · refine (I.hok b u e).stay (fun c v hc q => k c v ?_ q) (fun _ q => q) fun _ _ q => q
    rcases hc with z | z
    · rw [z]; exact nit b u e
    · exact nit c _ z
theorem Inv.tok (I : Inv X pins σ H s) (t : Nat) : Inv X pins σ H { s with toks := t } := I.un (h' := s.heap) (t' := t) Un.refl I.hok
theorem Inv.kept {t' : Nat} (I : Inv X pins σ H s) (k : ∀ b u, s.heap.get? b = some u → h'.get? b = some u) : Inv X pins σ H { s with heap := h', toks := t' } := I.un (Un.kept k) (I.hok.kept k)
theorem Inv.laid {a : Addr} {o : HO} {t' : Nat} (I : Inv X pins σ H s) (k : ∀ b u, s.heap.get? b = some u → h'.get? b = some u) (hp : s.heap.objs.size ≤ a) (new : ObjOk X.prog X.w (upd H a o) h' a o) :
    Inv X pins σ (upd H a o) { s with heap := h', toks := t' } := I.un (Un.laid k hp (I.hok.fresh hp)) (I.hok.laid k hp new)
theorem Inv.write {x e : Addr} {o : HO} {t' : Nat} (I : Inv X pins σ H s) (mu : Mut (H x)) (he : e = x ∨ H e = some (.own x)) (k : ∀ b u, b ≠ e → s.heap.get? b = some u → h'.get? b = some u) (heo : ∃ u, h'.get? e = some u)
    (new : ObjOk X.prog X.w (upd H x o) h' x o) : Inv X pins σ (upd H x o) { s with heap := h', toks := t' } := I.un (Un.write mu he k heo) (I.hok.write mu he k heo new)
theorem Inv.pins_of {pins' : List (Addr × Obj)} (I : Inv X pins σ H s) (h : ∀ p ∈ pins', s.heap.get? p.1 = some p.2 ∧ H p.1 = none ∧ p.1 ≠ X.env.locals ∧ p.1 ∉ X.fs ∧ ∀ v, p.2.data ≠ .cell v) : Inv X pins' σ H s :=
  ⟨I.ok, I.os, I.bare, I.base, I.loc, I.cell, I.free, I.freeC, fun p hp => (List.mem_append.mp hp).elim (fun z => I.pin p (List.mem_append_left _ z)) (h p), I.hok, I.len⟩
theorem nodup_ix {N : List Str} (hN : N.Nodup) {i j : Nat} {x : Str} (a : N[i]? = some x) (b : N[j]? = some x) : i = j := by
  obtain ⟨h1, e1⟩ := List.getElem?_eq_some_iff.mp a
  obtain ⟨h2, e2⟩ := List.getElem?_eq_some_iff.mp b
  exact (List.getElem_inj hN).mp (e1.trans e2.symm)
theorem store_ok2 {M : Model} {A : Around} {E : Value → Shared → Prop} {i : Nat} {x : Str} {v : V} {u : Value} {Q : Unit → Shared → Prop} (I : Inv X pins σ H s) (hN : X.N.Nodup) (hi : X.N[i]? = some x) (hx : Loc X.env.scope x) (r : RelV v u)
    (h : ∀ s', Inv X pins (σ.set i (some v)) H s' → (∃ a, Heap.SameBut a s.heap s'.heap ∧ (a = X.env.locals ∨ X.env.cells.lookup x = some a)) → Q () s') (hf : X.fn x = true ∨ X.env.scope.names.lookup x = some .local := by first | exact .inl rfl | exact .inr rfl | assumption) : wpAny M A (storeName X.env x u) Q E s := by
  obtain ⟨m, hn, hl⟩ := id I.loc
  have hcls : (X.env.scope.kind == .class || (X.env.scope.kind == .module && X.env.locals != X.env.globals)) = false := by rw [I.ok.kind]; rfl
  have hiσ : i < σ.length := by rw [I.len]; exact (List.getElem?_eq_some_iff.mp hi).1
  have cne := I.cne
  have tracked : ∀ {a : Addr} {h' : Heap}, (∃ o, s.heap.get? a = some o ∧ H a = none) → Heap.SameBut a s.heap h' → HOk X.prog X.w H h' := fun {a h'} ha hs b ob e => by
    obtain ⟨_, _, hfree⟩ := ha
    refine (I.hok b ob e).stay (fun c w' hc q => (hs.2 c ?_).trans q) (fun _ q => q) fun _ _ q => q
    rintro rfl
    rcases hc with rfl | hc
    · rw [hfree] at e; cases e
    · rw [hfree] at hc; cases hc
  rcases hx with hk | hk
  · refine wpAny_storeName_local hk hn (fun h' hn' hs => ?_) hcls
    obtain ⟨oL, _, _, hoL, _⟩ := id hn
    refine h _ ⟨I.ok, I.os, I.bare, ⟨fun b o e n hb hx => ?_, fun b o e n hb hx => ?_, I.base.free, fun b o e hx => ?_, I.base.tups, I.base.frzs, I.base.tbls⟩, ⟨_, hn', fun j y v' e1 e2 e3 => ?_⟩, fun y c e => ?_, I.free, I.freeC, fun p hp => ?_, tracked ⟨oL, hoL, I.free⟩ hs, by simpa using I.len⟩ ⟨_, hs, .inl rfl⟩
    · exact (hs.2 b (Nat.ne_of_lt (Nat.lt_of_lt_of_le (Heap.lt_size e) I.ok.above))).trans (I.base.keep b o e n hb hx)
    · obtain ⟨sl, e1⟩ := I.base.slot b o e n hb hx
      exact ⟨sl, (hs.2 b (Nat.ne_of_lt (Nat.lt_of_lt_of_le (Heap.lt_size e) I.ok.above))).trans e1⟩
    · obtain ⟨o', e1⟩ := I.base.there b o e hx
      exact ⟨o', (hs.2 b (Nat.ne_of_lt (Nat.lt_of_lt_of_le (Heap.lt_size e) I.ok.above))).trans e1⟩
    · by_cases hj : j = i
      · subst hj
        rw [hi] at e1; cases e1
        rw [List.getElem?_set_self hiσ] at e2
        cases e2
        exact ⟨u, r, .inl ⟨hk, by simp⟩⟩
      · rw [List.getElem?_set_ne (Ne.symm hj)] at e2
        obtain ⟨u', r', q⟩ := hl j y v' e1 e2 e3
        refine ⟨u', r', ?_⟩
        rcases q with ⟨k, e⟩ | ⟨k, c, e, z⟩
        · refine .inl ⟨k, ?_⟩
          have : y ≠ x := fun e => hj (nodup_ix hN e1 (e ▸ hi))
          simp [this, e]
        · exact .inr ⟨k, c, e, z.sameBut hs (cne y c e)⟩
    · obtain ⟨w', z⟩ := I.cell y c e
      exact ⟨w', z.sameBut hs (cne y c e)⟩
    · obtain ⟨e, n, ne, nf, d⟩ := I.pin p hp
      exact ⟨(hs.2 p.1 ne).trans e, n, ne, nf, d⟩
  · have hfn : X.fn x = true := by
      rcases hf with z | z
      · exact z
      · rw [z] at hk; cases hk
    obtain ⟨c, hc⟩ := I.ok.has x (.inl hk)
    obtain ⟨w', z⟩ := I.cell x c hc
    refine wpAny_storeName_cell I.ok.kind hk hc z (fun h' hc' hs => ?_)
    obtain ⟨oc, hoc, hocd⟩ := id z
    refine h { s with heap := h' } ⟨I.ok, I.os, I.bare, ⟨fun b o e n hb hx => ?_, fun b o e n hb hx => ?_, I.base.free, fun b o e hx => ?_, I.base.tups, I.base.frzs, I.base.tbls⟩, ⟨m, hn.sameBut hs (Ne.symm (cne x c hc)), fun j y v' e1 e2 e3 => ?_⟩, fun y c' e => ?_, I.free, I.freeC, fun p hp => ?_, tracked ⟨oc, hoc, I.freeC x c hc⟩ hs, by simpa using I.len⟩ ⟨c, hs, .inr hc⟩
    · exact (hs.2 b (Nat.ne_of_lt (Nat.lt_of_lt_of_le (Heap.lt_size e) (I.ok.cab x c hfn hc)))).trans (I.base.keep b o e n hb hx)
    · obtain ⟨sl, e1⟩ := I.base.slot b o e n hb hx
      exact ⟨sl, (hs.2 b (Nat.ne_of_lt (Nat.lt_of_lt_of_le (Heap.lt_size e) (I.ok.cab x c hfn hc)))).trans e1⟩
    · obtain ⟨o', e1⟩ := I.base.there b o e hx
      exact ⟨o', (hs.2 b (Nat.ne_of_lt (Nat.lt_of_lt_of_le (Heap.lt_size e) (I.ok.cab x c hfn hc)))).trans e1⟩
    · by_cases hj : j = i
      · subst hj
        rw [hi] at e1; cases e1
        rw [List.getElem?_set_self hiσ] at e2
        cases e2
        exact ⟨u, r, .inr ⟨.inl hk, c, hc, hc'⟩⟩
      · rw [List.getElem?_set_ne (Ne.symm hj)] at e2
        obtain ⟨u', r', q⟩ := hl j y v' e1 e2 e3
        refine ⟨u', r', ?_⟩
        rcases q with q | ⟨k, c', e, z'⟩
        · exact .inl q
        · refine .inr ⟨k, c', e, z'.sameBut hs ?_⟩
          rintro rfl
          exact hj (nodup_ix hN e1 (I.ok.inj _ _ _ e hc ▸ hi))
    · by_cases hcc : c' = c
      · subst hcc; exact ⟨_, hc'⟩
      · obtain ⟨w2, z2⟩ := I.cell y c' e
        exact ⟨w2, z2.sameBut hs hcc⟩
    · obtain ⟨e, n, ne, nf, d⟩ := I.pin p hp
      refine ⟨(hs.2 p.1 ?_).trans e, n, ne, nf, d⟩
      intro q
      rw [q, hoc] at e
      have q' : oc = p.2 := Option.some.inj e
      exact d w' (by rw [← q']; exact hocd)
theorem store_ok {M : Model} {A : Around} {E : Value → Shared → Prop} {i : Nat} {x : Str} {v : V} {u : Value} {Q : Unit → Shared → Prop} (I : Inv X pins σ H s) (hN : X.N.Nodup) (hi : X.N[i]? = some x) (hx : Loc X.env.scope x) (r : RelV v u)
    (h : ∀ s', Inv X pins (σ.set i (some v)) H s' → Q () s') (hf : X.fn x = true ∨ X.env.scope.names.lookup x = some .local := by first | exact .inl rfl | exact .inr rfl | assumption) : wpAny M A (storeName X.env x u) Q E s :=
  store_ok2 I hN hi hx r (fun s' I' _ => h s' I') hf
theorem Inv.call' {s' : Shared} {ch : List Addr} (I : Inv X pins σ H s) (ho : s'.os = s.os) (u : Un (frs X.stack) ch H H' s.heap s'.heap) (hok : HOk X.prog X.w H' s'.heap) (hg : AllBare s'.gens)
    (hch : ∀ b ∈ ch, (b ∈ X.ex ∨ X.s₀.heap.objs.size ≤ b) ∧ b ≠ X.env.locals ∧ (∀ x c, X.env.cells.lookup x = some c → c ≠ b) ∧ ∀ p ∈ X.pn ++ pins, p.1 ≠ b) : Inv X pins σ H' s' := by
  obtain ⟨h', g', d', t', o'⟩ := s'
  have e : o' = s.os := ho
  subst e
  exact I.call (g' := g') (t' := t') (d' := d') u hok hg hch
end
abbrev XK := Value → Option Addr → Hp → Prop
abbrev St := List (Option V)
abbrev VK := V → Hp → Prop
abbrev TE := St → Hp → VK → Prop
abbrev TT := St → Hp → (Bool → Hp → Prop) → Prop
abbrev TA := St → Hp → (List V → Hp → Prop) → Prop
structure Ends where
  nx : St → Hp → Prop
  rt : VK
  bk : St → Hp → Prop := fun _ _ => False
  ct : St → Hp → Prop := fun _ _ => False
abbrev TS := Ends → St → Hp → Prop
def EP (X : Cx) (pins : List (Addr × Obj)) (σ : St) (Q : VK) (u : Value) (s' : Shared) : Prop := ∃ v H', Inv X pins σ H' s' ∧ RelV v u ∧ Q v H'
def TP (X : Cx) (pins : List (Addr × Obj)) (σ : St) (Q : Bool → Hp → Prop) (b : Bool) (s' : Shared) : Prop := ∃ H', Inv X pins σ H' s' ∧ Q b H'
def AP (X : Cx) (pins : List (Addr × Obj)) (σ : St) (Q : List V → Hp → Prop) (us : List Value) (s' : Shared) : Prop := ∃ vs H', Inv X pins σ H' s' ∧ Vals vs us ∧ Q vs H'
def SP (X : Cx) (pins : List (Addr × Obj)) (D : Ends) (f : Flow) (s' : Shared) : Prop :=
  match f with
  | .next => ∃ σ' H', Inv X pins σ' H' s' ∧ D.nx σ' H'
  | .brk => ∃ σ' H', Inv X pins σ' H' s' ∧ D.bk σ' H'
  | .cont => ∃ σ' H', Inv X pins σ' H' s' ∧ D.ct σ' H'
  | .ret u => ∃ v σ' H', Inv X pins σ' H' s' ∧ RelV v u ∧ D.rt v H'
def PE (X : Cx) (e : Expr) (t : TE) : Prop :=
  ∀ (pins : List (Addr × Obj)) (s : Shared) (σ : St) (H : Hp) (Q : VK), Inv X pins σ H s → t σ H Q → wpAny (model X.prog X.w) X.A (eval e X.env) (EP X pins σ Q) X.xe s
def PT (X : Cx) (e : Expr) (t : TT) : Prop :=
  ∀ (pins : List (Addr × Obj)) (s : Shared) (σ : St) (H : Hp) (Q : Bool → Hp → Prop), Inv X pins σ H s → t σ H Q → wpAny (model X.prog X.w) X.A (isTrue e X.env (eval e X.env)) (TP X pins σ Q) X.xe s
def PW (X : Cx) (e : Expr) (t : TT) : Prop :=
  ∀ (whole : Sem Value) (pins : List (Addr × Obj)) (s : Shared) (σ : St) (H : Hp) (Q : Bool → Hp → Prop), Inv X pins σ H s → t σ H Q → wpAny (model X.prog X.w) X.A (isTrue e X.env whole) (TP X pins σ Q) X.xe s
theorem PW.pt {X : Cx} {e : Expr} {t : TT} (h : PW X e t) : PT X e t := h _
def PA (X : Cx) (es : List Expr) (t : TA) : Prop :=
  ∀ (pos : Pos) (pins : List (Addr × Obj)) (s : Shared) (σ : St) (H : Hp) (Q : List V → Hp → Prop), Inv X pins σ H s → t σ H Q → wpAny (model X.prog X.w) X.A (spliced (backTo pos (starEach es X.env))) (AP X pins σ Q) X.xe s
def PS (X : Cx) (st : Stmt) (t : TS) : Prop :=
  ∀ (pins : List (Addr × Obj)) (s : Shared) (σ : St) (H : Hp) (D : Ends), Inv X pins σ H s → t D σ H → wpAny (model X.prog X.w) X.A (exec st X.env) (SP X pins D) X.xe s
def PSs (X : Cx) (st : List Stmt) (t : TS) : Prop :=
  ∀ (pins : List (Addr × Obj)) (s : Shared) (σ : St) (H : Hp) (D : Ends), Inv X pins σ H s → t D σ H → wpAny (model X.prog X.w) X.A (execs st X.env) (SP X pins D) X.xe s
theorem thn {α : Type} {t : Sem α} {Q Q' : α → Shared → Prop} {M : Model} {A : Around} {E : Value → Shared → Prop} {s : Shared} (h : wpAny M A t Q E s) (hQ : ∀ a s, Q a s → Q' a s) : wpAny M A t Q' E s := wpAny_mono h hQ fun _ _ x => x
end L2
namespace L2
open PySem PySem.Spec PyProof.Rows
section
variable {X : Cx}
def tVar (i : Nat) : TE := fun σ H Q => ∃ v, σ[i]? = some (some v) ∧ Q v H
def tC (v : V) : TE := fun _ H Q => Q v H
theorem pe_var {i : Nat} {x : Str} {pos : Pos} (hN : X.N[i]? = some x) (hv : Vis X.env.scope x) (hd : (x == ("__debug__" : Str)) = false := by decide) (hcd : (x == ("__classdict__" : Str)) = false := by decide) : PE X (.Name x pos) (tVar i) := by
  intro pins s σ H Q I h
  obtain ⟨v, e, h⟩ := h
  obtain ⟨m, hn, hl⟩ := I.loc
  obtain ⟨u, r, l⟩ := hl i x v hN e hv
  have fin : EP X pins σ Q u s := ⟨v, H, I, r, h⟩
  rcases l with ⟨hk, hm⟩ | ⟨hk, c, hc, hcell⟩
  · exact wpAny_Name (wpAny_loadName_local I.ok.kind hk hn hm fin) hd
  · rcases hk with hk | hk
    · exact wpAny_Name (wpAny_loadName_cell I.ok.kind hk hc hcell fin) hd
    · exact wpAny_Name (wpAny_loadName_free I.ok.kind hk hc hcell fin hcd) hd
theorem pe_int {i j pos} : PE X (.Constant (.int i) j pos) (tC (.int i)) := fun _ _ _ H _ I h => wpAny_Constant_int ⟨.int i, H, I.tok _, ⟨_, rfl⟩, h⟩
theorem pe_bl {b j pos} : PE X (.Constant (.bool b) j pos) (tC (.bl b)) := fun _ _ _ H _ I h => Constant_bool ⟨.bl b, H, I, rfl, h⟩
theorem pe_str {x j pos} : PE X (.Constant (.str x) j pos) (tC (.str x)) := fun _ _ _ H _ I h => Calls.Constant_str ⟨.str x, H, I.tok _, ⟨_, rfl⟩, h⟩
def Gl (X : Cx) (x : Str) : Prop := X.env.kindOf x = some .globalImplicit
theorem ld_glob {E : Value → Shared → Prop} {pins : List (Addr × Obj)} {s : Shared} {σ : St} {H : Hp} {x : Str} {u : Value} {pos : Pos} {Q : Value → Shared → Prop} (I : Inv X pins σ H s) (hg : Gl X x) (hm : X.mg x = some u) (h : Q u s)
    (hd : (x == ("__debug__" : Str)) = false := by decide) : wpAny (model X.prog X.w) X.A (eval (.Name x pos) X.env) Q E s :=
  Calls.Name_function_global I.ok.kind hg (Calls.loadGlobal_global (by rw [I.ok.glob]; exact I.mod.glob.keeps I.bk) hm h) hd
theorem ld_blt {E : Value → Shared → Prop} {pins : List (Addr × Obj)} {s : Shared} {σ : St} {H : Hp} {x : Str} {u : Value} {pos : Pos} {Q : Value → Shared → Prop} (I : Inv X pins σ H s) (hg : Gl X x) (hm : X.mg x = none) (hv : bootBuiltins x = some u) (h : Q u s)
    (hn : x ≠ "__name__" := by decide) (hd : (x == ("__debug__" : Str)) = false := by decide) : wpAny (model X.prog X.w) X.A (eval (.Name x pos) X.env) Q E s := by
  obtain ⟨mb, h1, h2⟩ := I.mod.blt
  exact Calls.Name_function_global I.ok.kind hg (Calls.loadGlobal_builtin (by rw [I.ok.glob]; exact I.mod.glob.keeps I.bk) hm (by rw [I.ok.blt]; exact h1.keeps I.bk) ((h2 x hn).trans hv) h) hd
theorem pe_glob {x : Str} {v : V} {u : Value} {pos : Pos} (hg : Gl X x) (hm : X.mg x = some u) (r : RelV v u) (hd : (x == ("__debug__" : Str)) = false := by decide) : PE X (.Name x pos) (tC v) :=
  fun _ _ _ H _ I h => ld_glob I hg hm ⟨v, H, I, r, h⟩ hd
theorem pe_bltn {x : Str} {v : V} {u : Value} {pos : Pos} (hg : Gl X x) (hm : X.mg x = none) (hv : bootBuiltins x = some u) (r : RelV v u) (hn : x ≠ "__name__" := by decide) (hd : (x == ("__debug__" : Str)) = false := by decide) : PE X (.Name x pos) (tC v) :=
  fun _ _ _ H _ I h => ld_blt I hg hm hv ⟨v, H, I, r, h⟩ hn hd
variable {a b : Expr} {ta tb : TE} {pos : Pos}
def PC (X : Cx) (op : CmpOp) (a b : Expr) (t : TE) : Prop :=
  ∀ (pins : List (Addr × Obj)) (s : Shared) (σ : St) (H : Hp) (Q : VK), Inv X pins σ H s → t σ H Q →
    wpAny (model X.prog X.w) X.A (eval a X.env) (fun v s₁ => wpAny (model X.prog X.w) X.A (eval b X.env) (fun u s₂ => wpAny (model X.prog X.w) X.A (compareOp op v u) (EP X pins σ Q) X.xe s₂) X.xe s₁) X.xe s
theorem nobehind (b : Expr) {op : CmpOp} (h : op ≠ .In) (h2 : op ≠ .NotIn) : behindInMarks op b = false := by
  have e1 : (op == CmpOp.In) = false := by cases op <;> first | rfl | exact absurd rfl h
  have e2 : (op == CmpOp.NotIn) = false := by cases op <;> first | rfl | exact absurd rfl h2
  cases b <;> simp [behindInMarks, e1, e2]
def tB (t : TE) : TT := fun σ H Q => t σ H fun x H1 => ∃ c, x = .bl c ∧ Q c H1
theorem pt_cmp {op : CmpOp} {t : TE} (h : PC X op a b t) (h1 : behindInMarks op b = false := by first | exact nobehind _ (by decide) (by decide) | rfl) : PT X (.Compare a [op] [b] pos) (tB t) := by
  intro pins s σ H Q I hw
  refine wpAny_isTrue_Compare1 (thn (h pins s σ H _ I hw) fun v s1 h1 => thn h1 fun u s2 h2 => thn h2 fun c s3 ⟨x, H1, I1, r1, q1⟩ => ?_) h1
  obtain ⟨d, rfl, q⟩ := q1
  cases r1
  exact wpAny_truthy_bool ⟨H1, I1, q⟩
theorem pt_val {e : Expr} {t : TE} (h : PE X e t) (he : ∀ whole, isTrue e X.env whole = (do let v ← whole; standAt e.pos; holding [v] (truthy v)) := by intro _; rfl) : PT X e (tB t) := by
  intro pins s σ H Q I hw
  refine isTrue_plain (thn (h pins s σ H _ I hw) fun v s1 ⟨x, H1, I1, r1, q1⟩ => ?_) (he _)
  obtain ⟨d, rfl, q⟩ := q1
  cases r1
  exact wpAny_truthy_bool ⟨H1, I1, q⟩
variable {tA tB' : TT} {rest : List Expr}
def tAnd (t u : TT) : TT := fun σ H Q => t σ H fun c H1 => if c = true then u σ H1 Q else Q false H1
def tOr (t u : TT) : TT := fun σ H Q => t σ H fun c H1 => if c = true then Q true H1 else u σ H1 Q
def tNot (t : TT) : TT := fun σ H Q => t σ H fun c H1 => Q (!c) H1
theorem pw_and1 (ha : PT X a tA) : PW X (.BoolOp .And [a] pos) tA := by
  intro wh pins s σ H Q I h
  refine isTrue_and (thn (ha pins s σ H Q I h) fun c s1 e => ?_)
  cases c with
  | true => exact isTrue_and_nil e
  | false => exact e
theorem pw_or1 (ha : PT X a tA) : PW X (.BoolOp .Or [a] pos) tA := by
  intro wh pins s σ H Q I h
  refine isTrue_or (thn (ha pins s σ H Q I h) fun c s1 e => ?_)
  cases c with
  | false => exact isTrue_or_nil e
  | true => exact e
theorem pw_and (ha : PT X a tA) (hb : PW X (.BoolOp .And (b :: rest) pos) tB') : PW X (.BoolOp .And (a :: b :: rest) pos) (tAnd tA tB') := by
  intro wh pins s σ H Q I h
  refine isTrue_and (thn (ha pins s σ H _ I h) fun c s1 ⟨H1, I1, q1⟩ => ?_)
  cases c with
  | true => exact hb wh pins s1 σ H1 Q I1 q1
  | false => exact ⟨H1, I1, q1⟩
theorem pw_or (ha : PT X a tA) (hb : PW X (.BoolOp .Or (b :: rest) pos) tB') : PW X (.BoolOp .Or (a :: b :: rest) pos) (tOr tA tB') := by
  intro wh pins s σ H Q I h
  refine isTrue_or (thn (ha pins s σ H _ I h) fun c s1 ⟨H1, I1, q1⟩ => ?_)
  cases c with
  | true => exact ⟨H1, I1, q1⟩
  | false => exact hb wh pins s1 σ H1 Q I1 q1
theorem pt_not (ha : PT X a tA) : PT X (.UnaryOp .Not a pos) (tNot tA) := by
  intro pins s σ H Q I h
  exact isTrue_not (ha pins s σ H (fun c H1 => Q (!c) H1) I h)
def tAndV (ta tb : TE) : TE := fun σ H Q => ta σ H fun x H1 => ∃ c, x = .bl c ∧ if c = true then tb σ H1 Q else Q (.bl false) H1
def tOrV (ta tb : TE) : TE := fun σ H Q => ta σ H fun x H1 => ∃ c, x = .bl c ∧ if c = true then Q (.bl true) H1 else tb σ H1 Q
def tNotV (ta : TE) : TE := fun σ H Q => ta σ H fun x H1 => ∃ c, x = .bl c ∧ Q (.bl (!c)) H1
theorem pe_one {op} {t : TE} (h : PE X a t) : PE X (.BoolOp op [a] pos) t := fun pins s σ H Q I hw => BoolOp_one (h pins s σ H Q I hw)
theorem pe_and (ha : PE X a ta) (hb : PE X (.BoolOp .And (b :: rest) pos) tb) : PE X (.BoolOp .And (a :: b :: rest) pos) (tAndV ta tb) := by
  intro pins s σ H Q I h
  refine BoolOp_and (thn (ha pins s σ H _ I h) fun v s1 ⟨x, H1, I1, r1, q1⟩ => ?_)
  obtain ⟨c, rfl, q1⟩ := q1
  cases r1
  refine wpAny_truthy_bool ?_
  cases c with
  | true => exact hb pins s1 σ H1 Q I1 q1
  | false => exact ⟨.bl false, H1, I1, rfl, q1⟩
theorem pe_or (ha : PE X a ta) (hb : PE X (.BoolOp .Or (b :: rest) pos) tb) : PE X (.BoolOp .Or (a :: b :: rest) pos) (tOrV ta tb) := by
  intro pins s σ H Q I h
  refine BoolOp_or (thn (ha pins s σ H _ I h) fun v s1 ⟨x, H1, I1, r1, q1⟩ => ?_)
  obtain ⟨c, rfl, q1⟩ := q1
  cases r1
  refine wpAny_truthy_bool ?_
  cases c with
  | false => exact hb pins s1 σ H1 Q I1 q1
  | true => exact ⟨.bl true, H1, I1, rfl, q1⟩
theorem pe_not (ha : PE X a ta) : PE X (.UnaryOp .Not a pos) (tNotV ta) := by
  intro pins s σ H Q I h
  refine UnaryOp_ (thn (ha pins s σ H _ I h) fun v s1 ⟨x, H1, I1, r1, q1⟩ => ?_)
  obtain ⟨c, rfl, q1⟩ := q1
  cases r1
  exact not_of (wpAny_truthy_bool ⟨.bl (!c), H1, I1, rfl, q1⟩)
def tIf (t : TT) (ta tb : TE) : TE := fun σ H Q => t σ H fun c H1 => if c = true then ta σ H1 Q else tb σ H1 Q
theorem pe_ifExp {c : Expr} (hc : PT X c tA) (ha : PE X a ta) (hb : PE X b tb) : PE X (.IfExp c a b pos) (tIf tA ta tb) := by
  intro pins s σ H Q I h
  refine wpAny_IfExp (thn (hc pins s σ H _ I h) fun d s1 ⟨H1, I1, q1⟩ => ?_)
  cases d with
  | true => exact ha pins s1 σ H1 Q I1 q1
  | false => exact hb pins s1 σ H1 Q I1 q1
end
end L2
namespace L2
open PySem PySem.Spec PyProof.Rows
def SqL (K : PySem.W.Frag) (H : Hp) (a : Addr) (xs : List V) : Prop :=
  Rd H a (.lst xs) ∨
    ∃ (o : Obj) (its : Array Value) (n : Nat), K.lookup a = some o ∧ o.cls = .type "list" ∧ o.dict = none ∧ o.data = .seq its n ∧ its.size ≤ sizeLine ∧ Vals xs its.toList
def SqT (K : PySem.W.Frag) (H : Hp) (a : Addr) (xs : List V) : Prop :=
  Rd H a (.tup xs) ∨
    ∃ (o : Obj) (its : Array Value) (n : Nat), K.lookup a = some o ∧ o.cls = .type "tuple" ∧ o.data = .seq its n ∧ its.size ≤ sizeLine ∧ Vals xs its.toList
def absV : Value → Option V
  | .none => some .non
  | .bool b => some (.bl b)
  | .int i _ => some (.int i)
  | .str x _ => some (.str x)
  | .bytes b _ => some (.byt b)
  | .float b _ => some (.flt b)
  | .ref a => some (.ref a)
  | .type n => some (.ty n)
  | _ => none
theorem RelV.abs {x : V} {u : Value} (r : RelV x u) : absV u = some x := by
  cases x with
  | non => cases r; rfl
  | bl _ => cases r; rfl
  | int _ => obtain ⟨t, rfl⟩ := r; rfl
  | str _ => obtain ⟨t, rfl⟩ := r; rfl
  | byt _ => obtain ⟨t, rfl⟩ := r; rfl
  | flt _ => obtain ⟨t, rfl⟩ := r; rfl
  | ref _ => cases r; rfl
  | ty _ => cases r; rfl
theorem RelV.inj {x y : V} {u : Value} (r : RelV x u) (q : RelV y u) : x = y := Option.some.inj (r.abs.symm.trans q.abs)
theorem Vals.inj : ∀ {xs ys : List V} {us : List Value}, Vals xs us → Vals ys us → xs = ys
  | _, _, _, .nil, .nil => rfl
  | _, _, _, .cons r t, .cons r' t' => by rw [r.inj r', Vals.inj t t']
section
variable {X : Cx} {pins : List (Addr × Obj)} {σ : St} {H : Hp} {s : Shared} {a : Addr} {xs ys : List V}
theorem SqL.of {K : PySem.W.Frag} (h : H a = some (.lst xs)) : SqL K H a xs := .inl (.inl h)
theorem SqT.of {K : PySem.W.Frag} (h : H a = some (.tup xs)) : SqT K H a xs := .inl (.inl h)
theorem Inv.list (I : Inv X pins σ H s) (h : SqL X.K H a xs) : ∃ its : List Value, Vals xs its ∧ PlainL s.heap a its.toArray ∧ xs.length ≤ sizeLine := by
  rcases h with h | ⟨o, its, n, hk, hc, hd, hs, hz, r⟩
  · obtain ⟨z, its, n, r, e⟩ := h.ok I.hok
    exact ⟨its, r, ⟨_, n, e, rfl, rfl, rfl⟩, z⟩
  · refine ⟨its.toList, r, ⟨o, n, I.kIn a o hk, hc, hd, by simpa using hs⟩, ?_⟩
    have e := r.length
    simp only [Array.length_toList] at e
    omega
theorem Inv.tuple (I : Inv X pins σ H s) (h : SqT X.K H a xs) : ∃ its : List Value, Vals xs its ∧ IsTup s.heap a its.toArray ∧ xs.length ≤ sizeLine := by
  rcases h with h | ⟨o, its, n, hk, hc, hs, hz, r⟩
  · obtain ⟨z, its, r, p⟩ := h.ok I.hok
    exact ⟨its, r, p, z⟩
  · refine ⟨its.toList, r, ⟨o, I.kIn a o hk, hc, n, by simpa using hs⟩, ?_⟩
    have e := r.length
    simp only [Array.length_toList] at e
    omega
theorem Inv.list_inj (I : Inv X pins σ H s) (h : SqL X.K H a xs) (h' : SqL X.K H a ys) : xs = ys := by
  obtain ⟨its, r, ⟨o, n, e, _, _, d⟩, _⟩ := I.list h
  obtain ⟨its', r', ⟨o', n', e', _, _, d'⟩, _⟩ := I.list h'
  rw [e] at e'; cases e'
  rw [d] at d'
  injection d' with d1 _
  have : its = its' := by simpa using congrArg Array.toList d1
  subst this
  exact r.inj r'
theorem Inv.tuple_inj (I : Inv X pins σ H s) (h : SqT X.K H a xs) (h' : SqT X.K H a ys) : xs = ys := by
  obtain ⟨its, r, ⟨o, e, _, n, d⟩, _⟩ := I.tuple h
  obtain ⟨its', r', ⟨o', e', _, n', d'⟩, _⟩ := I.tuple h'
  rw [e] at e'; cases e'
  rw [d] at d'
  injection d' with d1 _
  have : its = its' := by simpa using congrArg Array.toList d1
  subst this
  exact r.inj r'
end
abbrev Cx.wish (X : Cx) (E : Value → Shared → Prop) : Cx := { X with xe := E }
abbrev Cx.nox (X : Cx) : Cx := X.wish fun _ _ => False
theorem Cx.Ok.wish {X : Cx} (ok : X.Ok) (E : Value → Shared → Prop) : (X.wish E).Ok :=
  ⟨ok.mod, ok.kind, ok.glob, ok.blt, ok.above, ok.inj, ok.has, ok.cab, ok.hd, ok.frames, ok.stk, ok.exf, ok.bs, ok.bsz, ok.noex, ok.exfs, ok.funs, ok.frf⟩
theorem Cx.Ok.unwish {X : Cx} {E : Value → Shared → Prop} (ok : (X.wish E).Ok) : X.Ok :=
  ⟨ok.mod, ok.kind, ok.glob, ok.blt, ok.above, ok.inj, ok.has, ok.cab, ok.hd, ok.frames, ok.stk, ok.exf, ok.bs, ok.bsz, ok.noex, ok.exfs, ok.funs, ok.frf⟩
section
variable {X : Cx} {pins : List (Addr × Obj)} {σ : St} {H : Hp} {s : Shared} {E : Value → Shared → Prop}
theorem Inv.wish (I : Inv X pins σ H s) (E : Value → Shared → Prop) : Inv (X.wish E) pins σ H s := ⟨I.ok.wish E, I.os, I.bare, I.base, I.loc, I.cell, I.free, I.freeC, I.pin, I.hok, I.len⟩
theorem Inv.unwish (I : Inv (X.wish E) pins σ H s) : Inv X pins σ H s := ⟨I.ok.unwish, I.os, I.bare, I.base, I.loc, I.cell, I.free, I.freeC, I.pin, I.hok, I.len⟩
theorem SP.unwish {D : Ends} {f : Flow} {s' : Shared} (h : SP (X.wish E) pins D f s') : SP X pins D f s' := by
  cases f with
  | next => obtain ⟨σ', H', I, q⟩ := h; exact ⟨σ', H', I.unwish, q⟩
  | brk => obtain ⟨σ', H', I, q⟩ := h; exact ⟨σ', H', I.unwish, q⟩
  | cont => obtain ⟨σ', H', I, q⟩ := h; exact ⟨σ', H', I.unwish, q⟩
  | ret u => obtain ⟨v, σ', H', I, r, q⟩ := h; exact ⟨v, σ', H', I.unwish, r, q⟩
theorem PE.nox {e : Expr} {t : TE} (h : PE X.nox e t) : PE X e t := fun pins s σ H Q I hw =>
  wpAny_mono (h pins s σ H Q (I.wish _) hw) (fun _ _ ⟨v, H', I', r, q⟩ => ⟨v, H', I'.unwish, r, q⟩) fun _ _ z => False.elim z
theorem PT.nox {e : Expr} {t : TT} (h : PT X.nox e t) : PT X e t := fun pins s σ H Q I hw =>
  wpAny_mono (h pins s σ H Q (I.wish _) hw) (fun _ _ ⟨H', I', q⟩ => ⟨H', I'.unwish, q⟩) fun _ _ z => False.elim z
theorem PSs.nox {st : List Stmt} {t : TS} (h : PSs X.nox st t) : PSs X st t := fun pins s σ H D I hw =>
  wpAny_mono (h pins s σ H D (I.wish _) hw) (fun _ _ q => q.unwish) fun _ _ z => False.elim z
end
section
variable {X : Cx} {st : Stmt} {rest : List Stmt} {t u : TS} {e : Expr} {te : TE} {pos : Pos}
def tNext : TS := fun D σ H => D.nx σ H
def tSeq (t u : TS) : TS := fun D σ H => t { D with nx := u D } σ H
theorem pss_nil : PSs X [] tNext := fun _ _ σ H _ I h => wpAny_execs_nil ⟨σ, H, I, h⟩
theorem pss_cons (h1 : PS X st t) (h2 : PSs X rest u) : PSs X (st :: rest) (tSeq t u) := by
  intro pins s σ H D I h
  refine wpAny_execs_cons (thn (h1 pins s σ H { D with nx := u D } I h) fun f s1 q => ?_)
  cases f with
  | next =>
    obtain ⟨σ', H', I', q⟩ := q
    exact h2 pins s1 σ' H' D I' q
  | ret v => exact q
  | brk => exact q
  | cont => exact q
theorem pss_one (h1 : PS X st t) : PSs X [st] t := by
  intro pins s σ H D I h
  refine wpAny_execs_cons (thn (h1 pins s σ H D I h) fun f s1 q => ?_)
  cases f with
  | next => exact wpAny_execs_nil q
  | ret v => exact q
  | brk => exact q
  | cont => exact q
theorem Inv.quiet {pins : List (Addr × Obj)} {σ : St} {H : Hp} {s : Shared} (I : Inv X pins σ H s) : interactive X.env = false := by simp [interactive, I.ok.kind]
def tDrop (te : TE) : TS := fun D σ H => te σ H fun _ H1 => D.nx σ H1
theorem ps_expr (he : PE X e te) (hs : swapsWith e none pos.line X.env = pure false := by rfl) : PS X (.Expr e pos) (tDrop te) := by
  intro pins s σ H D I h
  exact wpAny_Expr_any (thn (he pins s σ H _ I h) fun v s1 ⟨x, H1, I1, r1, q1⟩ => ⟨σ, H1, I1, q1⟩) I.quiet hs
def tRet (te : TE) : TS := fun D σ H => te σ H D.rt
theorem ps_ret (he : PE X e te) : PS X (.Return (some e) pos) (tRet te) := by
  intro pins s σ H D I h
  exact wpAny_Return_some (thn (he pins s σ H _ I h) fun v s1 ⟨x, H1, I1, r1, q1⟩ => ⟨x, σ, H1, I1, r1, q1⟩)
def tIfS (c : TT) (t u : TS) : TS := fun D σ H => c σ H fun b H1 => if b = true then t D σ H1 else u D σ H1
theorem ps_if {c : Expr} {a b : List Stmt} {tc : TT} (hc : PT X c tc) (ha : PSs X a t) (hb : PSs X b u) : PS X (.If c a b pos) (tIfS tc t u) := by
  intro pins s σ H D I h
  refine wpAny_If (thn (hc pins s σ H _ I h) fun d s1 ⟨H1, I1, q1⟩ => ?_)
  cases d with
  | true => exact ha pins s1 σ H1 D I1 q1
  | false => exact hb pins s1 σ H1 D I1 q1
end
abbrev TG := V → St → Hp → (St → Hp → Prop) → Prop
abbrev TGs := List V → St → Hp → (St → Hp → Prop) → Prop
def PG (X : Cx) (target : Expr) (t : TG) : Prop :=
  ∀ (pins : List (Addr × Obj)) (s : Shared) (σ : St) (H : Hp) (v : V) (u : Value) (Q : St → Hp → Prop), Inv X pins σ H s → RelV v u → t v σ H Q →
    wpAny (model X.prog X.w) X.A (assign target X.env u) (fun _ s' => ∃ σ' H', Inv X pins σ' H' s' ∧ Q σ' H') X.xe s
def PGs (X : Cx) (ts : List Expr) (t : TGs) : Prop :=
  ∀ (pins : List (Addr × Obj)) (s : Shared) (σ : St) (H : Hp) (vs : List V) (us : List Value) (Q : St → Hp → Prop), Inv X pins σ H s → Vals vs us → t vs σ H Q →
    wpAny (model X.prog X.w) X.A (assignInOrder ((assignEach ts X.env).map (·.2)) us) (fun _ s' => ∃ σ' H', Inv X pins σ' H' s' ∧ Q σ' H') X.xe s
section
variable {X : Cx} {pos : Pos}
def gName (i : Nat) : TG := fun v σ H Q => Q (σ.set i (some v)) H
theorem pg_name {i : Nat} {x : Str} (hN : X.N.Nodup) (hi : X.N[i]? = some x) (hx : Loc X.env.scope x) (hf : X.fn x = true ∨ X.env.scope.names.lookup x = some .local := by first | exact .inl rfl | exact .inr rfl | assumption) : PG X (.Name x pos) (gName i) := by
  intro pins s σ H v u Q I r h
  exact wpAny_assign_Name (store_ok I hN hi hx r (fun s' I' => ⟨_, H, I', h⟩) hf)
def gNil : TGs := fun vs σ H Q => vs = [] ∧ Q σ H
def gCons (t : TG) (u : TGs) : TGs := fun vs σ H Q => ∃ v r, vs = v :: r ∧ t v σ H fun σ' H' => u r σ' H' Q
theorem pgs_nil : PGs X [] gNil := by
  intro pins s σ H vs us Q I r h
  obtain ⟨e, h⟩ := h
  subst e
  cases r
  exact assignInOrder_nil ⟨σ, H, I, h⟩
theorem pgs_cons {e : Expr} {es : List Expr} {t : TG} {u : TGs} (h1 : PG X e t) (h2 : PGs X es u)
    (hs : (assignEach (e :: es) X.env).map (·.2) = assign e X.env :: (assignEach es X.env).map (·.2) := by rfl) : PGs X (e :: es) (gCons t u) := by
  intro pins s σ H vs us Q I r h
  obtain ⟨v, vr, e1, h⟩ := h
  subst e1
  cases r with
  | cons r rr =>
    rw [hs]
    refine assignInOrder_cons (thn (h1 pins s σ H _ _ _ I r h) fun _ s1 ⟨σ1, H1, I1, q1⟩ => ?_)
    exact h2 pins s1 σ1 H1 _ _ Q I1 rr q1
def gTup (K : PySem.W.Frag) (n : Nat) (t : TGs) : TG := fun v σ H Q => ∃ a xs, v = .ref a ∧ SqT K H a xs ∧ xs.length = n ∧ t xs σ H Q
theorem pg_tup {es : List Expr} {k : Nat} {t : TGs} {n : Nat} (hc : X.calm = true) (h : PGs X es t)
    (hn : (assignEach es X.env).length = n := by rfl) (hst : (assignEach es X.env).findIdx? (·.1) = none := by rfl) : PG X (.Tuple es k pos) (gTup X.K n t) := by
  intro pins s σ H v u Q I r hw
  obtain ⟨a, xs, e1, hq, hl, hw⟩ := hw
  subst e1
  cases r
  obtain ⟨its, rv, ht, hz⟩ := I.tuple hq
  refine assign_Tuple_tuple (I.ok.hd hc) ht (by simp [hn, ← hl, rv.length]) hst fun h' hx => ?_
  have I1 : Inv X pins σ H { s with heap := h' } := I.kept (t' := s.toks) fun b o e => hx b o (Nat.ne_of_lt (Heap.lt_size e)) e
  exact h pins _ σ H xs _ Q I1 (by simpa using rv) hw
def tAsg (te : TE) (g : TG) : TS := fun D σ H => te σ H fun x H1 => g x σ H1 D.nx
theorem ps_set {i : Nat} {x : Str} {e : Expr} {te : TE} {pos' : Pos} (hN : X.N.Nodup) (hi : X.N[i]? = some x) (hx : Loc X.env.scope x) (he : PE X e te) (hs : swapsWith e (some (.Name x pos')) pos.line X.env = pure false := by rfl) (hf : X.fn x = true ∨ X.env.scope.names.lookup x = some .local := by first | exact .inl rfl | exact .inr rfl | assumption) :
    PS X (.Assign [.Name x pos'] e pos) (tAsg te (gName i)) := by
  intro pins s σ H D I h
  refine wpAny_Assign_Name (thn (he pins s σ H _ I h) fun v s1 ⟨y, H1, I1, r1, q1⟩ => ?_) hs
  exact store_ok I1 hN hi hx r1 (fun s2 I2 => ⟨_, H1, I2, q1⟩) hf
end
section
variable {X : Cx} {pos : Pos}
def tWhile (c : TT) (tb : TS) : TS := fun D σ H => ∃ W : Nat → St → Hp → Prop, (∃ m, W m σ H) ∧ ∀ m σ H, W m σ H →
  c σ H fun b H1 => if b = true then ∃ N : St → Hp → Prop, (∀ σ' H', N σ' H' → ∃ m', m' < m ∧ W m' σ' H') ∧ tb { D with nx := N, ct := N, bk := D.nx } σ H1 else D.nx σ H1
theorem ps_while {c : Expr} {body : List Stmt} {tc : TT} {tb : TS} (hp : PassesOwn (model X.prog X.w) X.A X.env X.xe) (hc : PT X c tc) (hb : PSs X body tb) : PS X (.While c body [] pos) (tWhile tc tb) := by
  intro pins s σ H D I h
  obtain ⟨W, ⟨m0, w0⟩, turn⟩ := h
  refine wpAny_While (codeAny_whileLoop (fun n s' => ∃ σ' H', Inv X pins σ' H' s' ∧ W n σ' H') ?_ m0 ⟨σ, H, I, w0⟩)
  rintro n s1 ⟨σ1, H1, I1, w1⟩
  refine wpAny_passesOwn hp (thn (hc pins s1 σ1 H1 _ I1 (turn n σ1 H1 w1)) fun b s2 ⟨H2, I2, q2⟩ => ?_)
  cases b with
  | true =>
    obtain ⟨N, hN, q2⟩ := q2
    rw [if_pos rfl]
    refine wpAny_passesOwn hp (thn (hb pins s2 σ1 H2 _ I2 q2) fun f s3 q3 => ?_)
    cases f with
    | next =>
      obtain ⟨σ3, H3, I3, n3⟩ := q3
      obtain ⟨m', hm, w3⟩ := hN σ3 H3 n3
      exact ⟨m', hm, σ3, H3, I3, w3⟩
    | cont =>
      obtain ⟨σ3, H3, I3, n3⟩ := q3
      obtain ⟨m', hm, w3⟩ := hN σ3 H3 n3
      exact ⟨m', hm, σ3, H3, I3, w3⟩
    | brk => exact q3
    | ret v => exact q3
  | false =>
    rw [if_neg Bool.false_ne_true]
    exact wpAny_execs_nil ⟨σ1, H2, I2, q2⟩
end
structure It where
  go : Nat → Hp → Prop
  yld : Nat → Hp → V → Hp → Prop
  stop : Nat → Hp → Prop
def FpOk (X : Cx) (pins : List (Addr × Obj)) (H : Hp) (b : Addr) : Prop :=
  H b = none ∧ b ≠ X.env.locals ∧ b ∉ X.fs ∧ (b ∈ X.ex ∨ X.s₀.heap.objs.size ≤ b) ∧ (∀ x c, X.env.cells.lookup x = some c → c ≠ b) ∧ ∀ p ∈ X.pn ++ pins, p.1 ≠ b
theorem Inv.fpOk {X : Cx} {pins : List (Addr × Obj)} {σ : St} {H H' : Hp} {s : Shared} {b : Addr} (I : Inv X pins σ H s) (hb : s.heap.objs.size ≤ b) (hn : H' b = none) : FpOk X pins H' b := by
  refine ⟨hn, Nat.ne_of_gt (Nat.lt_of_lt_of_le I.lt hb), I.nofs hb, .inr (Nat.le_trans I.sz hb), fun x c e z => ?_, fun p hp z => ?_⟩
  · obtain ⟨v, q⟩ := I.cell x c e
    exact absurd (Nat.lt_of_lt_of_le q.lt (by rw [z]; exact hb)) (Nat.lt_irrefl _)
  · exact absurd (Nat.lt_of_lt_of_le (Heap.lt_size (I.pin p hp).1) (by rw [z]; exact hb)) (Nat.lt_irrefl _)
structure Turn (P : Program) (w : World) (K : PySem.W.Frag) (tg : Expr) (J : It) (fp : List Addr) (it : Addr) (tn : Nat → Heap → Prop) : Prop where
  mem : it ∈ fp
  obj : ∀ i h, tn i h → ∀ b ∈ fp, ∃ o, h.get? b = some o ∧ ∀ v, o.data ≠ .cell v
  keep : ∀ i h h', tn i h → (∀ b ∈ fp, ∀ o, h.get? b = some o → h'.get? b = some o) → tn i h'
  item : ∀ (X : Cx), X.prog = P → X.w = w → X.K = K → X.calm = true → ∀ (i : Nat) (pins : List (Addr × Obj)) (s : Shared) (σ : St) (H : Hp) (E : Value → Shared → Prop), Inv X pins σ H s → (∀ b ∈ fp, FpOk X pins H b) → tn i s.heap → J.go i H →
    wpAny (model P w) X.A (pyNext (.ref it)) (fun r s1 => ∃ u, r = some u ∧
      wpAny (model P w) X.A (letOwnedTupleGo tg (.ref it) u) (fun _ s2 => ∃ x H', Inv X pins σ H' s2 ∧ RelV x u ∧ J.yld i H x H' ∧ tn (i + 1) s2.heap ∧ ∀ b ∈ fp, H' b = none) E s1) E s
  done : ∀ (X : Cx), X.prog = P → X.w = w → X.K = K → X.calm = true → ∀ (i : Nat) (pins : List (Addr × Obj)) (s : Shared) (σ : St) (H : Hp) (E : Value → Shared → Prop), Inv X pins σ H s → (∀ b ∈ fp, FpOk X pins H b) → tn i s.heap → J.stop i H →
    wpAny (model P w) X.A (pyNext (.ref it)) (fun r s1 => r = none ∧ Inv X pins σ H s1) E s
  self : ∀ (A : Around) (i : Nat) (s : Shared) (Q : Value → Shared → Prop) (E : Value → Shared → Prop), tn i s.heap → Q (.ref it) s → wpAny (model P w) A (pyIter (.ref it)) Q E s
abbrev TI := St → Hp → (It → Hp → Prop) → Prop
def PIE (X : Cx) (pins : List (Addr × Obj)) (σ : St) (tg : Expr) (R : It → Hp → Prop) (itv : Value) (s2 : Shared) : Prop :=
  ∃ (it : Addr) (fp : List Addr) (tn : Nat → Heap → Prop) (J : It) (H' : Hp), itv = .ref it ∧ Inv X pins σ H' s2 ∧ Turn X.prog X.w X.K tg J fp it tn ∧ tn 0 s2.heap ∧ (∀ b ∈ fp, FpOk X pins H' b) ∧ R J H'
def PI (X : Cx) (tg iter : Expr) (wi : TI) : Prop :=
  ∀ (pins : List (Addr × Obj)) (s : Shared) (σ : St) (H : Hp) (R : It → Hp → Prop), Inv X pins σ H s → wi σ H R →
    wpAny (model X.prog X.w) X.A (eval iter X.env) (fun v s1 => wpAny (model X.prog X.w) X.A (pyIter v) (PIE X pins σ tg R) X.xe s1) X.xe s
theorem go_of {M : Model} {A : Around} {E : Value → Shared → Prop} {s : Shared} {tg : Expr} {it : Addr} {u : Value} {o : Obj} {n : String} {vs : Array Value} {Q : Unit → Shared → Prop} (ho : s.heap.get? it = some o) (hc : o.cls = .type n) (hd : o.data = .fields vs)
    (hn : ["enumerate", "zip", "dict_itemiterator", "dict_reverseitemiterator", "odict_iterator", "itertools.zip_longest", "itertools.pairwise"].contains n = false) (hQ : Q () s) : wpAny M A (letOwnedTupleGo tg (.ref it) u) Q E s := by
  unfold letOwnedTupleGo
  cases tg <;> first
    | exact wpAny_pure hQ
    | (cases u <;> first
        | exact wpAny_pure hQ
        | (refine wpAny_bind (wpAny_load ho ?_)
           rw [hc, hd]
           show wpAny M A (if (["enumerate", "zip", "dict_itemiterator", "dict_reverseitemiterator", "odict_iterator", "itertools.zip_longest", "itertools.pairwise"].contains n && vs[0]? == some (rawInt _)) = true then _ else _) Q E s
           rw [if_neg (by intro h; rw [hn, Bool.false_and] at h; cases h)]
           exact wpAny_pure hQ))
def Itl (K : PySem.W.Frag) (a : Addr) : It :=
  ⟨fun i H => ∃ xs x, SqL K H a xs ∧ xs[i]? = some x, fun i H x H' => H' = H ∧ ∀ xs, SqL K H a xs → xs[i]? = some x, fun i H => ∃ xs, SqL K H a xs ∧ xs.length ≤ i⟩
def Itt (K : PySem.W.Frag) (a : Addr) : It :=
  ⟨fun i H => ∃ xs x, SqT K H a xs ∧ xs[i]? = some x, fun i H x H' => H' = H ∧ ∀ xs, SqT K H a xs → xs[i]? = some x, fun i H => ∃ xs, SqT K H a xs ∧ xs.length ≤ i⟩
def Itr (lo : Int) (n : Nat) : It := ⟨fun i _ => i < n, fun i H x H' => H' = H ∧ x = .int (lo + i), fun i _ => n ≤ i⟩
theorem turn_list {P : Program} {w : World} {K : PySem.W.Frag} {tg : Expr} (a it : Addr) : Turn P w K tg (Itl K a) [it] it (fun i h => h.IsListIter it a i) where
  mem := by simp
  obj := fun i h st b hb => by
    have e : b = it := by simpa using hb
    subst e
    obtain ⟨o, e, c, d⟩ := st
    exact ⟨o, e, fun v z => by rw [d] at z; cases z⟩
  keep := fun i h h' st k => st.at fun o e => k it (by simp) o e
  item := by
    intro X hP hw hK hc i pins s σ H E I hf st hg
    subst hP hw hK
    obtain ⟨xs, x, hq, hx⟩ := hg
    obtain ⟨its, rv, p, hz⟩ := I.list hq
    obtain ⟨u, hu, ru⟩ := rv.get hx
    obtain ⟨f0, f1, f2, f3, f4, f5⟩ := hf it (by simp)
    refine wpAny_pyNext_list_item st p.isList (x := u) (by simpa using hu) fun h' st' sb => ?_
    have I1 : Inv X pins σ H { s with heap := h' } := I.turned (t' := s.toks) (fun b o hb e => (sb.2 b hb).trans e) f0 f1 f3 f4 f5
    obtain ⟨o, e, c, d⟩ := id st'
    exact ⟨u, rfl, go_of (s := { s with heap := h' }) e c d (by decide) ⟨x, H, I1, ru, ⟨rfl, fun ys hy => by rw [I.list_inj hy hq]; exact hx⟩, st', fun b hb => (hf b hb).1⟩⟩
  done := by
    intro X hP hw hK hc i pins s σ H E I hf st hg
    subst hP hw hK
    obtain ⟨xs, hq, hx⟩ := hg
    obtain ⟨its, rv, p, hz⟩ := I.list hq
    obtain ⟨f0, f1, f2, f3, f4, f5⟩ := hf it (by simp)
    have hl := rv.length
    exact wpAny_pyNext_list_end (I.ok.hd hc) st p.isList (by simp; omega) fun h' eb => ⟨rfl, I.turned (t' := s.toks) (fun b o hb e => eb b o hb e) f0 f1 f3 f4 f5⟩
  self := fun _ _ _ _ _ st h => wpAny_pyIter_listiter st h
theorem turn_tuple {P : Program} {w : World} {K : PySem.W.Frag} {tg : Expr} (a it : Addr) : Turn P w K tg (Itt K a) [it] it (fun i h => h.IsTupleIter it a i) where
  mem := by simp
  obj := fun i h st b hb => by
    have e : b = it := by simpa using hb
    subst e
    obtain ⟨o, e, c, d⟩ := st
    exact ⟨o, e, fun v z => by rw [d] at z; cases z⟩
  keep := fun i h h' st k => st.at fun o e => k it (by simp) o e
  item := by
    intro X hP hw hK hc i pins s σ H E I hf st hg
    subst hP hw hK
    obtain ⟨xs, x, hq, hx⟩ := hg
    obtain ⟨its, rv, p, hz⟩ := I.tuple hq
    obtain ⟨u, hu, ru⟩ := rv.get hx
    obtain ⟨f0, f1, f2, f3, f4, f5⟩ := hf it (by simp)
    refine wpAny_pyNext_tuple_item st (show s.heap.IsTuple a its.toArray from p) (x := u) (by simpa using hu) fun h' st' sb => ?_
    have I1 : Inv X pins σ H { s with heap := h' } := I.turned (t' := s.toks) (fun b o hb e => (sb.2 b hb).trans e) f0 f1 f3 f4 f5
    obtain ⟨o, e, c, d⟩ := id st'
    exact ⟨u, rfl, go_of (s := { s with heap := h' }) e c d (by decide) ⟨x, H, I1, ru, ⟨rfl, fun ys hy => by rw [I.tuple_inj hy hq]; exact hx⟩, st', fun b hb => (hf b hb).1⟩⟩
  done := by
    intro X hP hw hK hc i pins s σ H E I hf st hg
    subst hP hw hK
    obtain ⟨xs, hq, hx⟩ := hg
    obtain ⟨its, rv, p, hz⟩ := I.tuple hq
    obtain ⟨f0, f1, f2, f3, f4, f5⟩ := hf it (by simp)
    have hl := rv.length
    exact wpAny_pyNext_tuple_end (I.ok.hd hc) st (show s.heap.IsTuple a its.toArray from p) (by simp; omega) fun h' eb => ⟨rfl, I.turned (t' := s.toks) (fun b o hb e => eb b o hb e) f0 f1 f3 f4 f5⟩
  self := fun _ _ _ _ _ st h => wpAny_pyIter_tupleiter st h
theorem turn_range {P : Program} {w : World} {K : PySem.W.Frag} {tg : Expr} (it : Addr) (lo : Int) (n : Nat) : Turn P w K tg (Itr lo n) [it] it (fun i h => IsRangeIter h it (lo + (i : Nat) * 1) ((n : Int) - (i : Nat)) 1) where
  mem := by simp
  obj := fun i h st b hb => by
    have e : b = it := by simpa using hb
    subst e
    exact ⟨_, st, fun v z => by
      have z' : Data.fields _ = Data.cell v := z
      cases z'⟩
  keep := fun i h h' st k => k it (by simp) _ st
  item := by
    intro X hP hw hK hc i pins s σ H E I hf st hg
    subst hP hw hK
    obtain ⟨f0, f1, f2, f3, f4, f5⟩ := hf it (by simp)
    have W := Walks.range (prog := X.prog) (w := X.w) (I.ok.hd hc) it lo 1 n
    refine W.item i s _ _ hg st fun v h' tk hv st' kk => ?_
    obtain ⟨t, rfl⟩ := hv
    have I1 : Inv X pins σ H { s with heap := h', toks := tk } := I.turned (fun b o hb e => kk b o (by simpa using hb) e) f0 f1 f3 f4 f5
    refine ⟨_, rfl, go_of (s := { s with heap := h', toks := tk }) (n := "range_iterator") st' rfl rfl (by decide) ⟨.int (lo + i), H, I1, ⟨t, ?_⟩, ⟨rfl, rfl⟩, st', fun b hb => (hf b hb).1⟩⟩
    rw [Int.mul_one]
  done := by
    intro X hP hw hK hc i pins s σ H E I hf st hg
    subst hP hw hK
    obtain ⟨f0, f1, f2, f3, f4, f5⟩ := hf it (by simp)
    exact wpAny_pyNext_range_end (I.ok.hd hc) st (by have : n ≤ i := hg; omega) fun h' eb => ⟨rfl, I.turned (t' := s.toks) (fun b o hb e => eb b o hb e) f0 f1 f3 f4 f5⟩
  self := fun _ _ _ _ _ st h => wpAny_pyIter_rangeiter st h
end L2
namespace L2
open PySem PySem.Spec PyProof.Rows
section
variable {X : Cx} {tg : Expr}
def iList (K : PySem.W.Frag) (tl : TE) : TI := fun σ H R => tl σ H fun x H1 => ∃ a, x = .ref a ∧ (∃ xs, SqL K H1 a xs) ∧ R (Itl K a) H1
def iTup (K : PySem.W.Frag) (tl : TE) : TI := fun σ H R => tl σ H fun x H1 => ∃ a, x = .ref a ∧ (∃ xs, SqT K H1 a xs) ∧ R (Itt K a) H1
theorem pi_list {l : Expr} {tl : TE} (hl : PE X l tl) : PI X tg l (iList X.K tl) := by
  intro pins s σ H R I h
  refine thn (hl pins s σ H _ I h) fun v s1 ⟨x, H1, I1, r1, q1⟩ => ?_
  obtain ⟨a, e, ⟨xs, hq⟩, q⟩ := q1
  subst e
  cases r1
  obtain ⟨its, rv, p, hz⟩ := I1.list hq
  refine wpAny_pyIter_list p.isList ?_
  refine ⟨s1.heap.objs.size, [s1.heap.objs.size], _, _, H1, rfl, I1.kept (t' := s1.toks) fun b o e => Heap.get?_push_of_some _ e, turn_list a _, ⟨_, Heap.get?_push_size _ rfl, rfl, rfl⟩, fun b hb => ?_, q⟩
  have e : b = s1.heap.objs.size := by simpa using hb
  subst e
  exact I1.fpOk (Nat.le_refl _) (I1.hok.fresh (Nat.le_refl _))
theorem pi_tup {l : Expr} {tl : TE} (hl : PE X l tl) : PI X tg l (iTup X.K tl) := by
  intro pins s σ H R I h
  refine thn (hl pins s σ H _ I h) fun v s1 ⟨x, H1, I1, r1, q1⟩ => ?_
  obtain ⟨a, e, ⟨xs, hq⟩, q⟩ := q1
  subst e
  cases r1
  obtain ⟨its, rv, p, hz⟩ := I1.tuple hq
  refine wpAny_pyIter_tuple (show s1.heap.IsTuple a its.toArray from p) ?_
  refine ⟨s1.heap.objs.size, [s1.heap.objs.size], _, _, H1, rfl, I1.kept (t' := s1.toks) fun b o e => Heap.get?_push_of_some _ e, turn_tuple a _, ⟨_, Heap.get?_push_size _ rfl, rfl, rfl⟩, fun b hb => ?_, q⟩
  have e : b = s1.heap.objs.size := by simpa using hb
  subst e
  exact I1.fpOk (Nat.le_refl _) (I1.hok.fresh (Nat.le_refl _))
theorem range_it {pins : List (Addr × Obj)} {σ : St} {H : Hp} {s : Shared} {R : It → Hp → Prop} {E : Value → Shared → Prop} {lo hi : Int} {t u v : Tok} {tk : Nat} (I : Inv X pins σ H s) (h1 : -(2 ^ 62) ≤ lo) (h2 : lo < 2 ^ 62) (h3 : -(2 ^ 62) ≤ hi) (h4 : hi < 2 ^ 62)
    (q : R (Itr lo (hi - lo).toNat) H) : wpAny (model X.prog X.w) X.A (pyIter (.ref s.heap.objs.size)) (PIE X pins σ tg R) E { s with heap := s.heap.push { cls := .type "range", data := .fields #[.int lo t, .int hi u, .int 1 v] }, toks := tk } := by
  refine wpAny_pyIter_range (IsRange.new ..) (small_one h1 h2 h3 h4) ?_
  have I1 : Inv X pins σ H { s with heap := s.heap.push { cls := .type "range", data := .fields #[.int lo t, .int hi u, .int 1 v] }, toks := tk } := I.kept fun b o e => Heap.get?_push_of_some _ e
  refine ⟨(s.heap.push { cls := .type "range", data := .fields #[.int lo t, .int hi u, .int 1 v] }).objs.size, [(s.heap.push { cls := .type "range", data := .fields #[.int lo t, .int hi u, .int 1 v] }).objs.size], _, _, H, rfl,
    I1.kept (t' := tk) fun b o e => Heap.get?_push_of_some _ e, turn_range _ lo (hi - lo).toNat, ?_, fun b hb => ?_, q⟩
  · have e1 : lo + ((0 : Nat) : Int) * 1 = lo := by simp
    have e2 : (((hi - lo).toNat : Nat) : Int) - ((0 : Nat) : Int) = Builtin.Range.rangeSize lo hi 1 := by rw [rangeSize_one]; split <;> omega
    show IsRangeIter _ _ (lo + ((0 : Nat) : Int) * 1) ((((hi - lo).toNat : Nat) : Int) - ((0 : Nat) : Int)) 1
    rw [e1, e2]
    exact Heap.get?_push_size _ rfl
  · have e : b = (s.heap.push { cls := .type "range", data := .fields #[.int lo t, .int hi u, .int 1 v] }).objs.size := by simpa using hb
    subst e
    exact I1.fpOk (Nat.le_refl _) (I1.hok.fresh (Nat.le_refl _))
def iRng1 (ta : TA) : TI := fun σ H R => ta σ H fun vs H1 => ∃ j : Int, vs = [.int j] ∧ -(2 ^ 62) ≤ j ∧ j < 2 ^ 62 ∧ R (Itr 0 j.toNat) H1
theorem pi_range1 {a : Expr} {ta : TA} {p pos : Pos} (hg : Gl X "range") (hm : X.mg "range" = none) (ha : PA X [a] ta) (hs : starEach [a] X.env = [(false, eval a X.env)] := by rfl) : PI X tg (.Call (.Name "range" p) [a] [] pos) (iRng1 ta) := by
  intro pins s σ H R I h
  refine Call_ (ld_blt I hg hm boot_range (PyProof.Rows.callWith_type1 (thn (ha pos pins s σ H _ I h) fun us s1 ⟨vs, H1, I1, r1, q1⟩ => ?_) hs rfl))
  obtain ⟨j, e, q1, q2, q⟩ := q1
  subst e
  cases r1 with
  | cons r rr =>
    cases rr
    obtain ⟨t, rfl⟩ := r
    exact call_range_1 (range_it I1 (by omega) (by omega) q1 q2 (by simpa using q))
def tFor (wi : TI) (g : TG) (tb : TS) : TS := fun D σ H => wi σ H fun J H1 => ∃ W : Nat → Nat → St → Hp → Prop, (∃ m, W 0 m σ H1) ∧ ∀ i m σ H, W i m σ H →
  (J.stop i H ∧ D.nx σ H) ∨ (J.go i H ∧ ∃ N : St → Hp → Prop, (∀ σ' H', N σ' H' → ∃ m', m' < m ∧ W (i + 1) m' σ' H') ∧ ∀ x H', J.yld i H x H' → g x σ H' fun σ2 H2 => tb { D with nx := N, ct := N, bk := D.nx } σ2 H2)
def pinsAt (fp : List Addr) (h : Heap) : List (Addr × Obj) := fp.filterMap fun b => (h.get? b).map fun o => (b, o)
theorem mem_pinsAt {fp : List Addr} {h : Heap} {b : Addr} {o : Obj} (hb : b ∈ fp) (e : h.get? b = some o) : (b, o) ∈ pinsAt fp h := List.mem_filterMap.mpr ⟨b, hb, by rw [e]; rfl⟩
theorem of_pinsAt {fp : List Addr} {h : Heap} {p : Addr × Obj} (hp : p ∈ pinsAt fp h) : p.1 ∈ fp ∧ h.get? p.1 = some p.2 := by
  obtain ⟨b, hb, e⟩ := List.mem_filterMap.mp hp
  cases q : h.get? b with
  | none => rw [q] at e; cases e
  | some o =>
    rw [q] at e
    have e' : (b, o) = p := Option.some.inj e
    subst e'
    exact ⟨hb, q⟩
theorem Inv.pinned {pins : List (Addr × Obj)} {σ : St} {H : Hp} {s : Shared} {fp : List Addr} (I : Inv X pins σ H s) (hf : ∀ b ∈ fp, FpOk X pins H b) (ho : ∀ b ∈ fp, ∃ o, s.heap.get? b = some o ∧ ∀ v, o.data ≠ .cell v) : Inv X (pins ++ pinsAt fp s.heap) σ H s :=
  I.pins_of fun p hp => (List.mem_append.mp hp).elim (fun z => I.pin p (List.mem_append_right _ z)) fun z => by
    obtain ⟨hb, e⟩ := of_pinsAt z
    obtain ⟨f0, f1, f2, _⟩ := hf p.1 hb
    obtain ⟨o, e', d⟩ := ho p.1 hb
    rw [e] at e'; cases e'
    exact ⟨e, f0, f1, f2, d⟩
theorem Inv.unpinned {pins pl : List (Addr × Obj)} {σ : St} {H : Hp} {s : Shared} (I : Inv X (pins ++ pl) σ H s) : Inv X pins σ H s := I.pins_of fun p hp => I.pin p (List.mem_append_right _ (List.mem_append_left _ hp))
theorem ps_for {iter : Expr} {body : List Stmt} {wi : TI} {g : TG} {tb : TS} {pos : Pos} (hp : PassesOwn (model X.prog X.w) X.A X.env X.xe) (hc : X.calm = true) (hi : PI X tg iter wi) (hg : PG X tg g) (hb : PSs X body tb)
    (hs : ∀ x, foldedSetIterable iter X.env x = pure x := by intro _; rfl) : PS X (.For tg iter body [] pos) (tFor wi g tb) := by
  intro pins s σ H D I h
  refine wpAny_For (thn (hi pins s σ H _ I h) fun v s1 h1 => thn h1 fun itv s2 h2 => ?_) hs
  obtain ⟨it, fp, tn, J, H2, e, I2, T, st2, f2, W, ⟨m0, w0⟩, turn⟩ := h2
  subst e
  -- what stays true of the iterator's objects through the loop
  have stat : ∀ {H' : Hp}, (∀ b ∈ fp, H' b = none) → ∀ b ∈ fp, FpOk X pins H' b := fun hn b hb => ⟨hn b hb, (f2 b hb).2⟩
  refine codeAny_forLoop_any (fun n s' => ∃ i σ' H', Inv X pins σ' H' s' ∧ tn i s'.heap ∧ (∀ b ∈ fp, H' b = none) ∧ W i n σ' H') ?_ m0 ⟨0, σ, H2, I2, st2, fun b hb => (f2 b hb).1, w0⟩
  rintro n s3 ⟨i, σ3, H3, I3, st3, fr3, w3⟩
  rcases turn i n σ3 H3 w3 with ⟨stop, qn⟩ | ⟨go, N, hN, step⟩
  · refine wpAny_passesOwn hp (thn (T.done X rfl rfl rfl hc i pins s3 σ3 H3 X.xe I3 (stat fr3) st3 stop) fun r s4 ⟨hr, I4⟩ => ?_)
    subst hr
    exact wpAny_execs_nil ⟨σ3, H3, I4, qn⟩
  · refine wpAny_passesOwn hp (thn (T.item X rfl rfl rfl hc i pins s3 σ3 H3 X.xe I3 (stat fr3) st3 go) fun r s4 ⟨u, hr, h4⟩ => ?_)
    subst hr
    refine wpAny_passesOwn hp (thn h4 fun _ s5 ⟨x, H5, I5, r5, y5, st5, fr5⟩ => ?_)
    have I5' := I5.pinned (stat fr5) (T.obj _ _ st5)
    refine wpAny_passesOwn hp (thn (hg _ s5 σ3 H5 x u _ I5' r5 (step x H5 y5)) fun _ s6 ⟨σ6, H6, I6, q6⟩ => ?_)
    refine wpAny_passesOwn hp (thn (hb _ s6 σ6 H6 _ I6 q6) fun f s7 q7 => ?_)
    have again : ∀ {σ7 : St} {H7 : Hp}, Inv X (pins ++ pinsAt fp s5.heap) σ7 H7 s7 → N σ7 H7 → ∃ m, m < n ∧ ∃ i σ' H', Inv X pins σ' H' s7 ∧ tn i s7.heap ∧ (∀ b ∈ fp, H' b = none) ∧ W i m σ' H' := fun {σ7 H7} I7 n7 => by
      obtain ⟨m', hm, w7⟩ := hN σ7 H7 n7
      refine ⟨m', hm, i + 1, σ7, H7, I7.unpinned, T.keep _ _ _ st5 fun b hb o e => (I7.pin (b, o) (List.mem_append_right _ (List.mem_append_right _ (mem_pinsAt hb e)))).1, fun b hb => ?_, w7⟩
      obtain ⟨o, e, d⟩ := T.obj _ _ st5 b hb
      exact (I7.pin (b, o) (List.mem_append_right _ (List.mem_append_right _ (mem_pinsAt hb e)))).2.1
    cases f with
    | next => obtain ⟨σ7, H7, I7, n7⟩ := q7; exact again I7 n7
    | cont => obtain ⟨σ7, H7, I7, n7⟩ := q7; exact again I7 n7
    | brk => obtain ⟨σ7, H7, I7, q7⟩ := q7; exact ⟨σ7, H7, I7.unpinned, q7⟩
    | ret v => obtain ⟨x7, σ7, H7, I7, r7, q7⟩ := q7; exact ⟨x7, σ7, H7, I7.unpinned, r7, q7⟩
end
theorem for_list {K : PySem.W.Frag} {a : Addr} {xs : List V} {g : TG} {tb : TS} {D : Ends} {σ : St} {H : Hp} (Pv : Nat → St → Hp → Prop) (h0 : Pv 0 σ H) (hl : ∀ i σ H, i ≤ xs.length → Pv i σ H → SqL K H a xs)
    (hs : ∀ i x σ H, xs[i]? = some x → Pv i σ H → g x σ H fun σ2 H2 => tb { D with nx := Pv (i + 1), ct := Pv (i + 1), bk := D.nx } σ2 H2) (hd : ∀ σ H, Pv xs.length σ H → D.nx σ H) :
    ∃ W : Nat → Nat → St → Hp → Prop, (∃ m, W 0 m σ H) ∧ ∀ i m σ H, W i m σ H →
      ((Itl K a).stop i H ∧ D.nx σ H) ∨ ((Itl K a).go i H ∧ ∃ N : St → Hp → Prop, (∀ σ' H', N σ' H' → ∃ m', m' < m ∧ W (i + 1) m' σ' H') ∧ ∀ x H', (Itl K a).yld i H x H' → g x σ H' fun σ2 H2 => tb { D with nx := N, ct := N, bk := D.nx } σ2 H2) := by
  refine ⟨fun i m σ H => m = xs.length - i ∧ i ≤ xs.length ∧ Pv i σ H, ⟨xs.length, by simp, Nat.zero_le _, h0⟩, ?_⟩
  rintro i m σ H ⟨rfl, hi, p⟩
  have q := hl i σ H hi p
  by_cases hlt : i < xs.length
  · refine .inr ⟨⟨xs, xs[i], q, by simp [hlt]⟩, Pv (i + 1), fun σ' H' p' => ⟨xs.length - (i + 1), by omega, rfl, hlt, p'⟩, fun x H' y => ?_⟩
    obtain ⟨e, y⟩ := y
    subst e
    exact hs i x σ _ (y xs q) p
  · have e : i = xs.length := by omega
    subst e
    exact .inl ⟨⟨xs, q, Nat.le_refl _⟩, hd σ H p⟩
theorem for_tup {K : PySem.W.Frag} {a : Addr} {xs : List V} {g : TG} {tb : TS} {D : Ends} {σ : St} {H : Hp} (Pv : Nat → St → Hp → Prop) (h0 : Pv 0 σ H) (hl : ∀ i σ H, i ≤ xs.length → Pv i σ H → SqT K H a xs)
    (hs : ∀ i x σ H, xs[i]? = some x → Pv i σ H → g x σ H fun σ2 H2 => tb { D with nx := Pv (i + 1), ct := Pv (i + 1), bk := D.nx } σ2 H2) (hd : ∀ σ H, Pv xs.length σ H → D.nx σ H) :
    ∃ W : Nat → Nat → St → Hp → Prop, (∃ m, W 0 m σ H) ∧ ∀ i m σ H, W i m σ H →
      ((Itt K a).stop i H ∧ D.nx σ H) ∨ ((Itt K a).go i H ∧ ∃ N : St → Hp → Prop, (∀ σ' H', N σ' H' → ∃ m', m' < m ∧ W (i + 1) m' σ' H') ∧ ∀ x H', (Itt K a).yld i H x H' → g x σ H' fun σ2 H2 => tb { D with nx := N, ct := N, bk := D.nx } σ2 H2) := by
  refine ⟨fun i m σ H => m = xs.length - i ∧ i ≤ xs.length ∧ Pv i σ H, ⟨xs.length, by simp, Nat.zero_le _, h0⟩, ?_⟩
  rintro i m σ H ⟨rfl, hi, p⟩
  have q := hl i σ H hi p
  by_cases hlt : i < xs.length
  · refine .inr ⟨⟨xs, xs[i], q, by simp [hlt]⟩, Pv (i + 1), fun σ' H' p' => ⟨xs.length - (i + 1), by omega, rfl, hlt, p'⟩, fun x H' y => ?_⟩
    obtain ⟨e, y⟩ := y
    subst e
    exact hs i x σ _ (y xs q) p
  · have e : i = xs.length := by omega
    subst e
    exact .inl ⟨⟨xs, q, Nat.le_refl _⟩, hd σ H p⟩
theorem for_range {lo : Int} {n : Nat} {g : TG} {tb : TS} {D : Ends} {σ : St} {H : Hp} (Pv : Nat → St → Hp → Prop) (h0 : Pv 0 σ H)
    (hs : ∀ i σ H, i < n → Pv i σ H → g (.int (lo + i)) σ H fun σ2 H2 => tb { D with nx := Pv (i + 1), ct := Pv (i + 1), bk := D.nx } σ2 H2) (hd : ∀ σ H, Pv n σ H → D.nx σ H) :
    ∃ W : Nat → Nat → St → Hp → Prop, (∃ m, W 0 m σ H) ∧ ∀ i m σ H, W i m σ H →
      ((Itr lo n).stop i H ∧ D.nx σ H) ∨ ((Itr lo n).go i H ∧ ∃ N : St → Hp → Prop, (∀ σ' H', N σ' H' → ∃ m', m' < m ∧ W (i + 1) m' σ' H') ∧ ∀ x H', (Itr lo n).yld i H x H' → g x σ H' fun σ2 H2 => tb { D with nx := N, ct := N, bk := D.nx } σ2 H2) := by
  refine ⟨fun i m σ H => m = n - i ∧ i ≤ n ∧ Pv i σ H, ⟨n, by simp, Nat.zero_le _, h0⟩, ?_⟩
  rintro i m σ H ⟨rfl, hi, p⟩
  by_cases hlt : i < n
  · refine .inr ⟨hlt, Pv (i + 1), fun σ' H' p' => ⟨n - (i + 1), by omega, rfl, hlt, p'⟩, fun x H' y => ?_⟩
    obtain ⟨e, y⟩ := y
    subst e y
    exact hs i σ _ hlt p
  · have e : i = n := by omega
    subst e
    exact .inl ⟨Nat.le_refl _, hd σ H p⟩
end L2
namespace L2
open PySem PySem.Spec PyProof.Rows
abbrev R2 := V → V → Hp → VK → Prop
def OpR (X : Cx) (f : Value → Value → Sem Value) (r : R2) : Prop :=
  ∀ (pins : List (Addr × Obj)) (s : Shared) (σ : St) (H : Hp) (x y : V) (v u : Value) (Q : VK), Inv X pins σ H s → RelV x v → RelV y u → r x y H Q →
    wpAny (model X.prog X.w) X.A (f v u) (EP X pins σ Q) X.xe s
def UnR (X : Cx) (f : Value → Sem Value) (r : V → Hp → VK → Prop) : Prop :=
  ∀ (pins : List (Addr × Obj)) (s : Shared) (σ : St) (H : Hp) (x : V) (v : Value) (Q : VK), Inv X pins σ H s → RelV x v → r x H Q →
    wpAny (model X.prog X.w) X.A (f v) (EP X pins σ Q) X.xe s
def CallR (X : Cx) (f : Value) (r : List V → Hp → VK → Prop) : Prop :=
  ∀ (pins : List (Addr × Obj)) (s : Shared) (σ : St) (H : Hp) (xs : List V) (us : List Value) (Q : VK), Inv X pins σ H s → Vals xs us → r xs H Q →
    wpAny (model X.prog X.w) X.A (call f us) (EP X pins σ Q) X.xe s
def tOp (r : R2) (ta tb : TE) : TE := fun σ H Q => ta σ H fun x H1 => tb σ H1 fun y H2 => r x y H2 Q
def tUn (r : V → Hp → VK → Prop) (ta : TE) : TE := fun σ H Q => ta σ H fun x H1 => r x H1 Q
def rI (C : Int → Int → Prop) (g : Int → Int → V) : R2 := fun x y H Q => ∃ i j, x = .int i ∧ y = .int j ∧ C i j ∧ Q (g i j) H
def rI0 (g : Int → Int → V) : R2 := fun x y H Q => ∃ i j, x = .int i ∧ y = .int j ∧ Q (g i j) H
def rU (g : Int → V) : V → Hp → VK → Prop := fun x H Q => ∃ i, x = .int i ∧ Q (g i) H
section
variable {X : Cx} {a b c : Expr} {ta tb tc : TE} {pos : Pos}
theorem binT (ha : PE X a ta) (hb : PE X b tb) {pins : List (Addr × Obj)} {s : Shared} {σ : St} {H : Hp} {R : V → V → Hp → Prop} (I : Inv X pins σ H s)
    (h : ta σ H fun x H1 => tb σ H1 fun y H2 => R x y H2) {Q : Value → Shared → Prop} {f : Value → Value → Sem Value}
    (hf : ∀ v u s2 x y H2, Inv X pins σ H2 s2 → RelV x v → RelV y u → R x y H2 → wpAny (model X.prog X.w) X.A (f v u) Q X.xe s2) :
    wpAny (model X.prog X.w) X.A (eval a X.env) (fun v s₁ => wpAny (model X.prog X.w) X.A (eval b X.env) (fun u s₂ => wpAny (model X.prog X.w) X.A (f v u) Q X.xe s₂) X.xe s₁) X.xe s := by
  refine thn (ha pins s σ H _ I h) fun v s1 ⟨x, H1, I1, r1, q1⟩ => ?_
  refine thn (hb pins s1 σ H1 _ I1 q1) fun u s2 ⟨y, H2, I2, r2, q2⟩ => ?_
  exact hf v u s2 x y H2 I2 r1 r2 q2
theorem pe_op {op : Operator} {r : R2} (ho : OpR X (binaryOp op) r) (ha : PE X a ta) (hb : PE X b tb) : PE X (.BinOp a op b pos) (tOp r ta tb) := by
  intro pins s σ H Q I h
  exact wpAny_BinOp (binT ha hb I h fun v u s2 x y H2 I2 rx ry q => ho pins s2 σ H2 x y v u Q I2 rx ry q)
theorem pe_un {op : UnaryOp} {r : V → Hp → VK → Prop} (ho : UnR X (unaryOp op) r) (ha : PE X a ta) : PE X (.UnaryOp op a pos) (tUn r ta) := by
  intro pins s σ H Q I h
  exact UnaryOp_ (thn (ha pins s σ H _ I h) fun v s1 ⟨x, H1, I1, r1, q1⟩ => ho pins s1 σ H1 x v Q I1 r1 q1)
theorem opI {f : Value → Value → Sem Value} {C : Int → Int → Prop} {g : Int → Int → Int}
    (rule : ∀ (i j : Int) (t u : Tok) (s : Shared) (Q : Value → Shared → Prop) (E : Value → Shared → Prop), C i j → Q (.int (g i j) s.toks) { s with toks := s.toks + 1 } → wpAny (model X.prog X.w) X.A (f (.int i t) (.int j u)) Q E s) :
    OpR X f (rI C fun i j => .int (g i j)) := by
  intro pins s σ H x y v u Q I rx ry h
  obtain ⟨i, j, rfl, rfl, hc, q⟩ := h
  obtain ⟨t, rfl⟩ := rx
  obtain ⟨t', rfl⟩ := ry
  exact rule i j t t' s _ _ hc ⟨.int (g i j), H, I.tok _, ⟨_, rfl⟩, q⟩
theorem opI0 {f : Value → Value → Sem Value} {g : Int → Int → Int}
    (rule : ∀ (i j : Int) (t u : Tok) (s : Shared) (Q : Value → Shared → Prop) (E : Value → Shared → Prop), Q (.int (g i j) s.toks) { s with toks := s.toks + 1 } → wpAny (model X.prog X.w) X.A (f (.int i t) (.int j u)) Q E s) :
    OpR X f (rI0 fun i j => .int (g i j)) := by
  intro pins s σ H x y v u Q I rx ry h
  obtain ⟨i, j, rfl, rfl, q⟩ := h
  obtain ⟨t, rfl⟩ := rx
  obtain ⟨t', rfl⟩ := ry
  exact rule i j t t' s _ _ ⟨.int (g i j), H, I.tok _, ⟨_, rfl⟩, q⟩
theorem opB0 {f : Value → Value → Sem Value} {g : Int → Int → Bool}
    (rule : ∀ (i j : Int) (t u : Tok) (s : Shared) (Q : Value → Shared → Prop) (E : Value → Shared → Prop), Q (.bool (g i j)) s → wpAny (model X.prog X.w) X.A (f (.int i t) (.int j u)) Q E s) :
    OpR X f (rI0 fun i j => .bl (g i j)) := by
  intro pins s σ H x y v u Q I rx ry h
  obtain ⟨i, j, rfl, rfl, q⟩ := h
  obtain ⟨t, rfl⟩ := rx
  obtain ⟨t', rfl⟩ := ry
  exact rule i j t t' s _ _ ⟨.bl (g i j), H, I, rfl, q⟩
def CDiv (i j : Int) : Prop := 0 < j ∧ j < 1073741824
def CMul (i j : Int) : Prop := (-(2 ^ 64) < i ∧ i < 2 ^ 64) ∨ (-(2 ^ 64) < j ∧ j < 2 ^ 64)
theorem CMul.ok {i j : Int} (h : CMul i j) : IntMulOk i j := by
  rcases h with ⟨h1, h2⟩ | ⟨h1, h2⟩
  · exact .of_left (intBits_le_64 h1 h2)
  · exact .of_right (intBits_le_64 h1 h2)
theorem op_add : OpR X (binaryOp .Add) (rI0 fun i j => .int (i + j)) := opI0 fun _ _ _ _ _ _ _ q => add_int q
theorem op_sub : OpR X (binaryOp .Sub) (rI0 fun i j => .int (i - j)) := opI0 fun _ _ _ _ _ _ _ q => sub_int q
theorem op_mul : OpR X (binaryOp .Mult) (rI CMul fun i j => .int (i * j)) := opI fun _ _ _ _ _ _ _ hc q => mul_int q hc.ok
theorem op_fdiv : OpR X (binaryOp .FloorDiv) (rI CDiv fun i j => .int (i / j)) := opI fun i j _ _ _ _ _ hc q => by
  have h1 : (0 : Int) < j := hc.1
  have h2 : j < 1073741824 := hc.2
  exact floordiv_int (by omega) (by rw [Int.fdiv_eq_ediv_of_nonneg i (by omega)]; exact q) (.inl (PyProof.noPylong_small (by omega)))
theorem op_mod : OpR X (binaryOp .Mod) (rI (fun _ j => 0 < j) fun i j => .int (i % j)) := opI fun i j _ _ _ _ _ hc q => by
  have h1 : (0 : Int) < j := hc
  exact mod_int' (by omega) (by rw [Int.fmod_eq_emod_of_nonneg i (by omega)]; exact q)
theorem unI {f : Value → Sem Value} {g : Int → Int}
    (rule : ∀ (i : Int) (t : Tok) (s : Shared) (Q : Value → Shared → Prop) (E : Value → Shared → Prop), Q (.int (g i) s.toks) { s with toks := s.toks + 1 } → wpAny (model X.prog X.w) X.A (f (.int i t)) Q E s) :
    UnR X f (rU fun i => .int (g i)) := by
  intro pins s σ H x v Q I rx h
  obtain ⟨i, rfl, q⟩ := h
  obtain ⟨t, rfl⟩ := rx
  exact rule i t s _ _ ⟨.int (g i), H, I.tok _, ⟨_, rfl⟩, q⟩
theorem un_neg : UnR X (unaryOp .USub) (rU fun i => .int (-i)) := unI fun _ _ _ _ _ q => neg_int q
end
def scal : V → V → Bool
  | .non, .non => true | .non, .int _ => true | .int _, .non => true | .non, .bl _ => true | .bl _, .non => true | .non, .str _ => true | .str _, .non => true
  | .int _, .int _ => true | .bl _, .bl _ => true | .str _, .str _ => true | .byt _, .byt _ => true
  | .int _, .str _ => true | .str _, .int _ => true | .bl _, .str _ => true | .str _, .bl _ => true
  | _, _ => false
def rEq : R2 := fun x y H Q => scal x y = true ∧ Q (.bl (decide (x = y))) H
def rNe : R2 := fun x y H Q => scal x y = true ∧ Q (.bl (!decide (x = y))) H
theorem dec_int {i j : Int} : decide (V.int i = V.int j) = (i == j) := by
  rw [Bool.eq_iff_iff]
  simp
theorem dec_bl {i j : Bool} : decide (V.bl i = V.bl j) = (i == j) := by
  rw [Bool.eq_iff_iff]
  simp
theorem dec_str {i j : Str} : decide (V.str i = V.str j) = (i == j) := by
  rw [Bool.eq_iff_iff]
  simp
theorem dec_byt {i j : Array UInt8} : decide (V.byt i = V.byt j) = (i.toList == j.toList) := by
  rw [Bool.eq_iff_iff]
  cases i
  cases j
  simp
section
variable {X : Cx} {a b c : Expr} {ta tb tc : TE} {pos : Pos}
theorem fin_bl {pins : List (Addr × Obj)} {σ : St} {H : Hp} {s : Shared} {Q : VK} {k k' : Bool} (I : Inv X pins σ H s) (q : Q (.bl k) H) (e : k = k') : EP X pins σ Q (.bool k') s := by
  subst e
  exact ⟨.bl k, H, I, rfl, q⟩
theorem op_eq : OpR X (compareOp .Eq) rEq := by
  intro pins s σ H x y v u Q I rx ry h
  obtain ⟨hs, q⟩ := h
  cases x with
  | non =>
    cases rx
    cases y with
    | non => cases ry; exact PySem.EqNone.eq_none_none (fin_bl I q (by simp))
    | bl j => cases ry; exact PySem.EqNone.eq_none_bool (fin_bl I q (by simp))
    | int j => obtain ⟨t', rfl⟩ := ry; exact PySem.EqNone.eq_none_int (fin_bl I q (by simp))
    | str j => obtain ⟨t', rfl⟩ := ry; exact PySem.EqNone.eq_none_str (fin_bl I q (by simp))
    | _ => exact absurd (show false = true from hs) Bool.false_ne_true
  | bl i =>
    cases rx
    cases y with
    | non => cases ry; exact PySem.EqNone.eq_bool_none (fin_bl I q (by simp))
    | bl j => cases ry; exact eq_bool (fin_bl I q dec_bl)
    | str j => obtain ⟨t', rfl⟩ := ry; exact PySem.EqMixed.eq_bool_str (fin_bl I q (by simp))
    | _ => exact absurd (show false = true from hs) Bool.false_ne_true
  | int i =>
    obtain ⟨t, rfl⟩ := rx
    cases y with
    | non => cases ry; exact PySem.EqNone.eq_int_none (fin_bl I q (by simp))
    | int j => obtain ⟨t', rfl⟩ := ry; exact eq_int (fin_bl I q dec_int)
    | str j => obtain ⟨t', rfl⟩ := ry; exact PySem.EqMixed.eq_int_str (fin_bl I q (by simp))
    | _ => exact absurd (show false = true from hs) Bool.false_ne_true
  | str i =>
    obtain ⟨t, rfl⟩ := rx
    cases y with
    | non => cases ry; exact PySem.EqNone.eq_str_none (fin_bl I q (by simp))
    | bl j => cases ry; exact PySem.EqMixed.eq_str_bool (fin_bl I q (by simp))
    | int j => obtain ⟨t', rfl⟩ := ry; exact PySem.EqMixed.eq_str_int (fin_bl I q (by simp))
    | str j => obtain ⟨t', rfl⟩ := ry; exact eq_str (fin_bl I q dec_str)
    | _ => exact absurd (show false = true from hs) Bool.false_ne_true
  | byt i =>
    obtain ⟨t, rfl⟩ := rx
    cases y with
    | byt j => obtain ⟨t', rfl⟩ := ry; exact PySem.W.eq_bytes (fin_bl I q dec_byt)
    | _ => exact absurd (show false = true from hs) Bool.false_ne_true
  | _ => cases y <;> exact absurd (show false = true from hs) Bool.false_ne_true
theorem op_ne : OpR X (compareOp .NotEq) rNe := by
  intro pins s σ H x y v u Q I rx ry h
  obtain ⟨hs, q⟩ := h
  cases x with
  | non =>
    cases rx
    cases y with
    | non => cases ry; exact PySem.EqNone.ne_none_none (fin_bl I q (by simp))
    | bl j => cases ry; exact PySem.EqNone.ne_none_bool (fin_bl I q (by simp))
    | int j => obtain ⟨t', rfl⟩ := ry; exact PySem.EqNone.ne_none_int (fin_bl I q (by simp))
    | str j => obtain ⟨t', rfl⟩ := ry; exact PySem.EqNone.ne_none_str (fin_bl I q (by simp))
    | _ => exact absurd (show false = true from hs) Bool.false_ne_true
  | bl i =>
    cases rx
    cases y with
    | non => cases ry; exact PySem.EqNone.ne_bool_none (fin_bl I q (by simp))
    | bl j => cases ry; exact ne_bool (fin_bl I q (congrArg not dec_bl))
    | str j => obtain ⟨t', rfl⟩ := ry; exact PySem.EqMixed.ne_bool_str (fin_bl I q (by simp))
    | _ => exact absurd (show false = true from hs) Bool.false_ne_true
  | int i =>
    obtain ⟨t, rfl⟩ := rx
    cases y with
    | non => cases ry; exact PySem.EqNone.ne_int_none (fin_bl I q (by simp))
    | int j => obtain ⟨t', rfl⟩ := ry; exact ne_int (fin_bl I q (congrArg not dec_int))
    | str j => obtain ⟨t', rfl⟩ := ry; exact PySem.EqMixed.ne_int_str (fin_bl I q (by simp))
    | _ => exact absurd (show false = true from hs) Bool.false_ne_true
  | str i =>
    obtain ⟨t, rfl⟩ := rx
    cases y with
    | non => cases ry; exact PySem.EqNone.ne_str_none (fin_bl I q (by simp))
    | bl j => cases ry; exact PySem.EqMixed.ne_str_bool (fin_bl I q (by simp))
    | int j => obtain ⟨t', rfl⟩ := ry; exact PySem.EqMixed.ne_str_int (fin_bl I q (by simp))
    | str j => obtain ⟨t', rfl⟩ := ry; exact ne_str (fin_bl I q (congrArg not dec_str))
    | _ => exact absurd (show false = true from hs) Bool.false_ne_true
  | byt i =>
    obtain ⟨t, rfl⟩ := rx
    cases y with
    | byt j => obtain ⟨t', rfl⟩ := ry; exact PySem.W.ne_bytes (fin_bl I q (congrArg not dec_byt))
    | _ => exact absurd (show false = true from hs) Bool.false_ne_true
  | _ => cases y <;> exact absurd (show false = true from hs) Bool.false_ne_true
theorem op_lt : OpR X (compareOp .Lt) (rI0 fun i j => .bl (decide (i < j))) := opB0 fun _ _ _ _ _ _ _ q => lt_int q
theorem op_le : OpR X (compareOp .LtE) (rI0 fun i j => .bl (decide (i ≤ j))) := opB0 fun _ _ _ _ _ _ _ q => le_int q
theorem op_gt : OpR X (compareOp .Gt) (rI0 fun i j => .bl (decide (j < i))) := opB0 fun _ _ _ _ _ _ _ q => gt_int q
theorem op_in_str : OpR X (compareOp .In) (fun x y H Q => ∃ i j, x = .str i ∧ y = .str j ∧ Q (.bl (!(Builtin.Str.occurrences j i 0 j.length 1).isEmpty)) H) := by
  intro pins s σ H x y v u Q I rx ry h
  obtain ⟨i, j, rfl, rfl, q⟩ := h
  obtain ⟨t, rfl⟩ := rx
  obtain ⟨t', rfl⟩ := ry
  exact in_str (fin_bl I q rfl)
theorem nomark (b : Expr) {op : CmpOp} (h : op ≠ .In := by decide) (h2 : op ≠ .NotIn := by decide) : behindInMarks op b = false := by
  have e1 : (op == CmpOp.In) = false := by cases op <;> first | rfl | exact absurd rfl h
  have e2 : (op == CmpOp.NotIn) = false := by cases op <;> first | rfl | exact absurd rfl h2
  cases b <;> simp [behindInMarks, e1, e2]
theorem pe_cmpR {op : CmpOp} {r : R2} (ho : OpR X (compareOp op) r) (ha : PE X a ta) (hb : PE X b tb) (hm : behindInMarks op b = false) : PE X (.Compare a [op] [b] pos) (tOp r ta tb) := by
  intro pins s σ H Q I h
  exact wpAny_Compare1 (binT ha hb I h fun v u s2 x y H2 I2 rx ry q => ho pins s2 σ H2 x y v u Q I2 rx ry q) hm
def tTest (t : TE) : TT := fun σ H Q => t σ H fun x H' => ∃ k, x = .bl k ∧ Q k H'
theorem pt_cmpR {op : CmpOp} {r : R2} (ho : OpR X (compareOp op) r) (ha : PE X a ta) (hb : PE X b tb) (hm : behindInMarks op b = false) : PT X (.Compare a [op] [b] pos) (tTest (tOp r ta tb)) := by
  intro pins s σ H Q I h
  refine wpAny_isTrue_Compare1 (thn (ha pins s σ H _ I h) fun v s1 ⟨x, H1, I1, r1, q1⟩ => thn (hb pins s1 σ H1 _ I1 q1) fun u s2 ⟨y, H2, I2, r2, q2⟩ =>
    thn (ho pins s2 σ H2 x y v u _ I2 r1 r2 q2) fun c s3 ⟨z, H3, I3, r3, k, e, q3⟩ => ?_) hm
  subst e
  cases r3
  exact wpAny_truthy_bool ⟨H3, I3, q3⟩
def tChain (r r' : R2) (ta tb tc : TE) : TE := fun σ H Q => ta σ H fun x H1 => tb σ H1 fun y H2 => r x y H2 fun z H3 => ∃ k, z = .bl k ∧
  (if k = true then tc σ H3 fun w' H4 => r' y w' H4 Q else Q (.bl false) H3)
theorem pt_chain {op op' : CmpOp} {r r' : R2} (ho : OpR X (compareOp op) r) (ho' : OpR X (compareOp op') r') (ha : PE X a ta) (hb : PE X b tb) (hc : PE X c tc)
    (hm : lastMarks [op, op'] [b, c] = false := by with_unfolding_all rfl) : PT X (.Compare a [op, op'] [b, c] pos) (tTest (tChain r r' ta tb tc)) := by
  intro pins s σ H Q I h
  refine isTrue_chain (thn (ha pins s σ H _ I h) fun v s1 ⟨x, H1, I1, r1, q1⟩ => test_link (thn (hb pins s1 σ H1 _ I1 q1) fun u s2 ⟨y, H2, I2, r2, q2⟩ =>
    thn (ho pins s2 σ H2 x y v u _ I2 r1 r2 q2) fun d s3 ⟨z, H3, I3, r3, k, e, q3⟩ => ?_)) hm
  subst e
  cases r3
  refine wpAny_truthy_bool ?_
  cases k with
  | false =>
    obtain ⟨k', e', q'⟩ := q3
    cases e'
    exact ite_ff ⟨H3, I3, q'⟩
  | true =>
    refine ite_tt (test_last (thn (hc pins s3 σ H3 _ I3 q3) fun w' s4 ⟨z', H4, I4, r4, q4⟩ => thn (ho' pins s4 σ H4 y z' u w' _ I4 r2 r4 q4) fun d' s5 ⟨z2, H5, I5, r5, k2, e2, q5⟩ => ?_))
    subst e2
    cases r5
    exact wpAny_truthy_bool ⟨H5, I5, q5⟩
theorem line63 : (sizeLine : Nat) < 2 ^ 63 := by rw [sizeLine_eq]; decide
theorem op_add_str : OpR X (binaryOp .Add) (fun x y H Q => ∃ i j, x = .str i ∧ y = .str j ∧ i.length + j.length ≤ sizeLine ∧ Q (.str (i ++ j)) H) := by
  intro pins s σ H x y v u Q I rx ry h
  obtain ⟨i, j, rfl, rfl, hz, q⟩ := h
  obtain ⟨t, rfl⟩ := rx
  obtain ⟨t', rfl⟩ := ry
  exact add_str (fun t' tk => ⟨.str (i ++ j), H, I.tok _, ⟨_, rfl⟩, q⟩) hz
theorem vals1 {x : V} {us : List Value} (r : Vals [x] us) : ∃ u, us = [u] ∧ RelV x u := by
  cases r with
  | cons r1 r2 => cases r2; exact ⟨_, rfl, r1⟩
theorem vals2 {x y : V} {us : List Value} (r : Vals [x, y] us) : ∃ u w', us = [u, w'] ∧ RelV x u ∧ RelV y w' := by
  cases r with
  | cons r1 r2 =>
    cases r2 with
    | cons r3 r4 => cases r4; exact ⟨_, _, rfl, r1, r3⟩
theorem call_abs : CallR X (.builtin "abs") (fun xs H Q => ∃ i, xs = [.int i] ∧ Q (.int (if i < 0 then -i else i)) H) := by
  intro pins s σ H xs us Q I r h
  obtain ⟨i, rfl, q⟩ := h
  obtain ⟨u, rfl, t, rfl⟩ := vals1 r
  exact call_abs_int fun u tk => ⟨.int (if i < 0 then -i else i), H, I.tok _, ⟨_, rfl⟩, q⟩
theorem call_str_int : CallR X (.type "str") (fun xs H Q => ∃ i, xs = [.int i] ∧ i.natAbs.log2 < 1920 ∧ Q (.str (toString i)) H) := by
  intro pins s σ H xs us Q I r h
  obtain ⟨i, rfl, hz, q⟩ := h
  obtain ⟨u, rfl, t, rfl⟩ := vals1 r
  exact PySem.P.str_of_int hz ⟨.str _, H, I.tok _, ⟨_, rfl⟩, q⟩
end
end L2
namespace L2
open PySem PySem.Spec PyProof.Rows
structure ObjM (h : Heap) (x dx C : Addr) (mA : Str → Option Value) : Prop where
  obj : h.get? x = some (PySem.W.instObj C dx)
  ns : h.Ns1 dx mA
  ne : dx ≠ x
theorem lookIn_ns {h : Heap} {dx : Addr} {mA : Str → Option Value} (n : h.Ns1 dx mA) : ∃ od, h.get? dx = some od ∧ ∀ name, PySem.W.lookIn name od = some (mA name) := by
  obtain ⟨o, es, ep, ho, hd, hk, _, hm⟩ := n
  refine ⟨o, ho, fun name => ?_⟩
  have e := hm name
  unfold nsFind findBy at e
  rw [← Array.find?_toList] at e
  unfold PySem.W.lookIn
  rw [hd]
  dsimp only
  split
  · rename_i y q
    rw [q] at e
    exact congrArg some e
  · rename_i q
    rw [q] at e
    have a : es.toList.any (·.refKey) = false := by
      rw [List.any_eq_false]
      intro y hy
      obtain ⟨z, t, hkey⟩ := hk y (Array.mem_toList_iff.mp hy)
      simp [DictEntry.refKey, hkey]
    have a' : ¬ es.toList.any (·.refKey) = true := by rw [a]; exact Bool.false_ne_true
    rw [if_neg a']
    exact congrArg some e
theorem ObjM.look {h : Heap} {x dx C : Addr} {mA : Str → Option Value} (I : ObjM h x dx C mA) : ∃ od, PySem.W.InstAt h x (PySem.W.instObj C dx) C (some od) ∧ ∀ name, PySem.W.lookIn name od = some (mA name) :=
  let ⟨od, ho, hl⟩ := lookIn_ns I.ns
  ⟨od, ⟨I.obj, rfl, rfl, ho⟩, hl⟩
section
variable {prog : Program} {w : World} {A : Around} {E : Value → Shared → Prop} {s : Shared} {K : PySem.W.Frag} {x dx C f : Addr} {mA : Str → Option Value} {name : Str} {v : Value}
end
theorem RelO.some_of {v : V} {o : Option Value} (r : RelO (some v) o) : ∃ u, o = some u ∧ RelV v u := by
  cases o with
  | none => exact (show False from r).elim
  | some u => exact ⟨u, rfl, r⟩
section
variable {P : Program} {w : World} {H H' : Hp} {h h' : Heap} {a C dx : Addr} {fs fs' : List (Str × V)}
theorem ins_get (hok : HOk P w H h) (e : H a = some (.ins C dx fs)) : ∃ mA, ObjM h a dx C mA ∧ (∀ f, RelO (fs.lookup f) (mA f)) ∧ PySem.Within mA (fs.map (·.1)) ∧ fs.length ≤ 1000 ∧ H dx = some (.own a) := by
  obtain ⟨d, z, ne, ob, mA, n, r, q⟩ := (show ObjOk P w H h a (.ins C dx fs) from hok a _ e)
  exact ⟨mA, ⟨ob, n, ne⟩, r, q, z, d⟩
end
structure Cls (K : PySem.W.Frag) (C : Addr) : Prop where
  pg : PySem.W.plainGet K C Str.empty = true
  hd : PySem.W.hasDictIn K C = true
  po : PySem.W.plainOver K C = true
  sa : PySem.W.findIn K (.ref C) "__setattr__" = some (some (.builtin "object.__setattr__"))
theorem Cls.get {K : PySem.W.Frag} {C : Addr} (c : Cls K C) (f : Str) : PySem.W.plainGet K C f = true := c.pg
structure Con (K : PySem.W.Frag) (C : Addr) (f : Str) (v : V) (u : Value) : Prop where
  at_ : PySem.W.findIn K (.ref C) f = some (some u)
  rel : RelV v u
  get : PySem.W.specialIn K u "__get__" = some none
  cp : PySem.W.copiedNames.contains f = false
structure Meth (K : PySem.W.Frag) (C : Addr) (m : Str) (f : Addr) : Prop where
  at_ : PySem.W.findIn K (.ref C) m = some (some (.ref f))
  fn : PySem.W.isFn K (.ref f) = true
  kp : PySem.W.keepIn K (.ref f) = true
section
variable {X : Cx} {pins : List (Addr × Obj)} {σ : St} {H : Hp} {s : Shared} {a C dx : Addr} {fs : List (Str × V)} {f : Str} {v : V} {A : Around} {E : Value → Shared → Prop}
theorem Inv.made (I : Inv X pins σ H s) : Inv X pins σ (upd (upd H s.heap.objs.size (.own (s.heap.objs.size + 1))) (s.heap.objs.size + 1) (.ins C s.heap.objs.size []))
    { s with heap := (s.heap.push PySem.W.emptyDict).push (PySem.W.instObj C s.heap.objs.size) } := by
  have e1 : (s.heap.push PySem.W.emptyDict).get? s.heap.objs.size = some PySem.W.emptyDict := Heap.get?_push_size s.heap rfl
  have e2 : ((s.heap.push PySem.W.emptyDict).push (PySem.W.instObj C s.heap.objs.size)).get? (s.heap.objs.size + 1) = some (PySem.W.instObj C s.heap.objs.size) := by
    have := Heap.get?_push_size (s.heap.push PySem.W.emptyDict) (o := PySem.W.instObj C s.heap.objs.size) rfl
    rwa [Heap.size_push] at this
  have e3 : (s.heap.push PySem.W.emptyDict).Ns s.heap.objs.size (fun _ => none) := ⟨PySem.W.emptyDict, #[], _, e1, rfl, (fun e he => absurd he (by simp)), fun _ => rfl⟩
  have I1 := I.laid (a := s.heap.objs.size) (o := .own (s.heap.objs.size + 1)) (h' := s.heap.push PySem.W.emptyDict) (t' := s.toks) (fun b u q => Heap.get?_push_of_some _ q) (Nat.le_refl _) ⟨_, e1⟩
  refine I1.laid (a := s.heap.objs.size + 1) (o := .ins C s.heap.objs.size []) (t' := s.toks) (fun b u q => Heap.get?_push_of_some _ q) (Nat.le_of_eq (Heap.size_push _ _)) ?_
  have ne : s.heap.objs.size ≠ s.heap.objs.size + 1 := Nat.ne_of_lt (Nat.lt_succ_self _)
  refine ⟨by rw [upd_ne ne, upd_same], Nat.zero_le _, ne, e2, fun _ => none, (Heap.Ns1.of_empty e3).at fun o q => Heap.get?_push_of_some _ q, fun _ => True.intro, fun y hy => absurd rfl hy⟩
end
section
variable {X : Cx} {o e value : Expr} {f : Str} {pos pos' tpos : Pos} {ta tv : TE}
end
section
variable {X : Cx} {pins : List (Addr × Obj)} {σ : St} {H : Hp} {s : Shared} {A : Around} {E : Value → Shared → Prop} {Q : Value → Shared → Prop} {c : Value} {b : Bool}
inductive TyOf (K : PySem.W.Frag) (H : Hp) : V → Value → Prop where
  | non : TyOf K H .non (.type "NoneType")
  | bl (x : Bool) : TyOf K H (.bl x) (.type "bool")
  | int (i : Int) : TyOf K H (.int i) (.type "int")
  | str (x : Str) : TyOf K H (.str x) (.type "str")
  | flt (x : UInt64) : TyOf K H (.flt x) (.type "float")
  | lst {a : Addr} {xs : List V} (e : H a = some (.lst xs)) : TyOf K H (.ref a) (.type "list")
  | frz {a : Addr} {o : Obj} {xs : List V} (e : H a = some (.frz o (.lst xs))) : TyOf K H (.ref a) (.type "list")
  | tup {a : Addr} {xs : List V} (e : H a = some (.tup xs)) : TyOf K H (.ref a) (.type "tuple")
  | dK {a : Addr} {kvs : List (Key × V)} (e : H a = some (.dK kvs)) : TyOf K H (.ref a) (.type "dict")
  | dT {a : Addr} {kvs : List (List Key × V)} (e : H a = some (.dT kvs)) : TyOf K H (.ref a) (.type "dict")
  | ins {a C dx : Addr} {fs : List (Str × V)} (e : H a = some (.ins C dx fs)) (cl : Cls K C) (ha : PySem.W.findIn K (.ref C) "__class__" = some (some (.builtin "object.__class__")))
      (hn : PySem.W.specialIn K (.builtin "object.__class__") "__get__" = some (some (.builtin "getset_descriptor.__get__"))) (htk : PySem.W.takesIn K (.builtin "object.__class__") = some true)
      (hm : PySem.W.mroIn K C (.type "object") = some true) : TyOf K H (.ref a) (.ref C)
theorem isinst_ok {x : V} {u t : Value} (I : Inv X pins σ H s) (rx : RelV x u) (ty : TyOf X.K H x t) (e : PySem.W.kitOne X.K t c = some b) (h : ∀ tk, Q (.bool b) { s with toks := tk }) :
    wpAny (model X.prog X.w) A (call (.builtin "isinstance") [u, c]) Q E s := by
  cases ty with
  | non => cases (show u = Value.none from rx); exact PySem.W.kia_one PySem.W.kitx_none I.kIn True.intro e (fun z => nomatch z) h
  | bl y => cases (show u = Value.bool y from rx); exact PySem.W.kia_one PySem.W.kitx_bool I.kIn True.intro e (fun z => nomatch z) h
  | int i => obtain ⟨t, q⟩ := (show ∃ t, u = Value.int i t from rx); cases q; exact PySem.W.kia_one PySem.W.kitx_int I.kIn True.intro e (fun z => nomatch z) h
  | str y => obtain ⟨t, q⟩ := (show ∃ t, u = Value.str y t from rx); cases q; exact PySem.W.kia_one PySem.W.kitx_str I.kIn True.intro e (fun z => nomatch z) h
  | flt y => obtain ⟨t, q⟩ := (show ∃ t, u = Value.float y t from rx); cases q; exact PySem.W.kia_one PySem.W.kitx_float I.kIn True.intro e (fun z => nomatch z) h
  | @lst a xs ea =>
    cases (show u = Value.ref a from rx)
    obtain ⟨_, _, n, _, h1⟩ := (show ObjOk X.prog X.w H s.heap a (.lst xs) from I.hok a _ ea)
    exact PySem.W.kia_one PySem.W.kitx_list I.kIn ⟨_, h1, rfl⟩ e (fun z => nomatch z) h
  | @frz a ob xs ea =>
    cases (show u = Value.ref a from rx)
    obtain ⟨_, _, _, n, _, h1⟩ := (show ObjOk X.prog X.w H s.heap a (.frz ob (.lst xs)) from I.hok a _ ea)
    exact PySem.W.kia_one PySem.W.kitx_list I.kIn ⟨_, h1, rfl⟩ e (fun z => nomatch z) h
  | @tup a xs ea =>
    cases (show u = Value.ref a from rx)
    obtain ⟨_, _, _, p⟩ := (show ObjOk X.prog X.w H s.heap a (.tup xs) from I.hok a _ ea)
    obtain ⟨o, h1, h2, _⟩ := p
    exact PySem.W.kia_one PySem.W.kitx_tuple I.kIn ⟨o, h1, h2⟩ e (fun z => nomatch z) h
  | @dK a kvs ea =>
    cases (show u = Value.ref a from rx)
    obtain ⟨_, _, vs, _, p⟩ := (show ObjOk X.prog X.w H s.heap a (.dK kvs) from I.hok a _ ea)
    obtain ⟨o, es, ep, h1, h2, _⟩ := p
    exact PySem.W.kia_one PySem.W.kitx_dict I.kIn ⟨o, h1, h2.1⟩ e (fun z => nomatch z) h
  | @dT a kvs ea =>
    cases (show u = Value.ref a from rx)
    obtain ⟨_, _, xs, _, o, es, ep, h1, h2, _⟩ := (show ObjOk X.prog X.w H s.heap a (.dT kvs) from I.hok a _ ea)
    exact PySem.W.kia_one PySem.W.kitx_dict I.kIn ⟨o, h1, h2.1⟩ e (fun z => nomatch z) h
  | @ins a C dx fs ea cl ha hn htk hm =>
    cases (show u = Value.ref a from rx)
    obtain ⟨mA, O, _⟩ := ins_get I.hok ea
    obtain ⟨od, J, _⟩ := O.look
    exact PySem.W.kia_one (PySem.W.kitx_own (cl.get _) cl.hd ha hn htk hm) I.kIn J e (fun z => nomatch z) h
end
end L2
namespace L2
open PySem PySem.Spec PyProof.Rows
structure Room (k : Nat) (A : Around) : Prop where
  hd : A.handled = none
  dp : A.depth + 3 * k + 5 < recursionLimit
  un : A.units + 16 * k + 200 < cLine
theorem Room.mono {j k : Nat} {A : Around} (r : Room k A) (h : j ≤ k) : Room j A := ⟨r.hd, by have := r.dp; omega, by have := r.un; omega⟩
theorem Room.deeper {k : Nat} {A : Around} (r : Room (k + 1) A) (env : Env) : Room k (A.deeper env) :=
  ⟨r.hd, by have := r.dp; show A.depth + 1 + 3 * k + 5 < _; omega, by have := r.un; show A.units + 3 + 16 * k + 200 < _; omega⟩
theorem Room.in1 {k : Nat} {A : Around} (r : Room (k + 1) A) : Room k A.in1 :=
  ⟨r.hd, by have := r.dp; show A.depth + 3 * k + 5 < _; omega, by have := r.un; show A.units + 1 + 16 * k + 200 < _; omega⟩
theorem Room.depth {k : Nat} {A : Around} (r : Room k A) : A.depth < recursionLimit := by have := r.dp; omega
theorem Room.units {k : Nat} {A : Around} (r : Room k A) : A.units + 64 < cLine := by have := r.un; omega
def tNil : TA := fun _ H Q => Q [] H
def tCons (ta : TE) (tr : TA) : TA := fun σ H Q => ta σ H fun x H1 => tr σ H1 fun xs H2 => Q (x :: xs) H2
section
variable {X : Cx} {e : Expr} {es : List Expr} {te : TE} {t : TA} {pos : Pos}
theorem pa_nil : PA X [] tNil := fun _ _ _ _ H Q I h => Calls.spliced_nil ⟨[], H, I, .nil, h⟩
theorem pa_cons (ha : PE X e te) (hr : PA X es t) (hs : starEach (e :: es) X.env = (false, eval e X.env) :: starEach es X.env := by rfl) : PA X (e :: es) (tCons te t) := by
  intro pos pins s σ H Q I h
  rw [hs]
  show wpAny _ _ (spliced ((false, eval e X.env) :: backTo pos (starEach es X.env))) _ _ s
  refine Calls.spliced_cons (thn (ha pins s σ H _ I h) fun u s1 ⟨x, H1, I1, r1, q1⟩ => ?_)
  exact thn (hr pos pins s1 σ H1 _ I1 q1) fun us s2 ⟨xs, H2, I2, r2, q2⟩ => ⟨x :: xs, H2, I2, .cons r1 r2, q2⟩
def tTup (t : TA) : TE := fun σ H Q => t σ H fun xs H1 => xs.length ≤ sizeLine ∧ ∀ p, H1 p = none → Q (.ref p) (upd H1 p (.tup xs))
def tLst (t : TA) : TE := fun σ H Q => t σ H fun xs H1 => xs.length ≤ sizeLine ∧ ∀ p, H1 p = none → Q (.ref p) (upd H1 p (.lst xs))
theorem pe_tup {x1} (h : PA X es t) : PE X (.Tuple es x1 pos) (tTup t) := by
  intro pins s σ H Q I hq
  refine wpAny_Tuple_spliced (thn (h pos pins s σ H _ I hq) fun us s1 ⟨xs, H1, I1, r, z, q⟩ => ⟨by rw [← r.length]; exact z, ?_⟩)
  have hf : H1 s1.heap.objs.size = none := I1.hok.fresh (Nat.le_refl _)
  refine ⟨.ref s1.heap.objs.size, upd H1 s1.heap.objs.size (.tup xs), I1.laid (t' := s1.toks) (fun b u e => Heap.get?_push_of_some _ e) (Nat.le_refl _) ?_, rfl, q _ hf⟩
  exact ⟨z, us, r, ⟨_, Heap.get?_push_size _ rfl, rfl, _, rfl⟩⟩
theorem pe_lst (h : PA X es t) : PE X (.List es pos) (tLst t) := by
  intro pins s σ H Q I hq
  refine wpAny_List_spliced (thn (h pos pins s σ H _ I hq) fun us s1 ⟨xs, H1, I1, r, z, q⟩ => ⟨by rw [← r.length]; exact z, ?_⟩)
  have hf : H1 s1.heap.objs.size = none := I1.hok.fresh (Nat.le_refl _)
  refine ⟨.ref s1.heap.objs.size, upd H1 s1.heap.objs.size (.lst xs), I1.laid (t' := s1.toks) (fun b u e => Heap.get?_push_of_some _ e) (Nat.le_refl _) ?_, rfl, q _ hf⟩
  exact ⟨z, us, 0, r, Heap.get?_push_size _ rfl⟩
end
abbrev Sp := List V → Hp → VK → XK → Prop
abbrev CXT := List Env → Hp → Shared → XK → Value → Shared → Prop
structure Env0 (P : Program) (w : World) (K : PySem.W.Frag) (mg : Str → Option Value) (base : Heap) (A : Around) (outer : List Env) (s : Shared) (H : Hp) : Prop where
  frames : A.frames = some outer
  mod : Mod K mg base
  bs : ∀ b o, base.get? b = some o → s.heap.get? b = some o ∧ H b = none
  bsz : base.objs.size ≤ s.heap.objs.size
  funs : s.heap.FunFrames base outer
  frf : ∀ b ∈ frs outer, H b = none
  hok : HOk P w H s.heap
  bare : AllBare s.gens
def CE (outer : List Env) (P : Program) (w : World) (H : Hp) (s : Shared) (Q : VK) (u : Value) (s' : Shared) : Prop :=
  ∃ v H', s'.os = s.os ∧ AllBare s'.gens ∧ Un (frs outer) [] H H' s.heap s'.heap ∧ HOk P w H' s'.heap ∧ RelV v u ∧ Q v H'
def CR (CX : CXT) (outer : List Env) (P : Program) (w : World) (H : Hp) (s : Shared) (Q : VK) (E : XK) (r : Result) (s' : Shared) : Prop :=
  match r with
  | .ok (.ret u) => CE outer P w H s Q u s'
  | .ok _ => False
  | .error e => CX outer H s E e s'
structure FnOk (P : Program) (w : World) (K : PySem.W.Frag) (mg : Str → Option Value) (base : Heap) (CX : CXT) (k : Nat) (f : Addr) (fd : FuncData) (ps : List Str) (sp : Sp) : Prop where
  len : ∀ vs H Q E, sp vs H Q E → vs.length = ps.length
  run : ∀ (A : Around) (outer : List Env) (s : Shared) (H : Hp) (args : Args) (us : List Value) (vs : List V) (Q : VK) (E : XK), Room k A → Env0 P w K mg base A outer s H → BindsTo s fd args (ps.zip us) → Vals vs us → sp vs H Q E →
    codeAny (model P w) A (.call (.ref f) args) (CR CX outer P w H s Q E) s
theorem FnOk.mono {P : Program} {w : World} {K : PySem.W.Frag} {mg : Str → Option Value} {base : Heap} {CX : CXT} {j k : Nat} {f : Addr} {fd : FuncData} {ps : List Str} {sp : Sp} (F : FnOk P w K mg base CX j f fd ps sp) (h : j ≤ k) :
    FnOk P w K mg base CX k f fd ps sp := ⟨F.len, fun A outer s H args us vs Q E hr => F.run A outer s H args us vs Q E (hr.mono h)⟩
theorem FnOk.imp {P : Program} {w : World} {K : PySem.W.Frag} {mg : Str → Option Value} {base : Heap} {CX : CXT} {k : Nat} {f : Addr} {fd : FuncData} {ps : List Str} {sp sp' : Sp} (F : FnOk P w K mg base CX k f fd ps sp)
    (h : ∀ vs H Q E, sp' vs H Q E → sp vs H Q E) : FnOk P w K mg base CX k f fd ps sp' :=
  ⟨fun vs H Q E q => F.len vs H Q E (h _ _ _ _ q), fun A outer s H args us vs Q E hr he hb hv hs => F.run A outer s H args us vs Q E hr he hb hv (h _ _ _ _ hs)⟩
theorem Env0.in1 {P : Program} {w : World} {K : PySem.W.Frag} {mg : Str → Option Value} {base : Heap} {A : Around} {outer : List Env} {s : Shared} {H : Hp} (e : Env0 P w K mg base A outer s H) :
    Env0 P w K mg base A.in1 outer s H := ⟨e.frames, e.mod, e.bs, e.bsz, e.funs, e.frf, e.hok, e.bare⟩
section
variable {X : Cx} {pins : List (Addr × Obj)} {σ : St} {H : Hp} {s s' : Shared}
theorem Inv.env0 (I : Inv X pins σ H s) : Env0 X.prog X.w X.K X.mg X.base X.A X.stack s H :=
  ⟨I.ok.frames, I.ok.mod, I.bs, Nat.le_trans I.ok.bsz I.sz, I.stack, I.stkFree, I.hok, I.bare⟩
theorem Inv.after {Q : VK} {u : Value} (I : Inv X pins σ H s) (h : CE X.stack X.prog X.w H s Q u s') : EP X pins σ Q u s' := by
  obtain ⟨v, H', os, bare, un, hok, r, q⟩ := h
  obtain ⟨hh, g, d, t, os'⟩ := s'
  obtain rfl : os' = s.os := os
  exact ⟨v, H', I.call (h' := hh) (g' := g) (d' := d) (t' := t) (ch := []) un hok bare (fun b z => absurd z (by simp)), r, q⟩
end
def tCall (sp : Sp) (dvs : List V) (E : XK) (t : TA) : TE := fun σ H Q => t σ H fun vs H1 => sp (vs ++ dvs) H1 Q E
def Binds (K : PySem.W.Frag) (fd : FuncData) (ps : List Str) (ds : List Value) : Prop :=
  ∀ (s : Shared) (us : List Value), K.In s.heap → (us ++ ds).length = ps.length → BindsTo s fd ⟨us, []⟩ (ps.zip (us ++ ds))
theorem Binds.all {K : PySem.W.Frag} {fd : FuncData} {ps : List Str} (h : ∀ us : List Value, us.length = ps.length → bindArgs fd ⟨us, []⟩ = pure (ps.zip us)) : Binds K fd ps [] := fun s us _ hl => by
  rw [List.append_nil] at hl ⊢
  exact .of_eq (h us hl)
def Passes (CX : CXT) (X : Cx) (E : XK) : Prop := ∀ (pins : List (Addr × Obj)) (σ : St) (H : Hp) (s : Shared) (e : Value) (s' : Shared), Inv X pins σ H s → CX X.stack H s E e s' → X.xe e s'
section
variable {X : Cx} {CX : CXT} {k : Nat} {f C : Addr} {fd : FuncData} {ps : List Str} {sp : Sp} {dvs : List V} {ds : List Value} {E : XK} {x m : Str} {p pos apos : Pos} {e o : Expr} {es : List Expr} {ta : TE} {t : TA}
theorem run_fn {pins : List (Addr × Obj)} {σ : St} {H : Hp} {s : Shared} {Q : VK} {us : List Value} {vs : List V} (F : FnOk X.prog X.w X.K X.mg X.base CX k f fd ps sp) (hr : Room k X.A) (hb : Binds X.K fd ps ds) (hd : Vals dvs ds) (hx : Passes CX X E)
    (I : Inv X pins σ H s) (r : Vals vs us) (h : sp (vs ++ dvs) H Q E) : wpAny (model X.prog X.w) X.A (call (.ref f) us) (EP X pins σ Q) X.xe s := by
  have r2 : Vals (vs ++ dvs) (us ++ ds) := r.append hd
  have hl : (us ++ ds).length = ps.length := by rw [← r2.length]; exact F.len _ _ _ _ h
  refine wpAny_call (codeAny_mono (F.run X.A X.stack s H ⟨us, []⟩ (us ++ ds) (vs ++ dvs) Q E hr I.env0 (hb s us I.kIn hl) r2 h) fun r s' hq => ?_)
  cases r with
  | error e => exact hx pins σ H s e s' I hq
  | ok fl =>
    cases fl with
    | ret u => exact I.after hq
    | next => exact False.elim hq
    | brk => exact False.elim hq
    | cont => exact False.elim hq
theorem pe_call (F : FnOk X.prog X.w X.K X.mg X.base CX k f fd ps sp) (hr : Room k X.A) (hg : Gl X x) (hm : X.mg x = some (.ref f)) (hk : PySem.W.keepIn X.K (.ref f) = true) (hb : Binds X.K fd ps ds) (hd : Vals dvs ds) (hx : Passes CX X E)
    (ha : PA X (e :: es) t) (hdb : (x == ("__debug__" : Str)) = false := by decide) (he : starEach (e :: es) X.env = (false, eval e X.env) :: starEach es X.env := by rfl) (hpl : (backTo pos (starEach es X.env)).any (·.1) = false := by rfl) :
    PE X (.Call (.Name x p) (e :: es) [] pos) (tCall sp dvs E t) := by
  intro pins s σ H Q I h
  refine wpAny_Call_Name_kw (ld_glob I hg hm ?_ hdb)
  refine PySem.W.callWith_K (h₀ := X.base) I.ok.mod.kin hk (thn (ha pos pins s σ H _ I h) fun us s1 ⟨vs, H1, I1, r, q⟩ => ⟨I1.kIn, ?_⟩) he hpl
  exact run_fn F hr hb hd hx I1 r q
structure Mk (K : PySem.W.Frag) (C f : Addr) : Prop where
  makes : PySem.W.makesIn K C = true
  init : PySem.W.findIn K (.ref C) "__init__" = some (some (.ref f))
  fn : PySem.W.isFn K (.ref f) = true
  kp : PySem.W.keepIn K (.ref C) = true
end
def PK (X : Cx) (kws : List Keyword) (t : TA) : Prop :=
  ∀ (pos : Pos) (pins : List (Addr × Obj)) (s : Shared) (σ : St) (H : Hp) (Q : List V → Hp → Prop), Inv X pins σ H s → t σ H Q → wpAny (model X.prog X.w) X.A (evalAll ((backToKw pos (keywordEach kws X.env)).map (·.2))) (AP X pins σ Q) X.xe s
section
variable {X : Cx} {CX : CXT} {k : Nat} {f C : Addr} {fd : FuncData} {ps ks : List Str} {sp : Sp} {E : XK} {x m : Str} {p pos apos kpos : Pos} {e o : Expr} {es : List Expr} {kws : List Keyword} {te ta : TE} {t tk : TA} {nm : Option Str}
theorem pk_nil : PK X [] tNil := fun _ _ _ _ H Q I h => wpAny_evalAll_nil ⟨[], H, I, .nil, h⟩
theorem pk_cons (ha : PE X e te) (hr : PK X kws t) : PK X (⟨nm, e, kpos⟩ :: kws) (tCons te t) := by
  intro pos pins s σ H Q I h
  show wpAny _ _ (evalAll ((do let v ← eval e X.env; standAt pos; pure v) :: (backToKw pos (keywordEach kws X.env)).map (·.2))) _ _ s
  refine wpAny_evalAll_cons (wpAny_bind (thn (ha pins s σ H _ I h) fun u s1 ⟨x, H1, I1, r1, q1⟩ => wpAny_bind (wpAny_standAt (wpAny_pure ?_))))
  exact thn (hr pos pins s1 σ H1 _ I1 q1) fun us s2 ⟨xs, H2, I2, r2, q2⟩ => ⟨x :: xs, H2, I2, .cons r1 r2, q2⟩
structure KBinds (K : PySem.W.Frag) (fd : FuncData) (ps ks : List Str) (g : List Value → List Value → List Value) (gV : List V → List V → List V) : Prop where
  to : ∀ (s : Shared) (us ws : List Value), K.In s.heap → (g us ws).length = ps.length → BindsTo s fd ⟨us, ks.zip ws⟩ (ps.zip (g us ws))
  rel : ∀ {vs : List V} {us : List Value} {zs : List V} {ws : List Value}, Vals vs us → Vals zs ws → Vals (gV vs zs) (g us ws)
variable {g : List Value → List Value → List Value} {gV : List V → List V → List V}
end
structure FnScope (N P : List Str) (sc : Scope) : Prop where
  kind : sc.kind = .function
  co : sc.isCoroutine = false
  gen : sc.isGenerator = false
  nd : N.Nodup
  pre : N.take P.length = P
  par : ∀ x ∈ P, sc.names.lookup x = some .local ∨ sc.names.lookup x = some .cell
  nofree : ∀ y ∈ sc.names, y.2 ≠ .free
theorem bindL_out {kindOf : Str → Option NameKind} {x : Str} : ∀ {binds : List (Str × Value)} {m : Str → Option Value}, (∀ v, (x, v) ∉ binds) → bindL kindOf binds m x = m x
  | [], _, _ => rfl
  | (n, v) :: r, m, h => by
    unfold bindL
    rw [bindL_out fun w hw => h w (List.mem_cons_of_mem _ hw)]
    split
    · have : x ≠ n := by rintro rfl; exact h v List.mem_cons_self
      simp [this]
    · rfl
theorem bindC_out {kindOf : Str → Option NameKind} {x : Str} : ∀ {binds : List (Str × Value)} {m : Str → Option Value}, (∀ v, (x, v) ∉ binds) → bindC kindOf binds m x = m x
  | [], _, _ => rfl
  | (n, v) :: r, m, h => by
    unfold bindC
    rw [bindC_out fun w hw => h w (List.mem_cons_of_mem _ hw)]
    split
    · rfl
    · have : x ≠ n := by rintro rfl; exact h v List.mem_cons_self
      simp [this]
theorem bindL_get {kindOf : Str → Option NameKind} {x : Str} {v : Value} : ∀ {P : List Str} {vs : List Value} {i : Nat} {m : Str → Option Value}, P.Nodup → P[i]? = some x → vs[i]? = some v → kindOf x = some .local →
    bindL kindOf (P.zip vs) m x = some v
  | [], _, _, _, _, h, _, _ => by simp at h
  | _ :: _, [], _, _, _, _, h, _ => by simp at h
  | p :: P, w :: vs, 0, m, nd, h1, h2, hk => by
    simp at h1 h2; subst h1; subst h2
    show bindL kindOf ((p, w) :: P.zip vs) m p = _
    unfold bindL
    rw [bindL_out fun v hv => (List.nodup_cons.mp nd).1 (List.of_mem_zip hv).1, if_pos hk]
    simp
  | p :: P, w :: vs, i + 1, m, nd, h1, h2, hk => by
    show bindL kindOf ((p, w) :: P.zip vs) m x = _
    unfold bindL
    exact bindL_get (i := i) (List.nodup_cons.mp nd).2 (by simpa using h1) (by simpa using h2) hk
theorem bindC_get {kindOf : Str → Option NameKind} {x : Str} {v : Value} : ∀ {P : List Str} {vs : List Value} {i : Nat} {m : Str → Option Value}, P.Nodup → P[i]? = some x → vs[i]? = some v → kindOf x ≠ some .local →
    bindC kindOf (P.zip vs) m x = some v
  | [], _, _, _, _, h, _, _ => by simp at h
  | _ :: _, [], _, _, _, _, h, _ => by simp at h
  | p :: P, w :: vs, 0, m, nd, h1, h2, hk => by
    simp at h1 h2; subst h1; subst h2
    show bindC kindOf ((p, w) :: P.zip vs) m p = _
    unfold bindC
    rw [bindC_out fun v hv => (List.nodup_cons.mp nd).1 (List.of_mem_zip hv).1, if_neg hk]
    simp
  | p :: P, w :: vs, i + 1, m, nd, h1, h2, hk => by
    show bindC kindOf ((p, w) :: P.zip vs) m x = _
    unfold bindC
    exact bindC_get (i := i) (List.nodup_cons.mp nd).2 (by simpa using h1) (by simpa using h2) hk
def start (N : List Str) (vs : List V) : St := vs.map some ++ List.replicate (N.length - vs.length) none
def cxOf (CX : CXT) (P : Program) (w : World) (K : PySem.W.Frag) (mg : Str → Option Value) (base : Heap) (N : List Str) (qual : Str) (scope : Scope) (f : Addr) (cd : Value) (A : Around) (outer : List Env) (s : Shared) (H : Hp) (E : XK) : Cx where
  prog := P
  w := w
  K := K
  mg := mg
  base := base
  A := A.deeper (envOfC qual scope s.heap.objs.size f cd)
  N := N
  s₀ := s
  H₀ := H
  env := envOfC qual scope s.heap.objs.size f cd
  outer := outer
  stack := envOfC qual scope s.heap.objs.size f cd :: outer
  ex := []
  calm := true
  fn := fun _ => true
  pn := []
  xe := fun e s' => wpAny (model P w) (A.deeper (envOfC qual scope s.heap.objs.size f cd)) (leaving (envOfC qual scope s.heap.objs.size f cd) e) (fun _ s'' => CX outer H s E e s'') (fun e' s'' => CX outer H s E e' s'') s'
theorem cell_has {sc : Scope} {n : Nat} {x : Str} (h : sc.names.lookup x = some .cell) : ∃ c, (cellsFrom n sc.names []).lookup x = some c := by
  have q := PySem.W.cellsFrom_some sc.names n [] (.inl h)
  exact Option.isSome_iff_exists.mp q
theorem inv_start {CX : CXT} {P : Program} {w : World} {K : PySem.W.Frag} {mg : Str → Option Value} {base : Heap} {N ps : List Str} {qual : Str} {scope : Scope} {f : Addr} {cd : Value} {A : Around} {outer : List Env} {s s1 : Shared} {H : Hp} {E : XK} {us : List Value} {vs : List V}
    (S : FnScope N ps scope) (hd : A.handled = none) (e0 : Env0 P w K mg base A outer s H) (hl : vs.length = ps.length) (r : Vals vs us)
    (x : InCallC s s.heap.objs.size (bindL (envOfC qual scope s.heap.objs.size f cd).kindOf (ps.zip us) fun _ => none) (cellsFrom (s.heap.objs.size + 1) scope.names []) (bindC (envOfC qual scope s.heap.objs.size f cd).kindOf (ps.zip us) fun _ => none) s1) :
    Inv (cxOf CX P w K mg base N qual scope f cd A outer s H E) [] (start N vs) H s1 := by
  have hpl : ps.length ≤ N.length := by have := congrArg List.length S.pre; rw [List.length_take] at this; omega
  obtain ⟨h1, tk, rfl, hk⟩ := x.done
  have noA : ∀ b : Addr, b ∉ (cxOf CX P w K mg base N qual scope f cd A outer s H E).ex := fun b z => absurd (show b ∈ ([] : List Addr) from z) (by simp)
  refine ⟨⟨e0.mod, S.kind, rfl, rfl, Nat.le_refl _, fun y z c h1 h2 => ?_, fun y hy => ?_, fun y c _ h => ?_, fun _ => hd, Around.frames_deeper e0.frames, .inr ⟨rfl, rfl⟩, fun b z => absurd z (noA b), e0.bs, e0.bsz, fun b _ _ => noA b, fun b z => absurd z (noA b), e0.funs, e0.frf⟩,
    rfl, e0.bare, Un.kept hk, ⟨_, x.toInCall.ns, fun i y v h1 h2 h3 => ?_⟩, fun y c h => ⟨_, x.cell y c h⟩, e0.hok.fresh (Nat.le_refl _), fun y c h => ?_, fun p hp => absurd (show p ∈ ([] : List (Addr × Obj)) from hp) (by simp), e0.hok.kept hk, ?_⟩
  · exact name_of_addr x.apart (PySem.mem_of_lookup h1) (PySem.mem_of_lookup h2)
  · have hy : scope.names.lookup y = some .cell ∨ scope.names.lookup y = some .free := hy
    rcases hy with hy | hy
    · exact cell_has hy
    · exact absurd rfl (S.nofree _ (PySem.mem_of_lookup hy))
  · exact Nat.le_of_lt (x.above y c (PySem.mem_of_lookup h))
  · have hi : i < vs.length := by
      unfold start at h2
      by_cases hi : i < vs.length
      · exact hi
      · rw [List.getElem?_append_right (by simpa using hi)] at h2
        rw [List.getElem?_replicate] at h2
        split at h2 <;> cases h2
    have ha : vs[i]? = some v := by
      unfold start at h2
      rw [List.getElem?_append_left (by simpa using hi), List.getElem?_map] at h2
      cases e : vs[i]? with
      | none => rw [e] at h2; cases h2
      | some a => rw [e] at h2; cases h2; rfl
    obtain ⟨u, hu, rv⟩ := r.get ha
    have hp : ps[i]? = some y := by
      rw [← S.pre, List.getElem?_take_of_lt (by omega)]; exact h1
    have ndP : ps.Nodup := by rw [← S.pre]; exact S.nd.sublist (List.take_sublist _ _)
    refine ⟨u, rv, ?_⟩
    rcases S.par y (List.mem_of_getElem? hp) with k | k
    · exact .inl ⟨k, bindL_get ndP hp hu k⟩
    · obtain ⟨c, e⟩ := cell_has (n := s.heap.objs.size + 1) k
      refine .inr ⟨.inl k, c, e, ?_⟩
      have q := x.cell y c e
      rw [bindC_get ndP hp hu (by show scope.names.lookup y ≠ _; rw [k]; decide)] at q
      exact q
  · exact e0.hok.fresh (Nat.le_of_lt (x.above y c (PySem.mem_of_lookup h)))
  · unfold start
    show _ = N.length
    rw [List.length_append, List.length_map, List.length_replicate]
    omega
theorem fn_of {CX : CXT} {P : Program} {w : World} {K : PySem.W.Frag} {mg : Str → Option Value} {base : Heap} {k : Nat} {f : Addr} {name qual : Str} {params : Arguments} {body : List Stmt} {scope : Scope} {dV kV doc pm cdv ct oc : Value} {an od : Option Addr}
    {osl : Array (Option Value)} {N ps : List Str} {sp : Sp} (lk : K.lookup f = some ⟨oc, od, .func (PySem.W.fnOf name qual params body scope dV kV doc pm an cdv ct), osl⟩) (hcd : PySem.W.codeIn K cdv qual = true) (S : FnScope N ps scope)
    (len : ∀ vs H Q E, sp vs H Q E → vs.length = ps.length)
    (hbody : ∀ (A : Around) (outer : List Env) (s : Shared) (H : Hp) (vs : List V) (Q : VK) (E : XK), Room k (A.deeper (envOfC qual scope s.heap.objs.size f cdv)) → sp vs H Q E →
      ∃ t, PSs (cxOf CX P w K mg base N qual scope f cdv A outer s H E) body t ∧ t { nx := fun _ H' => Q .non H', rt := Q } (start N vs) H) :
    FnOk P w K mg base CX (k + 1) f (PySem.W.fnOf name qual params body scope dV kV doc pm an cdv ct) ps sp := by
  refine ⟨len, fun A outer s H args us vs Q E hr e0 hb r hsp => ?_⟩
  have hl := len _ _ _ _ hsp
  have KX : K.In s.heap := e0.mod.kin.keeps fun b o e => (e0.bs b o e).1
  have lim : s.heap.NoLimit := e0.mod.nolimit.keeps fun b o e => (e0.bs b o e).1
  have hkind : ∀ y ∈ ps.zip us, scope.names.lookup y.1 = some .local ∨ (scope.names.lookup y.1 = some .cell ∧ ((cellsFrom (s.heap.objs.size + 1) scope.names []).lookup y.1).isSome = true) := fun ⟨n, v⟩ hy => by
    rcases S.par n (List.of_mem_zip hy).1 with q | q
    · exact .inl q
    · exact .inr ⟨q, PySem.W.cellsFrom_some _ _ _ (.inl q)⟩
  refine codeAny_call_function hr.depth (KX _ _ lk) rfl S.co S.gen rfl (PySem.W.codeRec_of KX hcd) (hb _ _ _ _ ?_)
  refine wpAny_newFunctionEnv_cells S.kind hkind fun env he s1 x => ?_
  subst he
  refine ⟨lim.keeps x.toInCall.keep, codeAny_func ?_⟩
  obtain ⟨t, ht, hq⟩ := hbody A outer s H vs Q E (hr.deeper _) hsp
  have I : Inv (cxOf CX P w K mg base N qual scope f cdv A outer s H E) [] (start N vs) H s1 := inv_start S hr.hd e0 hl r x
  refine wpAny_mono (ht [] s1 (start N vs) H _ I hq) (fun fl s' hs => ?_) fun e s' hs => hs
  have fin : ∀ {σ' : St} {H' : Hp} {v : V} {u : Value}, Inv (cxOf CX P w K mg base N qual scope f cdv A outer s H E) [] σ' H' s' → RelV v u → Q v H' → CE outer P w H s Q u s' :=
    fun {σ' H' v u} J rv q => ⟨v, H', J.os, J.bare, J.base, J.hok, rv, q⟩
  cases fl with
  | ret u =>
    obtain ⟨v, σ', H', J, rv, q⟩ := hs
    exact fin J rv q
  | next =>
    obtain ⟨σ', H', J, q⟩ := hs
    exact fin (v := V.non) (u := Value.none) J rfl q
  | brk =>
    obtain ⟨_, _, _, q⟩ := hs
    exact False.elim q
  | cont =>
    obtain ⟨_, _, _, q⟩ := hs
    exact False.elim q
end L2
namespace L2
open PySem PySem.Spec PyProof.Rows
section
variable {X : Cx} {x : Str} {p pos : Pos} {e : Expr} {es : List Expr} {t : TA} {id T : String} {r : List V → Hp → VK → Prop}
def tCB (r : List V → Hp → VK → Prop) (t : TA) : TE := fun σ H Q => t σ H fun vs H1 => r vs H1 Q
theorem pe_callB (hc : CallR X (.builtin id) r) (hg : Gl X x) (hm : X.mg x = none) (hv : bootBuiltins x = some (.builtin id)) (ha : PA X (e :: es) t) (hn : x ≠ "__name__" := by decide) (hdb : (x == ("__debug__" : Str)) = false := by decide)
    (he : starEach (e :: es) X.env = (false, eval e X.env) :: starEach es X.env := by rfl) (hpl : (backTo pos (starEach es X.env)).any (·.1) = false := by rfl) : PE X (.Call (.Name x p) (e :: es) [] pos) (tCB r t) := by
  intro pins s σ H Q I h
  refine wpAny_Call_Name_kw (ld_blt I hg hm hv ?_ hn hdb)
  exact PyProof.Rows.callWith_builtin1 (thn (ha pos pins s σ H _ I h) fun us s1 ⟨vs, H1, I1, r1, q1⟩ => hc pins s1 σ H1 vs us Q I1 r1 q1) he hpl
theorem pe_callTy (hc : CallR X (.type T) r) (hg : Gl X x) (hm : X.mg x = none) (hv : bootBuiltins x = some (.type T)) (ha : PA X (e :: es) t) (hn : x ≠ "__name__" := by decide) (hdb : (x == ("__debug__" : Str)) = false := by decide)
    (he : starEach (e :: es) X.env = (false, eval e X.env) :: starEach es X.env := by rfl) (hpl : (backTo pos (starEach es X.env)).any (·.1) = false := by rfl) : PE X (.Call (.Name x p) (e :: es) [] pos) (tCB r t) := by
  intro pins s σ H Q I h
  refine wpAny_Call_Name_kw (ld_blt I hg hm hv ?_ hn hdb)
  exact PyProof.Rows.callWith_type1 (thn (ha pos pins s σ H _ I h) fun us s1 ⟨vs, H1, I1, r1, q1⟩ => hc pins s1 σ H1 vs us Q I1 r1 q1) he hpl
end
end L2
namespace HT
open PySem PyProof.Rows
section
open PySem.SeqAt
open PySem.AutoSeq1 (wpAny_loadPart')
open PySem.MeetsSeq PySem.MeetsSeq2 PySem.MeetsSeq3
end
section
variable {prog : Program} {w : World} {A : Around} {E : Value → Shared → Prop} {s : Shared}
theorem cat_tup {t b : Addr} {vs ws : List Value} {Q : Value → Shared → Prop} (ht : IsTup s.heap t vs.toArray) (hb : IsTup s.heap b ws.toArray) (hv : vs ≠ [])
    (h1 : ws = [] → Q (.ref t) s) (h2 : ws ≠ [] → Q (.ref s.heap.objs.size) { s with heap := s.heap.push { cls := .type "tuple", data := .seq (vs ++ ws).toArray } })
    (hsz : vs.length + ws.length ≤ sizeLine) : wpAny (model prog w) A (binaryOp .Add (.ref t) (.ref b)) Q E s := by
  obtain ⟨⟨cls, dd, data, sl⟩, ho, hc, n, hd⟩ := id ht
  obtain ⟨⟨cls2, dd2, data2, sl2⟩, ho2, hc2, n2, hd2⟩ := id hb
  simp only at hc hd hc2 hd2
  subst hc hd hc2 hd2
  have e : vs.toArray ++ ws.toArray = (vs ++ ws).toArray := by simp
  by_cases hw : ws = []
  · exact concat_meets ⟨_, ho, rfl⟩ ⟨_, ho2, rfl⟩ noFill_tuple_add seq_tuple_add PySem.F.slot_tuple_add PySem.F.entry_tuple_add (PySem.F.args_tuple_add_2 _ _)
      (tuple_addW1 t b vs.toArray ws.toArray n n2 dd dd2 sl sl2 (by simpa using hv) (by simp [hw])) ⟨ho, ho2, h1 hw⟩
  · refine concat_meets ⟨_, ho, rfl⟩ ⟨_, ho2, rfl⟩ noFill_tuple_add seq_tuple_add PySem.F.slot_tuple_add PySem.F.entry_tuple_add (PySem.F.args_tuple_add_2 _ _)
      (tuple_addW2 t b vs.toArray ws.toArray n n2 dd dd2 sl sl2 (by simpa using hv) (by simpa using hw) (by rw [List.size_toArray, List.size_toArray]; exact hsz)) ⟨ho, ho2, ?_⟩
    rw [e]
    exact h2 hw
def sIx (n d : Nat) : Option Int → Nat
  | none => d
  | some v => if v < 0 then (v + (n : Int)).toNat else min v.toNat n
end
end HT
namespace L2
open PySem PySem.Spec PyProof.Rows
abbrev TO := St → Hp → (Option Int → Hp → Prop) → Prop
def PO (X : Cx) (e : Option Expr) (t : TO) : Prop :=
  ∀ (pins : List (Addr × Obj)) (s : Shared) (σ : St) (H : Hp) (Q : Option Int → Hp → Prop), Inv X pins σ H s → t σ H Q →
    wpAny (model X.prog X.w) X.A (evalPart e X.env) (fun u s' => ∃ o H', Inv X pins σ H' s' ∧ IsPart u o ∧ Q o H') X.xe s
def tNoPart : TO := fun _ H Q => Q none H
def tPart (t : TE) : TO := fun σ H Q => t σ H fun x H1 => ∃ i, x = .int i ∧ Q (some i) H1
section
variable {X : Cx} {e : Expr} {te : TE} {lo hi : Option Expr} {tl th : TO} {pos p2 : Pos}
theorem po_none : PO X none tNoPart := by
  intro pins s σ H Q I h
  rw [evalPart_none]
  exact wpAny_pure ⟨none, H, I, .none, h⟩
theorem po_some (h : PE X e te) : PO X (some e) (tPart te) := by
  intro pins s σ H Q I hw
  rw [evalPart_some]
  refine thn (h pins s σ H _ I hw) fun u s1 ⟨x, H1, I1, r1, q1⟩ => ?_
  obtain ⟨i, rfl, q⟩ := q1
  obtain ⟨t, rfl⟩ := r1
  exact ⟨some i, H1, I1, .int i t, q⟩
def SlR (X : Cx) (r : V → Option Int → Option Int → Hp → VK → Prop) : Prop :=
  ∀ (pins : List (Addr × Obj)) (s : Shared) (σ : St) (H : Hp) (x : V) (v vl vu : Value) (lo hi : Option Int) (sl : Addr) (Q : VK), Inv X pins σ H s → RelV x v → s.heap.IsSliceOf sl vl vu .none → IsPart vl lo → IsPart vu hi → r x lo hi H Q →
    ∃ T id, typeLookup (.type T) "__getitem__" = pure (some (.builtin id)) ∧ s.TypeIs v T ∧ wpAny (model X.prog X.w) X.A (getItem v (.ref sl)) (EP X pins σ Q) X.xe s
def tSl (r : V → Option Int → Option Int → Hp → VK → Prop) (te : TE) (tl th : TO) : TE := fun σ H Q => te σ H fun x H1 => tl σ H1 fun l H2 => th σ H2 fun u H3 => r x l u H3 Q
theorem pe_slice {r : V → Option Int → Option Int → Hp → VK → Prop} (hr : SlR X r) (he : PE X e te) (hl : PO X lo tl) (hu : PO X hi th) : PE X (.Subscript e (.Slice lo hi none p2) pos) (tSl r te tl th) := by
  intro pins s σ H Q I h
  refine Subscript_ (thn (he pins s σ H _ I h) fun v s1 ⟨x, H1, I1, r1, q1⟩ => ?_)
  refine wpAny_Slice (thn (hl pins s1 σ H1 _ I1 q1) fun vl s2 ⟨l, H2, I2, pl, q2⟩ => thn (hu pins s2 σ H2 _ I2 q2) fun vu s3 ⟨u, H3, I3, pu, q3⟩ => ?_)
  rw [evalPart_none]
  refine wpAny_pure ?_
  have I4 : Inv X pins σ H3 { s3 with heap := s3.heap.push { cls := .type "slice", data := .fields #[vl, vu, .none] } } := I3.kept (t' := s3.toks) fun b ob q => Heap.get?_push_of_some _ q
  obtain ⟨T, id, hT, ht, hg⟩ := hr pins { s3 with heap := s3.heap.push { cls := .type "slice", data := .fields #[vl, vu, .none] } } σ H3 x v vl vu l u s3.heap.objs.size Q I4 r1 (Heap.IsSliceOf.new ..) pl pu q3
  show wpAny (model X.prog X.w) X.A (subscriptTail e (.Slice lo hi none p2) v (.ref s3.heap.objs.size)) (EP X pins σ Q) X.xe { s3 with heap := s3.heap.push { cls := .type "slice", data := .fields #[vl, vu, .none] } }
  exact tail_any (ops := [.ref s3.heap.objs.size, v]) ht hT hg (by with_unfolding_all rfl)
def cutV (xs : List V) (lo hi : Option Int) : List V := (xs.drop (HT.sIx xs.length 0 lo)).take (HT.sIx xs.length xs.length hi - HT.sIx xs.length 0 lo)
theorem cutV_length (xs : List V) (lo hi : Option Int) : (cutV xs lo hi).length ≤ xs.length := by
  unfold cutV
  rw [List.length_take, List.length_drop]
  omega
def rCatT (K : PySem.W.Frag) : R2 := fun x y H Q => ∃ a b xs ys, x = .ref a ∧ y = .ref b ∧ SqT K H a xs ∧ SqT K H b ys ∧ xs ≠ [] ∧ xs.length + ys.length ≤ sizeLine ∧
  (ys = [] → Q (.ref a) H) ∧ (ys ≠ [] → ∀ p, H p = none → Q (.ref p) (upd H p (.tup (xs ++ ys))))
theorem Vals.nil_iff {xs : List V} {us : List Value} (r : Vals xs us) : us = [] ↔ xs = [] := by
  cases r with
  | nil => simp
  | cons _ _ => simp
theorem op_catT : OpR X (binaryOp .Add) (rCatT X.K) := by
  intro pins s σ H x y v u Q I rx ry h
  obtain ⟨a, b, xs, ys, rfl, rfl, ha, hb, hx, hz, q1, q2⟩ := h
  cases rx
  cases ry
  obtain ⟨its, r1, p1, _⟩ := I.tuple ha
  obtain ⟨its2, r2, p2, _⟩ := I.tuple hb
  refine HT.cat_tup p1 p2 (fun z => hx (r1.nil_iff.mp z)) (fun z => ⟨.ref a, H, I, rfl, q1 (r2.nil_iff.mp z)⟩) (fun z => ?_) (by rw [← r1.length, ← r2.length]; exact hz)
  refine ⟨.ref s.heap.objs.size, _, I.laid (t' := s.toks) (o := .tup (xs ++ ys)) (fun b ob q => Heap.get?_push_of_some _ q) (Nat.le_refl _) ?_, rfl, q2 (fun w => z (r2.nil_iff.mpr w)) _ (I.hok.fresh (Nat.le_refl _))⟩
  exact ⟨by rw [List.length_append]; exact hz, _, r1.append r2, IsTup.new _ _⟩
end
end L2
namespace L2
open PySem PySem.Spec PyProof.Rows
def ixN (n : Nat) (i : Int) : Option Nat := if 0 ≤ i then (if i < n then some i.toNat else none) else if -(n : Int) ≤ i then some (i + n).toNat else none
def atI {α : Type} (xs : List α) (i : Int) : Option α := (ixN xs.length i).bind fun j => xs[j]?
theorem ixN_seq {n : Nat} {i : Int} {j : Nat} (h : ixN n i = some j) : seqIndex? i n = some j ∧ j < n ∧ -(n : Int) ≤ i ∧ i < n := by
  unfold ixN at h
  by_cases h0 : 0 ≤ i
  · rw [if_pos h0] at h
    by_cases h1 : i < n
    · rw [if_pos h1] at h
      have e : i.toNat = j := Option.some.inj h
      exact ⟨by rw [seqIndex_of h0 h1, e], by omega, by omega, h1⟩
    · rw [if_neg h1] at h; cases h
  · rw [if_neg h0] at h
    by_cases h1 : -(n : Int) ≤ i
    · rw [if_pos h1] at h
      have e : (i + n).toNat = j := Option.some.inj h
      exact ⟨by rw [seqIndex_neg (by omega) h1, e], by omega, h1, by omega⟩
    · rw [if_neg h1] at h; cases h
theorem atI_get {α : Type} {xs : List α} {i : Int} {v : α} (h : atI xs i = some v) : ∃ j, seqIndex? i xs.length = some j ∧ xs[j]? = some v ∧ j < xs.length ∧ -(xs.length : Int) ≤ i ∧ i < xs.length := by
  unfold atI at h
  cases e : ixN xs.length i with
  | none => rw [e] at h; cases h
  | some j =>
    rw [e] at h
    obtain ⟨h1, h2, h3, h4⟩ := ixN_seq e
    exact ⟨j, h1, h, h2, h3, h4⟩
theorem atI_nat {α : Type} {xs : List α} {j : Nat} {v : α} (h : xs[j]? = some v) : atI xs (j : Int) = some v := by
  have hj : j < xs.length := (List.getElem?_eq_some_iff.mp h).1
  have e : ixN xs.length (j : Int) = some j := by
    unfold ixN
    rw [if_pos (by omega), if_pos (by omega)]; simp
  unfold atI; rw [e]; exact h
def PlainIx (b : Expr) : Prop := ∀ o i, subscripted b false o i = operate [o, i] (getItem o i)
def IxR (X : Cx) (r : R2) : Prop :=
  ∀ (value slice : Expr) (pins : List (Addr × Obj)) (s : Shared) (σ : St) (H : Hp) (x y : V) (v u : Value) (Q : VK), Inv X pins σ H s → RelV x v → RelV y u → r x y H Q →
    subscripted slice false v u = operate [v, u] (getItem v u) → wpAny (model X.prog X.w) X.A (subscriptTail value slice v u) (EP X pins σ Q) X.xe s
def MtR (X : Cx) (id : String) (r : V → List V → Hp → VK → Prop) : Prop :=
  ∀ (pins : List (Addr × Obj)) (s : Shared) (σ : St) (H : Hp) (x : V) (xs : List V) (v : Value) (us : List Value) (Q : VK), Inv X pins σ H s → RelV x v → Vals xs us → r x xs H Q →
    wpAny (model X.prog X.w) X.A (call (.builtin id) (v :: us)) (EP X pins σ Q) X.xe s
section
variable {X : Cx} {a b : Expr} {ta tb : TE} {pos : Pos}
theorem pe_ix {r : R2} (hr : IxR X r) (ha : PE X a ta) (hb : PE X b tb) (hs : PlainIx b) : PE X (.Subscript a b pos) (tOp r ta tb) := by
  intro pins s σ H Q I h
  exact Subscript_ (binT ha hb I h fun v u s2 x y H2 I2 rx ry q => hr a b pins s2 σ H2 x y v u Q I2 rx ry q (hs _ _))
def rIxL (K : PySem.W.Frag) : R2 := fun x y H Q => ∃ p xs i v, x = .ref p ∧ y = .int i ∧ SqL K H p xs ∧ atI xs i = some v ∧ Q v H
def rIxT (K : PySem.W.Frag) : R2 := fun x y H Q => ∃ p xs i v, x = .ref p ∧ y = .int i ∧ SqT K H p xs ∧ atI xs i = some v ∧ Q v H
def rIxS : R2 := fun x y H Q => ∃ z i c, x = .str z ∧ y = .int i ∧ z.length ≤ sizeLine ∧ atI z.cps.toList i = some c ∧ Q (.str ⟨#[c]⟩) H
theorem ix_list : IxR X (rIxL X.K) := by
  intro value slice pins s σ H x y v u Q I rx ry h hs
  obtain ⟨p, xs, i, z, rfl, rfl, hq, he, q⟩ := h
  cases rx
  obtain ⟨t, rfl⟩ := ry
  obtain ⟨its, r, pl, hz⟩ := I.list hq
  obtain ⟨j, h1, h2, h3, h4, h5⟩ := atI_get he
  obtain ⟨w, ew, rw'⟩ := r.get h2
  have hl := r.length
  have hn := line63
  have fin : EP X pins σ Q w s := ⟨z, H, I, rw', q⟩
  by_cases h0 : 0 ≤ i
  · have hj : i.toNat = j := by
      rw [seqIndex_of h0 h5] at h1
      exact Option.some.inj h1
    exact item_listR pl.isList h0 (by omega) (by rw [hj]; simpa using ew) fin hs
  · have hj : (i + (its.toArray.size : Int)).toNat = j := by
      rw [seqIndex_neg (by omega) h4] at h1
      rw [List.size_toArray, ← hl]
      exact Option.some.inj h1
    exact subscriptTail_builtinR (x := w) pl.isList.typeIs slot_list_getitem.lookup
      (wpAny_getItem_list_neg (Q := fun r s' => r = w ∧ EP X pins σ Q r s') pl.isList (by omega) (by rw [List.size_toArray] <;> omega) (by omega) (by rw [hj]; simpa using ew) ⟨rfl, fin⟩) hs
theorem ix_tup : IxR X (rIxT X.K) := by
  intro value slice pins s σ H x y v u Q I rx ry h hs
  obtain ⟨p, xs, i, z, rfl, rfl, hq, he, q⟩ := h
  cases rx
  obtain ⟨t, rfl⟩ := ry
  obtain ⟨its, r, pl, hz⟩ := I.tuple hq
  obtain ⟨j, h1, h2, h3, h4, h5⟩ := atI_get he
  obtain ⟨w, ew, rw'⟩ := r.get h2
  have hl := r.length
  have hn := line63
  have fin : EP X pins σ Q w s := ⟨z, H, I, rw', q⟩
  exact subscriptTail_builtinR (x := w) pl.typeIs slot_tuple_getitem.lookup
    (getItem_tuple (j := j) (Q := fun r s' => r = w ∧ EP X pins σ Q r s') pl (by omega) (by omega) (by rw [List.size_toArray, ← hl]; exact h1) (by simpa using ew) ⟨rfl, fin⟩) hs
theorem ix_str : IxR X rIxS := by
  intro value slice pins s σ H x y v u Q I rx ry h hs
  obtain ⟨z, i, c, rfl, rfl, hz, he, q⟩ := h
  obtain ⟨t, rfl⟩ := rx
  obtain ⟨t', rfl⟩ := ry
  obtain ⟨j, h1, h2, h3, h4, h5⟩ := atI_get he
  have hl : z.cps.toList.length = z.length := by simp [Str.length]
  rw [hl] at h1 h4 h5
  have hn := line63
  exact tail_any (typeIs_str s z t) slot_str_getitem.lookup (getItem_str (c := c) (by
    have e1 : decide (i < -(2 ^ 63 : Int)) = false := decide_eq_false (by omega)
    have e2 : decide (i ≥ 2 ^ 63) = false := decide_eq_false (by omega)
    rw [e1, e2, Bool.or_false]) (by rw [h1]; simpa using h2) ⟨.str ⟨#[c]⟩, H, I.tok _, ⟨_, rfl⟩, q⟩) hs
theorem Inv.lst {pins : List (Addr × Obj)} {σ : St} {H : Hp} {s : Shared} {p : Addr} {xs : List V} (I : Inv X pins σ H s) (h : H p = some (.lst xs)) :
    ∃ (its : List Value) (n : Nat), Vals xs its ∧ s.heap.get? p = some { cls := .type "list", data := .seq its.toArray n } ∧ xs.length ≤ sizeLine := by
  obtain ⟨z, its, n, r, e⟩ := I.hok p _ h
  exact ⟨its, n, r, e, z⟩
theorem slice_bounds (lo hi : Option Int) (n : Nat) : (sliceBounds lo hi none n).1 = ((HT.sIx n 0 lo : Nat) : Int) ∧ (sliceBounds lo hi none n).2.1 = ((HT.sIx n n hi : Nat) : Int) ∧ (sliceBounds lo hi none n).2.2 = 1 := by
  refine ⟨?_, ?_, rfl⟩
  · cases lo with
    | none => simp [sliceBounds, HT.sIx]
    | some i =>
      simp only [sliceBounds, HT.sIx, Option.getD_none, show (1 : Int) > 0 by decide, if_true]
      by_cases h : i < 0
      · simp only [h, if_true] <;> omega
      · simp only [h, if_false] <;> omega
  · cases hi with
    | none => simp [sliceBounds, HT.sIx]
    | some i =>
      simp only [sliceBounds, HT.sIx, Option.getD_none, show (1 : Int) > 0 by decide, if_true]
      by_cases h : i < 0
      · simp only [h, if_true] <;> omega
      · simp only [h, if_false] <;> omega
theorem slicePick_cut (its : List Value) (lo hi : Option Int) : slicePick its.toArray lo hi none = ((its.drop (HT.sIx its.length 0 lo)).take (HT.sIx its.length its.length hi - HT.sIx its.length 0 lo)).toArray := by
  obtain ⟨h1, h2, h3⟩ := slice_bounds lo hi its.toArray.size
  unfold slicePick
  rw [h1, h2, h3]
  simp only [sliceRange_one, pick_run, List.size_toArray] <;> rfl
def rSlL (K : PySem.W.Frag) : V → Option Int → Option Int → Hp → VK → Prop := fun x lo hi H Q => ∃ a xs, x = .ref a ∧ SqL K H a xs ∧ ∀ p, H p = none → Q (.ref p) (upd H p (.lst (cutV xs lo hi)))
theorem sl_list : SlR X (rSlL X.K) := by
  intro pins s σ H x v vl vu lo hi sl Q I rx hs pl pu h
  obtain ⟨a, xs, rfl, hx, q⟩ := h
  cases rx
  obtain ⟨its, r, ht, hz⟩ := I.list hx
  have hlen := r.length
  refine ⟨"list", _, slot_list_getitem.lookup, ht.isList.typeIs, ?_⟩
  refine wpAny_getItem_list_slice ht.isList hs pl pu .none (by simp) ?_ (by rw [List.size_toArray] <;> omega)
  rw [slicePick_cut, ← hlen]
  refine ⟨.ref s.heap.objs.size, _, I.laid (t' := s.toks) (o := .lst (cutV xs lo hi)) (fun b ob q => Heap.get?_push_of_some _ q) (Nat.le_refl _) ?_, rfl, q _ (I.hok.fresh (Nat.le_refl _))⟩
  exact ⟨Nat.le_trans (cutV_length xs lo hi) hz, _, 0, (r.drop (HT.sIx xs.length 0 lo)).take (HT.sIx xs.length xs.length hi - HT.sIx xs.length 0 lo), Heap.get?_push_size _ rfl⟩
theorem call_len_seq : CallR X (.builtin "len") (fun xs H Q => ∃ p ys, xs = [.ref p] ∧ (SqL X.K H p ys ∨ SqT X.K H p ys) ∧ Q (.int ys.length) H) := by
  intro pins s σ H xs us Q I r h
  obtain ⟨p, ys, rfl, hq, q⟩ := h
  obtain ⟨u, rfl, rx⟩ := vals1 r
  cases rx
  have hn := line63
  rcases hq with hq | hq
  · obtain ⟨its, r', pl, hz⟩ := I.list hq
    have hlen := r'.length
    exact Calls.call_len_list pl.isList (by simp only [List.size_toArray] <;> omega) ⟨.int ys.length, H, I.tok _, ⟨s.toks + 1, by rw [List.size_toArray, hlen]⟩, q⟩
  · obtain ⟨its, r', pl, hz⟩ := I.tuple hq
    have hlen := r'.length
    exact len_tuple pl (by simp only [List.size_toArray] <;> omega) ⟨.int ys.length, H, I.tok _, ⟨s.toks + 1, by rw [List.size_toArray, hlen]⟩, q⟩
theorem call_len_str : CallR X (.builtin "len") (fun xs H Q => ∃ z, xs = [.str z] ∧ z.length ≤ sizeLine ∧ Q (.int z.length) H) := by
  intro pins s σ H xs us Q I r h
  obtain ⟨z, rfl, hz, q⟩ := h
  obtain ⟨u, rfl, t, rfl⟩ := vals1 r
  have hn := line63
  exact len_str (by omega) ⟨.int z.length, H, I.tok _, ⟨_, rfl⟩, q⟩
theorem call_list_of : CallR X (.type "list") (fun xs H Q => ∃ p ys, xs = [.ref p] ∧ (SqL X.K H p ys ∨ SqT X.K H p ys) ∧ ∀ l, H l = none → Q (.ref l) (upd H l (.lst ys))) := by
  intro pins s σ H xs us Q I r h
  obtain ⟨p, ys, rfl, hq, q⟩ := h
  obtain ⟨u, rfl, rx⟩ := vals1 r
  cases rx
  have fin : ∀ (its : List Value), Vals ys its → ys.length ≤ sizeLine → ∀ (h' : Heap) (c' : Nat), (∀ b o', s.heap.get? b = some o' → h'.get? b = some o') →
      h'.get? s.heap.objs.size = some { cls := .type "list", dict := none, data := .seq its.toArray c', slots := #[] } → EP X pins σ Q (.ref s.heap.objs.size) { s with heap := h' } := fun its r' hz h' c' kp e =>
    ⟨.ref s.heap.objs.size, _, I.laid (t' := s.toks) kp (Nat.le_refl _) (show ObjOk X.prog X.w _ h' _ (.lst ys) from ⟨hz, its, c', r', e⟩), rfl, q _ (I.hok.fresh (Nat.le_refl _))⟩
  rcases hq with hq | hq
  · obtain ⟨its, r', pl, hz⟩ := I.list hq
    have hlen := r'.length
    obtain ⟨o, ho, hc, n, hd⟩ := pl.isList
    exact call_list_seq p (.inl rfl) ho hc hd (fun h' c' kp e => fin its r' hz h' c' kp e) (by simp only [List.size_toArray] <;> omega)
  · obtain ⟨its, r', pl, hz⟩ := I.tuple hq
    have hlen := r'.length
    obtain ⟨o, ho, hc, n, hd⟩ := pl
    exact call_list_seq p (.inr rfl) ho hc hd (fun h' c' kp e => fin its r' hz h' c' kp e) (by simp only [List.size_toArray] <;> omega)
theorem call_tuple_of : CallR X (.type "tuple") (fun xs H Q => ∃ p ys, xs = [.ref p] ∧ ((SqL X.K H p ys ∧ ∀ l, H l = none → Q (.ref l) (upd H l (.tup ys))) ∨ (SqT X.K H p ys ∧ Q (.ref p) H))) := by
  intro pins s σ H xs us Q I r h
  obtain ⟨p, ys, rfl, h⟩ := h
  obtain ⟨u, rfl, rx⟩ := vals1 r
  cases rx
  rcases h with ⟨hq, q⟩ | ⟨hq, q⟩
  · obtain ⟨its, r', pl, hz⟩ := I.list hq
    have hlen := r'.length
    refine call_tuple_list pl.isList (fun h' kp => ?_) (by simp only [List.size_toArray] <;> omega)
    have I1 : Inv X pins σ H { s with heap := h' } := I.kept (t' := s.toks) kp
    have I2 : Inv X pins σ (upd H h'.objs.size (.tup ys)) { s with heap := h'.push { cls := .type "tuple", data := .seq its.toArray } } :=
      I1.laid (t' := s.toks) (fun b o e => Heap.get?_push_of_some _ e) (Nat.le_refl _) (show ObjOk X.prog X.w _ _ _ (.tup ys) from ⟨hz, its, r', IsTup.new _ _⟩)
    exact ⟨.ref h'.objs.size, _, I2, rfl, q _ (I1.hok.fresh (Nat.le_refl _))⟩
  · obtain ⟨its, r', pl, hz⟩ := I.tuple hq
    exact call_tuple_same pl ⟨.ref p, H, I, rfl, q⟩
def tyV (K : PySem.W.Frag) (T : String) (x : V) (H : Hp) : Prop := match x with
  | .str _ => T = "str"
  | .int _ => T = "int"
  | .ref p => (T = "list" ∧ ∃ xs, SqL K H p xs) ∨ (T = "tuple" ∧ ∃ o, K.lookup p = some o ∧ o.cls = .type "tuple" ∧ o.dict = none) ∨
      (T = "dict" ∧ ((∃ kvs, H p = some (.dK kvs)) ∨ ∃ kvs, H p = some (.dT kvs))) ∨ (T = "set" ∧ ∃ S n, H p = some (.set S n))
  | _ => False
theorem tyV_is {pins : List (Addr × Obj)} {σ : St} {H : Hp} {s : Shared} {T : String} {x : V} {v : Value} (I : Inv X pins σ H s) (r : RelV x v) (ty : tyV X.K T x H) :
    s.TypeIs v T ∧ ∀ a, v = .ref a → ∃ ob, s.heap.get? a = some ob ∧ ob.dict = none := by
  cases x with
  | str z =>
    obtain ⟨t, rfl⟩ := r
    cases (show T = "str" from ty)
    exact ⟨typeIs_str s z t, fun _ e => nomatch e⟩
  | int i =>
    obtain ⟨t, rfl⟩ := r
    cases (show T = "int" from ty)
    exact ⟨typeIs_int s i t, fun _ e => nomatch e⟩
  | ref p =>
    cases r
    rcases ty with ⟨rfl, xs, hq⟩ | ⟨rfl, o, hk, hc, hd⟩ | ⟨rfl, hk⟩ | ⟨rfl, S, n, hk⟩
    · obtain ⟨its, _, pl, _⟩ := I.list hq
      refine ⟨pl.isList.typeIs, fun a e => ?_⟩
      cases e
      obtain ⟨o, n, e, c, hd, _⟩ := pl
      exact ⟨o, e, hd⟩
    · refine ⟨⟨o, I.kIn p o hk, hc⟩, fun a e => ?_⟩
      cases e
      exact ⟨o, I.kIn _ o hk, hd⟩
    · have z : ∃ o, s.heap.get? p = some o ∧ o.ExactDict := by
        rcases hk with ⟨kvs, hk⟩ | ⟨kvs, hk⟩
        · obtain ⟨_, _, _, _, o, _, _, e, ex, _⟩ := I.hok p _ hk
          exact ⟨o, e, ex⟩
        · obtain ⟨_, _, _, _, o, _, _, e, ex, _⟩ := I.hok p _ hk
          exact ⟨o, e, ex⟩
      obtain ⟨o, e, ex⟩ := z
      refine ⟨⟨o, e, ex.1⟩, fun a e2 => ?_⟩
      cases e2
      exact ⟨o, e, ex.2.1⟩
    · obtain ⟨o, _, _, _, e, ex, _⟩ := I.hok p _ hk
      refine ⟨⟨o, e, ex.1⟩, fun a e2 => ?_⟩
      cases e2
      exact ⟨o, e, ex.2.1⟩
  | _ => exact False.elim ty
def tBM0 (K : PySem.W.Frag) (T : String) (r : V → List V → Hp → VK → Prop) (to : TE) : TE := fun σ H Q => to σ H fun x H1 => tyV K T x H1 ∧ r x [] H1 Q
def tBM (K : PySem.W.Frag) (T : String) (r : V → List V → Hp → VK → Prop) (to : TE) (t : TA) : TE := fun σ H Q => to σ H fun x H1 => tyV K T x H1 ∧ t σ H1 fun xs H2 => r x xs H2 Q
variable {o e : Expr} {es : List Expr} {to : TE} {t : TA} {name : Str} {apos cpos : Pos} {T id : String} {r : V → List V → Hp → VK → Prop}
theorem pe_bm0 (pa : PlainAttrs T) (slot : Slot T name id) (hty : typeOf (.builtin id) = pure (.type "method_descriptor")) (hm : MtR X id r) (ho : PE X o to)
    (hbase : attributeBase o name X.env (eval o X.env) = eval o X.env := by rfl) (hline : (apos.endLine == cpos.line) = true := by rfl) : PE X (.Call (.Attribute o name apos) [] [] cpos) (tBM0 X.K T r to) := by
  intro pins s σ H Q I h
  refine wpAny_Call_method0_late hbase hline (thn (ho pins s σ H _ I h) fun v s1 ⟨x, H1, I1, r1, ty, q1⟩ => ?_)
  obtain ⟨h1, h2⟩ := tyV_is I1 r1 ty
  exact ⟨T, id, pa, slot, hty, h1, h2, Calls.callWith_builtin rfl (PySem.evalArgs_none (hm pins s1 σ H1 x [] v [] Q I1 r1 .nil q1))⟩
theorem pe_bm (pa : PlainAttrs T) (slot : Slot T name id) (hty : typeOf (.builtin id) = pure (.type "method_descriptor")) (hm : MtR X id r) (ho : PE X o to) (ha : PA X (e :: es) t)
    (hbase : attributeBase o name X.env (eval o X.env) = eval o X.env := by rfl)
    (hfew : ((backTo cpos (starEach (e :: es) X.env)).all (fun x => !x.1) && (backToKw cpos (keywordEach [] X.env)).all (fun x => x.1.isSome)
      && decide ((e :: es).length + ([] : List Keyword).length + (if ([] : List Keyword).isEmpty then 0 else 1) < 30)) = true := by rfl)
    (hline : (apos.endLine == cpos.line) = true := by rfl) (hs : starEach (e :: es) X.env = (false, eval e X.env) :: starEach es X.env := by rfl) (hplain : (backTo cpos (starEach es X.env)).any (·.1) = false := by rfl) :
    PE X (.Call (.Attribute o name apos) (e :: es) [] cpos) (tBM X.K T r to t) := by
  intro pins s σ H Q I h
  refine wpAny_Call_method_late hbase hfew hline rfl (thn (ho pins s σ H _ I h) fun v s1 ⟨x, H1, I1, r1, ty, q1⟩ => ?_)
  obtain ⟨h1, h2⟩ := tyV_is I1 r1 ty
  refine ⟨T, id, pa, slot, hty, h1, h2, ?_⟩
  have hA := ha cpos pins s1 σ H1 _ I1 q1
  rw [hs] at hA ⊢
  refine Calls.callWith_builtin (by show (false || (backTo cpos (starEach es X.env)).any (·.1)) = false; rw [hplain] <;> rfl) (Calls.evalArgs_plain ?_)
  exact thn hA fun us s2 ⟨vs, H2, I2, r2, q2⟩ => hm pins s2 σ H2 x vs v us Q I2 r1 r2 q2
/- xs.append(e), list.index on a module's tuple .. are MtR facts of 06m -/
end
end L2
namespace L2
open PySem PySem.Spec PyProof.Rows
def MtM (X : Cx) (id : String) (r : V → List V → Hp → VK → Prop) : Prop :=
  ∀ (pins : List (Addr × Obj)) (s : Shared) (σ : St) (H : Hp) (x : V) (xs : List V) (v : Value) (us : List Value) (Q : VK), Inv X pins σ H s → RelV x v → Vals xs us → r x xs H Q →
    wpAny (model X.prog X.w) X.A (call (.builtin id) (v :: us)) (EP X pins σ Q) X.xe s
theorem Vals.one : ∀ {x : V} {us : List Value}, Vals [x] us → ∃ u, us = [u] ∧ RelV x u
  | _, _, .cons r .nil => ⟨_, rfl, r⟩
theorem Vals.zero : ∀ {us : List Value}, Vals [] us → us = []
  | _, .nil => rfl
theorem Vals.dropLast {xs : List V} {us : List Value} (h : Vals xs us) : Vals xs.dropLast us.dropLast := by
  induction h with
  | nil => exact .nil
  | cons r t ih =>
    cases t with
    | nil => exact .nil
    | cons q t' => exact .cons r ih
theorem Vals.eraseIdx : ∀ {xs : List V} {us : List Value} (i : Nat), Vals xs us → Vals (xs.eraseIdx i) (us.eraseIdx i)
  | _, _, _, .nil => .nil
  | _, _, 0, .cons _ t => t
  | _, _, i + 1, .cons r t => .cons r (Vals.eraseIdx i t)
theorem Vals.reverse {xs : List V} {us : List Value} (h : Vals xs us) : Vals xs.reverse us.reverse := by
  induction h with
  | nil => exact .nil
  | cons r t ih => rw [List.reverse_cons, List.reverse_cons]; exact Vals.append ih (.cons r .nil)
theorem Vals.rep {xs : List V} {us : List Value} (h : Vals xs us) : ∀ k : Nat, Vals (List.replicate k xs).flatten (List.replicate k us).flatten
  | 0 => .nil
  | k + 1 => by
    rw [List.replicate_succ, List.replicate_succ, List.flatten_cons, List.flatten_cons]
    exact Vals.append h (Vals.rep h k)
theorem erase_last {α : Type} (l : List α) : l.eraseIdx (l.length - 1) = l.dropLast := by
  induction l with
  | nil => rfl
  | cons a r ih =>
    cases r with
    | nil => rfl
    | cons b r =>
      have e : (a :: b :: r).length - 1 = ((b :: r).length - 1) + 1 := by
        have h1 : (a :: b :: r).length = r.length + 2 := rfl
        have h2 : (b :: r).length = r.length + 1 := rfl
        omega
      rw [e, List.eraseIdx_cons_succ, ih]
      all_goals rfl
theorem foldl_rep (its : List Value) : ∀ (k : Nat) (acc : List Value),
    List.foldl (fun x1 x2 => x1 ++ x2) acc.toArray (List.replicate k its.toArray) = (acc ++ (List.replicate k its).flatten).toArray
  | 0, acc => by simp
  | k + 1, acc => by
    have e : acc.toArray ++ its.toArray = (acc ++ its).toArray := by simp
    have e2 : (acc ++ its) ++ (List.replicate k its).flatten = acc ++ (List.replicate (k + 1) its).flatten := by
      rw [List.replicate_succ, List.flatten_cons, List.append_assoc]
    rw [← e2, ← foldl_rep its k (acc ++ its), ← e, List.replicate_succ, List.foldl_cons]
section
variable {X : Cx} {pins : List (Addr × Obj)} {σ : St} {H : Hp} {s : Shared} {l b : Addr} {xs ys zs : List V}
theorem Inv.lset {its its' : List Value} {n : Nat} {f : Array Value → Array Value} {t' : Nat} (I : Inv X pins σ H s) (hH : H l = some (.lst xs))
    (e : s.heap.get? l = some { cls := .type "list", data := .seq its.toArray n }) (hf : f its.toArray = its'.toArray) (hv : Vals ys its') (hz : ys.length ≤ sizeLine) :
    Inv X pins σ (upd H l (.lst ys)) { s with heap := s.heap.update l (Obj.mapSeq f), toks := t' } := by
  have q := PySem.IsL.update e f
  rw [hf] at q
  refine I.write (x := l) (e := l) (by rw [hH]; exact trivial) (.inl rfl) (fun b' u hb hu => (Heap.get?_update_other s.heap (Obj.mapSeq f) (Ne.symm hb)).trans hu) ⟨_, q⟩ ?_
  exact ⟨hz, its', _, hv, q⟩
theorem Inv.fresh (I : Inv X pins σ H s) : H s.heap.objs.size = none := I.hok.fresh (Nat.le_refl _)
theorem Inv.lstM (I : Inv X pins σ H s) (hH : H l = some (.lst xs)) : xs.length ≤ sizeLine ∧ ∃ (its : List Value) (n : Nat), Vals xs its ∧ xs.length = its.length ∧ s.heap.get? l = some { cls := .type "list", data := .seq its.toArray n } := by
  obtain ⟨z, its, n, r, e⟩ := I.hok l _ hH
  exact ⟨z, its, n, r, r.length, e⟩
end
section
variable {X : Cx}
def rAppend : V → List V → Hp → VK → Prop := fun x vs H Q => ∃ l xs y, x = .ref l ∧ vs = [y] ∧ H l = some (.lst xs) ∧ xs.length < sizeLine ∧ Q .non (upd H l (.lst (xs ++ [y])))
theorem mt_append : MtM X "list.append" rAppend := by
  intro pins s σ H x vs v us Q I rx rv h
  obtain ⟨l, xs, y, rfl, rfl, hH, hz, q⟩ := h
  cases rx
  obtain ⟨u, rfl, ru⟩ := rv.one
  obtain ⟨z, its, n, r, hl, e⟩ := I.lstM hH
  refine call_meets F.slot_list_append ⟨_, e, rfl⟩ F.entry_list_append (F.args_list_append_2 _ _) (PySem.list_append l its.toArray n u (by rw [List.size_toArray]; omega)) ⟨e, ?_⟩
  refine ⟨.non, _, I.lset (its' := its ++ [u]) hH e (by simp) (r.append (.cons ru .nil)) ?_, rfl, q⟩
  rw [List.length_append, List.length_singleton]
  omega
def rPop : V → List V → Hp → VK → Prop := fun x vs H Q => ∃ l xs y, x = .ref l ∧ vs = [] ∧ H l = some (.lst xs) ∧ xs[xs.length - 1]? = some y ∧ Q y (upd H l (.lst xs.dropLast))
theorem mt_pop : MtM X "list.pop" rPop := by
  intro pins s σ H x vs v us Q I rx rv h
  obtain ⟨l, xs, y, rfl, rfl, hH, hy, q⟩ := h
  cases rx
  have hus := rv.zero
  subst hus
  obtain ⟨z, its, n, r, hl, e⟩ := I.lstM hH
  obtain ⟨u, hu, ru⟩ := r.get hy
  have hy' : its.toArray[its.toArray.size - 1]? = some u := by
    show its.toArray[its.length - 1]? = some u
    rw [← Array.getElem?_toList, ← hl]
    exact hu
  refine call_meets F.slot_list_pop ⟨_, e, rfl⟩ F.entry_list_pop (F.args_list_pop_1 _) (MeetsSeq.list_pop_last l its.toArray n u hy' (by rw [List.size_toArray]; omega)) ⟨e, ?_⟩
  refine ⟨y, _, I.lset (its' := its.dropLast) hH e ?_ r.dropLast ?_, ru, q⟩
  · show its.toArray.eraseIdxIfInBounds (its.toArray.size - 1) = its.dropLast.toArray
    rw [List.size_toArray, List.eraseIdxIfInBounds_toArray, erase_last]
  · rw [List.length_dropLast]
    omega
def rClear : V → List V → Hp → VK → Prop := fun x vs H Q => ∃ l xs, x = .ref l ∧ vs = [] ∧ H l = some (.lst xs) ∧ Q .non (upd H l (.lst []))
theorem mt_clear : MtM X "list.clear" rClear := by
  intro pins s σ H x vs v us Q I rx rv h
  obtain ⟨l, xs, rfl, rfl, hH, q⟩ := h
  cases rx
  have hus := rv.zero
  subst hus
  obtain ⟨z, its, n, r, hl, e⟩ := I.lstM hH
  refine call_meets F.slot_list_clear ⟨_, e, rfl⟩ F.entry_list_clear (F.args_list_clear_1 _) (AutoSeq1.list_clear_list_0 l its.toArray n (by rw [List.size_toArray]; omega)) ⟨e, ?_⟩
  exact ⟨.non, _, I.lset (its' := []) (ys := []) hH e rfl .nil (Nat.zero_le _), rfl, q⟩
theorem len_rep {α : Type} (xs : List α) (k : Nat) : (List.replicate k xs).flatten.length = k * xs.length := by
  induction k with
  | zero => simp
  | succ k ih => rw [List.replicate_succ, List.flatten_cons, List.length_append, ih, Nat.succ_mul, Nat.add_comm]
end
section
variable {prog : Program} {w : World} {A : Around} {E : Value → Shared → Prop} {s : Shared}
end
section
variable {X : Cx}
end
end L2
namespace Att
open PySem PySem.W PySem.Calls PyProof.Rows
theorem ints_of_wellAll {P : Params} {h : Heap} : ∀ (ns : List Int) (vs : List Value), WellAll P h vs (ns.map WData.int) → IntsAre vs ns := by
  intro ns
  induction ns with
  | nil =>
    intro vs w
    rw [List.map_nil] at w
    cases w
    exact .nil
  | cons n ns ih =>
    intro vs w
    rw [List.map_cons] at w
    cases w with
    | cons a b =>
      cases a
      exact .cons _ _ (ih _ b)
theorem script_of {l : OpenLaw} {n : Nat} (hn : l.most = some n) {P : Params} {h : Heap} {args : List WData} {vals : List Value}
    (hpre : l.row.toRowW.claim.pre args = true) (hwl : WellAll P h vals args) :
    ∃ a vs ns, vals = [Value.ref a] ∧ args = [WData.list (ns.map WData.int)] ∧ h.get? a = some { cls := .type "list", data := .seq vs.toArray } ∧ IntsAre vs ns ∧ ns.length ≤ n := by
  have hsh : WShape.hasAll [] args [.list .int] = true := (pre_splitW hpre).1
  have hc : l.pre.holds [] { args := args } = true := (pre_splitW hpre).2
  obtain ⟨d, r, rfl, h1, h2⟩ := hasAllW_cons hsh
  obtain rfl := hasAllW_nil h2
  obtain ⟨xs, rfl, h3⟩ := hasW_list h1
  obtain ⟨ns, rfl⟩ := items_int h3
  have hlen : ns.length ≤ n := by
    unfold OpenLaw.pre at hc
    have h4 : (WTm.not (.lt (.lit (.int (n : Int))) (.len (.arg 0)))).holds [] { args := [.list (ns.map .int)] } = true := by
      have h4 := (holds_andW hc).1
      rw [hn] at h4
      exact h4
    have h5 := condW_of h4 (w_not (w_lt w_lit (w_len_list (w_arg rfl))))
    rw [List.length_map] at h5
    refine Nat.le_of_not_lt fun q => ?_
    have q' : (n : Int) < ((ns.length : Nat) : Int) := by omega
    first
      | (rw [decide_eq_true q'] at h5; exact absurd h5 (by decide))
      | (simp at h5; omega)
  cases hwl with
  | cons w1 w2 =>
    cases w2
    cases w1 with
    | list ho hall => exact ⟨_, _, ns, rfl, rfl, ho, ints_of_wellAll ns _ hall, hlen⟩
theorem post_true (l : OpenLaw) (args : List WData) : l.row.toRowW.claim.post args (.bool true) args = true :=
  postW_of (r := l.row.toRowW) (X := (true == true))
    (show WShape.has [] (.bool true) .bool = true by first | rfl | decide | simp [WShape.has, WShape.arms, WShape.armsAll])
    (show (WTm.eq .res (.lit (.bool true))).value [] { args := args, res := some (.bool true), after := args } = some (.bool (true == true)) from w_eq_bool (w_res rfl) w_lit) rfl
theorem attach_call {l : OpenLaw} {n : Nat} {q : Program} {loose : List Str} {XP : (Str → Option Value) → Heap → Prop} {YP : World → Heap → Prop} {d : DefRec}
    (hn : l.most = some n) (hdf : d.params.defaults = [])
    (call : ∀ (w : World) (s₀ s₁ : Shared) (mg mb : Str → Option Value) (fa : Addr) (o : Obj) (pm cd doc : Value) (a : Addr) (vs : List Value) (ns : List Int),
      Ground q loose [] XP w s₀ mg mb s₁.heap → YP w s₁.heap →
      s₁.heap.get? fa = some o → o.data = .func (docDef d.name d.params d.body d.scope pm cd doc) → s₁.heap.CodeRec cd d.name → mg d.name = some (.ref fa) →
      s₁.heap.get? a = some { cls := .type "list", data := .seq vs.toArray } → IntsAre vs ns → ns.length ≤ n → s₁.gens = #[] →
      codeAny (model l.prog w) callerA (.call (.ref fa) ⟨[.ref a], []⟩) (fun r s' => r = .ok (.ret (.bool true)) ∧ OldK s₁.heap s'.heap ∧ s'.os = s₁.os ∧ AllBare s'.gens) s₁) :
    WalkO q loose XP YP l.row.toRowW d [] (fun f vs => PySem.call f vs) := by
  intro w s₀ s₁ mg mb G Y fa o pm cd doc dV kV ho hd hcd hD hmg hg args vals as hpre hlay hrd hwl hlo
  obtain rfl : dV = .none := Dflts.none hD hdf
  obtain rfl : kV = .none := Dflts.noKw hD
  obtain ⟨a, vs, ns, rfl, rfl, hobj, hints, hlen⟩ := script_of hn hpre hwl
  refine enter_call (codeAny_mono (call w s₀ s₁ mg mb fa o pm cd doc a vs ns G Y ho (fd_plain hd) hcd hmg hobj hints hlen hg) fun r s' hq => ?_)
  obtain ⟨rfl, h2, h3, h4⟩ := hq
  exact ⟨.inl ⟨.bool true, .bool true, [], rfl, fun _ => rfl, .bool true, post_true l _, fun _ => ⟨List.Pairwise.nil, fun _ hm => (nomatch hm)⟩⟩, h2, h3, h4⟩
section
variable {prog : Program} {w : World} {A : Around} {E : Value → Shared → Prop} {s : Shared} {K : Frag}
end
end Att
namespace L2
open PySem PySem.Spec PyProof.Rows
theorem vals_ints : ∀ {vs : List Value} {ns : List Int}, IntsAre vs ns → Vals (ns.map V.int) vs
  | _, _, .nil => .nil
  | _, _, .cons n t h => .cons ⟨t, rfl⟩ (vals_ints h)
def Only (H : Hp) : Prop := ∀ b, H b = none ∨ ∃ o xs, H b = some (.frz o (.lst xs))
theorem law_call {P : Program} {w : World} {K : PySem.W.Frag} {mg mb : Str → Option Value} {CX : CXT} {k : Nat} {fa a : Addr} {fd : FuncData} {x : Str} {sp : Sp} {s₁ : Shared} {vs : List Value} {ns : List Int}
    (KX : K.In s₁.heap) (hns : s₁.heap.Ns mainGlobals mg) (hb : s₁.heap.Ns builtinsNs mb) (hbb : ∀ x : Str, x ≠ "__name__" → mb x = bootBuiltins x) (hlim : s₁.heap.NoLimit) (hg : s₁.gens = #[])
    (ha : s₁.heap.get? a = some { cls := .type "list", data := .seq vs.toArray }) (hi : IntsAre vs ns) (hl : ns.length ≤ sizeLine) (hr : Room k callerA)
    (F : ∀ base : Heap, K.In base → base.Ns mainGlobals mg → FnOk P w K mg base CX k fa fd [x] sp) (hbind : ∀ (s : Shared) (u : Value), BindsTo s fd ⟨[u], []⟩ [(x, u)])
    (hsp : ∀ H : Hp, Only H → SqL K H a (ns.map V.int) → sp [.ref a] H (fun v _ => v = .bl true) fun _ _ _ => False)
    (hCX : ∀ H e s', CX [] H s₁ (fun _ _ _ => False) e s' → False) :
    codeAny (model P w) callerA (.call (.ref fa) ⟨[.ref a], []⟩) (fun r s' => r = .ok (.ret (.bool true)) ∧ OldK s₁.heap s'.heap ∧ s'.os = s₁.os ∧ AllBare s'.gens) s₁ := by
  have rv := vals_ints hi
  have lenV := hi.length
  -- from an abstract heap in which nothing but the script may be tracked
  have core : ∀ H : Hp, Only H → SqL K H a (ns.map V.int) → HOk P w H s₁.heap → (∀ b, H b ≠ none → b = a) → (H a ≠ none → K.lookup a = none) →
      codeAny (model P w) callerA (.call (.ref fa) ⟨[.ref a], []⟩) (fun r s' => r = .ok (.ret (.bool true)) ∧ OldK s₁.heap s'.heap ∧ s'.os = s₁.os ∧ AllBare s'.gens) s₁ := by
    intro H hO hS hok hA hK
    have base_of : ∀ {b : Addr} {o : Obj}, s₁.heap.get? b = some o → H b = none → (hidT s₁.heap H).get? b = some o := fun e n => hidT_get e n
    have noA : ∀ {b : Addr} {o : Obj} {es : Array DictEntry} {ep : Nat}, s₁.heap.get? b = some o → o.data = .dict es ep → H b = none := fun {b o es ep} e d => by
      cases q : H b with
      | none => rfl
      | some u =>
        have e' : b = a := hA b (by rw [q]; simp)
        subst e'
        rw [ha] at e; cases e
        have d' : Data.seq vs.toArray _ = Data.dict es ep := d
        cases d'
    have nsK : ∀ {b : Addr} {m : Str → Option Value}, s₁.heap.Ns b m → (hidT s₁.heap H).Ns b m := fun {b m} ⟨o, es, ep, e, d, r⟩ => ⟨o, es, ep, base_of e (noA e d), d, r⟩
    have hKb : K.In (hidT s₁.heap H) := fun b o e => base_of (KX b o e) (by
      cases q : H b with
      | none => rfl
      | some u =>
        have e' : b = a := hA b (by rw [q]; simp)
        subst e'
        rw [hK (by rw [q]; simp)] at e; cases e)
    have hM : Mod K mg (hidT s₁.heap H) := ⟨hKb, nsK hns, ⟨mb, nsK hb, hbb⟩, let ⟨mc, h1, h2⟩ := hlim; ⟨mc, nsK h1, h2⟩⟩
    have e0 : Env0 P w K mg (hidT s₁.heap H) callerA [] s₁ H := ⟨rfl, hM, fun b o e => of_hidT e, Nat.le_of_eq (hidT_size _ _), trivial, fun b hb => absurd (show b ∈ ([] : List Addr) from hb) (by simp), hok, .of_eq hg⟩
    refine codeAny_mono ((F _ hKb (nsK hns)).run callerA [] s₁ H ⟨[.ref a], []⟩ [.ref a] [.ref a] _ _ hr e0 (hbind s₁ (.ref a)) (.cons rfl .nil) (hsp H hO hS)) fun r s' h => ?_
    cases r with
    | error e => exact (hCX H e s' h).elim
    | ok fl =>
      cases fl with
      | next => exact False.elim h
      | brk => exact False.elim h
      | cont => exact False.elim h
      | ret u =>
        obtain ⟨v, H', os, bare, un, hok', r', q⟩ := h
        have q' : v = .bl true := q
        subst q'
        obtain rfl : u = Value.bool true := r'
        refine ⟨rfl, OldK.of_keep fun b o e => ?_, os, bare⟩
        cases q : H b with
        | none => exact un.keep b o e q (by intro z; exact absurd (show b ∈ ([] : List Addr) from z) (by simp)) (by simp)
        | some u =>
          rcases hO b with z | ⟨ob, xs, z⟩
          · rw [q] at z; cases z
          · have z2 := un.frzs b ob _ z
            obtain ⟨e1, _⟩ := hok b _ z
            obtain ⟨e2, _⟩ := hok' b _ z2
            rw [e] at e1; cases e1
            exact e2
  cases hk : K.lookup a with
  | some o =>
    -- the script is one of the module's own objects
    have e := KX a o hk
    rw [ha] at e
    cases e
    refine core (fun _ => none) (fun _ => .inl rfl) (.inr ⟨_, vs.toArray, _, hk, rfl, rfl, rfl, by rw [List.size_toArray, lenV]; exact hl, by simpa using rv⟩) (fun b u z => by have z' : (none : Option HO) = some u := z; cases z') (fun b z => absurd rfl z) fun z => absurd rfl z
  | none =>
    refine core (fun b => if b = a then some (.frz { cls := .type "list", data := .seq vs.toArray } (.lst (ns.map V.int))) else none) (fun b => ?_) (.inl (.inr ⟨{ cls := .type "list", data := .seq vs.toArray }, if_pos rfl⟩)) (fun b u z => ?_) (fun b z => ?_) fun _ => hk
    · by_cases hb : b = a
      · exact .inr ⟨_, _, if_pos hb⟩
      · exact .inl (if_neg hb)
    · by_cases hb : b = a
      · have z' := (if_pos hb).symm.trans z
        cases z'
        subst hb
        exact ⟨ha, by rw [List.length_map]; exact hl, vs, _, rv, ha⟩
      · have z' := (if_neg hb).symm.trans z
        cases z'
    · by_cases hb : b = a
      · exact hb
      · exact absurd (if_neg hb) z
end L2
namespace L2
open PySem PySem.Spec PyProof.Rows
theorem walk_of {l : PySem.W.OpenLaw} {n k : Nat} {q : Program} {loose : List Str} {XP : (Str → Option Value) → Heap → Prop} {YP : World → Heap → Prop} {d : DefRec} {K : Params → PySem.W.Frag} {CX : World → CXT} {sp : World → Sp} {x : Str}
    (hn : l.most = some n) (hn2 : n ≤ sizeLine) (hdf : d.params.defaults = []) (hr : Room k callerA)
    (hY : ∀ (w : World) (h : Heap), YP w h → (K w.params).In h)
    (F : ∀ (w : World) (mg : Str → Option Value) (fa : Addr) (h : Heap), (K w.params).In h → h.Ns mainGlobals mg → mg d.name = some (.ref fa) →
      ∃ fd : FuncData, (∀ (s : Shared) (u : Value), BindsTo s fd ⟨[u], []⟩ [(x, u)]) ∧
        ∀ base : Heap, (K w.params).In base → base.Ns mainGlobals mg → FnOk l.prog w (K w.params) mg base (CX w) k fa fd [x] (sp w))
    (hsp : ∀ (w : World) (H : Hp) (a : Addr) (ns : List Int), ns.length ≤ n → Only H → SqL (K w.params) H a (ns.map V.int) → sp w [.ref a] H (fun v _ => v = .bl true) fun _ _ _ => False)
    (hCX : ∀ (w : World) (H : Hp) (s : Shared) (e : Value) (s' : Shared), CX w [] H s (fun _ _ _ => False) e s' → False) :
    PySem.W.WalkO q loose XP YP l.row.toRowW d [] (fun f vs => PySem.call f vs) := by
  refine Att.attach_call hn hdf fun w s₀ s₁ mg mb fa o pm cd doc a vs ns G Y ho hd hcd hmg hobj hints hlen hg => ?_
  have KX := hY w _ Y
  obtain ⟨fd, hb, hF⟩ := F w mg fa _ KX G.T.g hmg
  exact law_call KX G.T.g G.T.b G.T.builtins G.T.nolimit hg hobj hints (Nat.le_trans hlen hn2) hr hF hb (fun H hO hS => hsp w H a ns hlen hO hS) fun H e s' => hCX w H s₁ e s'
end L2
namespace L2
open PySem PySem.Spec PyProof.Rows
def defArgs (s : Stmt) : Arguments := match s with
  | .FunctionDef _ a _ _ _ _ _ _ _ _ => a
  | _ => { posonlyargs := [], args := [], vararg := none, kwonlyargs := [], kw_defaults := [], kwarg := none, defaults := [] }
def defBody (s : Stmt) : List Stmt := match s with
  | .FunctionDef _ _ b _ _ _ _ _ _ _ => b
  | _ => []
def defScope (s : Stmt) : Scope := match s with
  | .FunctionDef _ _ _ _ _ _ sc _ _ _ => sc
  | _ => { kind := .function, names := [], isGenerator := false, isCoroutine := false }
abbrev CX0 : CXT := fun _ _ _ _ _ _ => False
structure Fun (K : PySem.W.Frag) (x qual : Str) (st : Stmt) (f : Addr) (fd : FuncData) : Prop where
  ex : ∃ (oc : Value) (od : Option Addr) (kV doc pm : Value) (an : Option Addr) (cdv ct : Value) (osl : Array (Option Value)),
    fd = PySem.W.fnOf x qual (defArgs st) (defBody st) (defScope st) .none kV doc pm an cdv ct ∧ K.lookup f = some ⟨oc, od, .func fd, osl⟩ ∧ PySem.W.codeIn K cdv qual = true
  kp : PySem.W.keepIn K (.ref f) = true
section
variable {P : Program} {w : World} {K : PySem.W.Frag} {mg : Str → Option Value} {base : Heap}
theorem Fun.ok {x qual : Str} {st : Stmt} {f : Addr} {fd : FuncData} {N ps : List Str} {k : Nat} {sp : Sp} (F : Fun K x qual st f fd) (S : FnScope N ps (defScope st)) (len : ∀ vs H Q E, sp vs H Q E → vs.length = ps.length)
    (hbody : ∀ (cdv : Value) (A : Around) (outer : List Env) (s : Shared) (H : Hp) (vs : List V) (Q : VK) (E : XK), Room k (A.deeper (envOfC qual (defScope st) s.heap.objs.size f cdv)) → sp vs H Q E →
      ∃ t, PSs (cxOf CX0 P w K mg base N qual (defScope st) f cdv A outer s H E).nox (defBody st) t ∧ t { nx := fun _ H' => Q .non H', rt := Q } (start N vs) H) : FnOk P w K mg base CX0 (k + 1) f fd ps sp := by
  obtain ⟨oc, od, kV, doc, pm, an, cdv, ct, osl, rfl, lk, hcd⟩ := F.ex
  refine fn_of lk hcd S len fun A outer s H vs Q E hr hsp => ?_
  obtain ⟨t, h, q⟩ := hbody cdv A outer s H vs Q E hr hsp
  exact ⟨t, h.nox, q⟩
theorem Fun.binds {x qual : Str} {st : Stmt} {f : Addr} {fd : FuncData} {ps : List Str} (F : Fun K x qual st f fd)
    (h : ∀ (kV doc pm : Value) (an : Option Addr) (cdv ct : Value) (us : List Value), us.length = ps.length → bindArgs (PySem.W.fnOf x qual (defArgs st) (defBody st) (defScope st) .none kV doc pm an cdv ct) ⟨us, []⟩ = pure (ps.zip us)) : Binds K fd ps [] := by
  obtain ⟨oc, od, kV, doc, pm, an, cdv, ct, osl, rfl, lk, hcd⟩ := F.ex
  exact .all (h kV doc pm an cdv ct)
theorem fun_mk {x qual : Str} {st : Stmt} {f : Addr} {oc : Value} {od an : Option Addr} {osl : Array (Option Value)} {kV doc pm cdv ct : Value} (l : K.lookup f = some ⟨oc, od, .func (PySem.W.fnOf x qual (defArgs st) (defBody st) (defScope st) .none kV doc pm an cdv ct), osl⟩)
    (c : PySem.W.codeIn K cdv qual = true) (k : PySem.W.keepIn K (.ref f) = true) : Fun K x qual st f (PySem.W.fnOf x qual (defArgs st) (defBody st) (defScope st) .none kV doc pm an cdv ct) := ⟨⟨oc, od, kV, doc, pm, an, cdv, ct, osl, rfl, l, c⟩, k⟩
end
theorem hu_of {A : Around} {k : Nat} (hr : Room k A) : A.units + 1 < cLine := Nat.lt_of_le_of_lt (Nat.add_le_add_left (by decide : 1 ≤ 64) _) hr.units
section
variable {X : Cx}
theorem pv (i : Nat) {x : Str} {pos : Pos} (hN : X.N[i]? = some x := by rfl) (hv : Vis X.env.scope x := by first | exact Or.inl rfl | exact Or.inr (Or.inl rfl) | exact Or.inr (Or.inr rfl)) (hd : (x == ("__debug__" : Str)) = false := by decide)
    (hcd : (x == ("__classdict__" : Str)) = false := by decide) : PE X (.Name x pos) (tVar i) := pe_var hN hv hd hcd
end
theorem iteF {A B : Prop} (h : B) : if false = true then A else B := by
  rw [if_neg Bool.false_ne_true]
  exact h
theorem iteT {A B : Prop} (h : A) : if true = true then A else B := by
  rw [if_pos rfl]
  exact h
theorem ite2 {c A B : Prop} [Decidable c] (h1 : c → A) (h2 : ¬ c → B) : if c then A else B := by
  by_cases h : c
  · rw [if_pos h]
    exact h1 h
  · rw [if_neg h]
    exact h2 h
theorem iteNS {c A B : Prop} [Decidable c] (hc : c) (h : B) : if (!decide c) = true then A else B := by
  rw [decide_eq_true hc]
  exact iteF h
def Same (H H' : Hp) : Prop := ∀ b o, H b = some o → H' b = some o
theorem Same.refl (H : Hp) : Same H H := fun _ _ h => h
theorem Same.trans {H H1 H2 : Hp} (a : Same H H1) (b : Same H1 H2) : Same H H2 := fun c o h => b c o (a c o h)
theorem Same.free {H H' : Hp} (e : Same H H') {l : Addr} (h : H' l = Option.none) : H l = Option.none := by
  cases q : H l with
  | none => rfl
  | some o =>
    rw [e l o q] at h
    cases h
theorem Same.seq {K : PySem.W.Frag} {H H' : Hp} {a : Addr} {xs : List V} (e : Same H H') (h : SqL K H a xs) : SqL K H' a xs := by
  rcases h with (h | ⟨o, h⟩) | h
  · exact .inl (.inl (e _ _ h))
  · exact .inl (.inr ⟨o, e _ _ h⟩)
  · exact .inr h
end L2
set_option Elab.async false
set_option linter.all false
set_option maxRecDepth 100000
set_option maxHeartbeats 4000000
namespace L2
open PySem PySem.Spec PyProof.Rows
section
variable {prog : Program} {w : World} {A : Around} {R : Result → Shared → Prop} {s : Shared}
theorem compLoop_go {elt target iter : Expr} {scope : Scope} {pos : Pos} {it acc : Value} {env : Env} (I : Nat → Shared → Prop)
    (turn : ∀ n s, I n s → wpAny (model prog w) A (pyNext it) (fun r s₁ => match r with
      | none => R (.ok .next) s₁
      | some v => wpAny (model prog w) A (letOwnedTupleGo target it v) (fun _ s₀ => wpAny (model prog w) A (assign target env v) (fun _ s₂ => wpAny (model prog w) A (eval elt env) (fun x s₃ =>
          wpAny (model prog w) A (call (.builtin "list.append") [acc, x]) (fun _ s₄ => ∃ m, m < n ∧ I m s₄) (fun _ _ => False) s₃) (fun _ _ => False) s₂) (fun _ _ => False) s₀) (fun _ _ => False) s₁) (fun _ _ => False) s)
    (n : Nat) (h : I n s) : codeAny (model prog w) A (.compLoop (.ListComp elt [⟨target, iter, [], 0⟩] scope pos) 0 it acc env) R s := by
  refine codeAny_loop rfl I (fun n s hI => ?_) n h
  show wpAny _ _ ((compTurn (.ListComp elt [⟨target, iter, [], 0⟩] scope pos) 0 it acc env).onRaise (fun x => do noteFrame x env; theTreesLotGoes x)) _ _ s
  refine wpAny_noted ?_
  rw [compTurn_list1]
  refine wpAny_bind (wpAny_standAt (wpAny_bind (wpAny_mono (turn n s hI) (fun r s₁ h₁ => ?_) fun _ _ h' => h'.elim)))
  cases r with
  | none => exact wpAny_pure h₁
  | some v =>
    refine wpAny_bind (wpAny_mono h₁ (fun _ s₀ h₀ => ?_) fun _ _ h' => h'.elim)
    exact wpAny_bind (wpAny_mono h₀ (fun _ s₂ h₂ => wpAny_bind (wpAny_bind (wpAny_mono h₂ (fun x s₃ h₃ => wpAny_bind (wpAny_mono h₃
      (fun _ s₄ h₄ => wpAny_pure (wpAny_pure ⟨rfl, h₄⟩)) fun _ _ h' => h'.elim)) fun _ _ h' => h'.elim))) fun _ _ h' => h'.elim)
end
def cxComp (X : Cx) (Nc : List Str) (scope : Scope) (cl : List (Str × Addr)) (C : Addr) (s : Shared) (H : Hp) (ex : List Addr) : Cx where
  prog := X.prog
  w := X.w
  K := X.K
  mg := X.mg
  base := X.base
  A := X.A
  N := Nc
  s₀ := s
  H₀ := H
  env := compEnvC scope cl C X.env
  outer := X.stack
  stack := X.stack
  ex := ex
  fn := fun _ => false
  calm := X.calm
  pn := []
  xe := fun _ _ => False
def CompGo (te : TE) (fv : St) (Q : VK) (J : It) (H1 : Hp) : Prop := ∃ W : Nat → Nat → List V → Hp → Prop, (∃ m, W 0 m [] H1) ∧ ∀ i m ys H2, W i m ys H2 →
  (J.stop i H2 ∧ ys.length ≤ sizeLine ∧ ∀ D, H2 D = none → Q (.ref D) (upd H2 D (.lst ys))) ∨
  (J.go i H2 ∧ ys.length < sizeLine ∧ ∀ x H3, J.yld i H2 x H3 → te (some x :: fv) H3 fun y H4 => ∃ m', m' < m ∧ W (i + 1) m' (ys ++ [y]) H4)
def tComp (wi : TI) (fv : St → St) (te : TE) : TE := fun σ H Q => wi σ H (CompGo te (fv σ) Q)
structure CompScope (X : Cx) (x : Str) (fns : List Str) (ixs : List Nat) (scope : Scope) (cl : List (Str × Addr)) : Prop where
  clos : closureFor scope X.env = pure cl
  sub : ∀ y c, cl.lookup y = some c → X.env.cells.lookup y = some c
  cell : ∀ y ∈ scope.names, y.2 ≠ .cell
  kind : scope.kind = .function
  names : ∀ y ∈ scope.names, y.2 = .local → scope.names.lookup y.1 = some .local
  own : scope.names.lookup x = some .local
  has : ∀ y, ((relabel scope X.env).names.lookup y = some .cell ∨ (relabel scope X.env).names.lookup y = some .free) → ∃ c, cl.lookup y = some c
  nd : (x :: fns).Nodup
  len : ixs.length = fns.length
  at_ : ∀ (j : Nat) (y : Str), fns[j]? = some y → ∃ i : Nat, ixs[j]? = some i ∧ X.N[i]? = some y ∧ (X.env.kindOf y = some .cell ∨ X.env.kindOf y = some .free) ∧ ∃ c, cl.lookup y = some c ∧ ((relabel scope X.env).names.lookup y = some .cell ∨ (relabel scope X.env).names.lookup y = some .free)
def fvOf (ixs : List Nat) : St → St := fun σ => ixs.map fun i => (σ[i]?).join
section
variable {X : Cx} {elt iter : Expr} {x : Str} {px pos : Pos} {scope : Scope} {cl : List (Str × Addr)} {fns : List Str} {ixs : List Nat} {wi : TI} {te : TE}
theorem relabel_own (hx : scope.names.lookup x = some .local) : (relabel scope X.env).names.lookup x = some .local := lookup_relabel_local hx
theorem pe_comp (hc : X.calm = true) (hi : PI X (.Name x px) iter wi) (S : CompScope X x fns ixs scope cl)
    (he : ∀ (C : Addr) (s : Shared) (H : Hp) (ex : List Addr), PE (cxComp X (x :: fns) scope cl C s H ex) elt te)
    (hs : ∀ x, foldedSetIterable iter X.env x = pure x := by intro _; rfl) :
    PE X (.ListComp elt [⟨.Name x px, iter, [], 0⟩] scope pos) (tComp wi (fvOf ixs) te) := by
  intro pins s σ H Q I h
  rw [eval_ListComp]
  refine wpAny_comprehension_free (use := none) rfl hs S.clos S.kind S.names (thn (hi pins s σ H _ I h) fun v s1 h1 => thn h1 fun itv s2 h2 => ?_)
  obtain ⟨it, fp, tn, J, H2, e, I2, T, st2, f2, W, ⟨m0, w0⟩, turn⟩ := h2
  subst e
  have hfpLt : ∀ b ∈ fp, b < s2.heap.objs.size := fun b hb => by
    obtain ⟨o, ho, _⟩ := T.obj _ _ st2 b hb
    exact Heap.lt_size ho
  refine wpAny_newObj_type (wpAny_newFunctionEnv S.cell (by intro y hy; simp at hy) (fun h₁ hns₁ hsb₁ => ?_) S.kind)
  dsimp only at hns₁ hsb₁ ⊢
  generalize hH3 : s2.heap.push { cls := .type "list", dict := none, data := .seq ([] : List Value).toArray } = hp3 at hns₁ hsb₁ ⊢
  generalize hD : s2.heap.objs.size = D at hfpLt ⊢
  have hC : hp3.objs.size = D + 1 := by rw [← hH3, Heap.size_push, hD]
  generalize hCe : hp3.objs.size = C at hC hns₁ hsb₁ ⊢
  have hDltC : D < C := by omega
  have hDC : D ≠ C := Nat.ne_of_lt hDltC
  have k23 : ∀ b u, s2.heap.get? b = some u → hp3.get? b = some u := fun b u q => by rw [← hH3]; exact Heap.get?_push_of_some _ q
  have ltD : ∀ {b u}, s2.heap.get? b = some u → b < D := fun q => by rw [← hD]; exact Heap.lt_size q
  have k34 : ∀ b u, hp3.get? b = some u → h₁.get? b = some u := fun b u q =>
    hsb₁.extBut b u (Nat.ne_of_lt (Nat.lt_of_lt_of_le (Heap.lt_size q) (Nat.le_of_eq hCe))) (Heap.get?_push_of_some _ q)
  have hDo : hp3.get? D = some { cls := .type "list", dict := none, data := .seq ([] : List Value).toArray } := by rw [← hH3, ← hD]; exact Heap.get?_push_size _ rfl
  have I3 : Inv X pins σ H2 { s2 with heap := hp3 } := I2.kept (t' := s2.toks) k23
  have hnD : H2 D = none := I2.hok.fresh (by omega)
  have hnC : H2 C = none := I2.hok.fresh (by omega)
  have nstk : ∀ b ∈ D :: fp, b ∉ frs X.stack := fun b hb z => by
    rcases List.mem_cons.mp (I2.stkSub b z) with e | z
    · rcases List.mem_cons.mp hb with e2 | hb
      · exact absurd I2.lt (by rw [← e, e2, ← hD]; exact Nat.lt_irrefl _)
      · exact (f2 b hb).2.1 e
    · rcases List.mem_cons.mp hb with e2 | hb
      · exact I2.nofs (by rw [e2, ← hD]; exact Nat.le_refl _) z
      · exact (f2 b hb).2.2.1 z
  have cne : ∀ y c, cl.lookup y = some c → ∀ b ∈ D :: fp, c ≠ b := fun y c q b hb z => by
    obtain ⟨v, hv⟩ := I2.cell y c (S.sub y c q)
    rcases List.mem_cons.mp hb with e2 | hb
    · exact absurd hv.lt (by rw [z, e2, ← hD]; exact Nat.lt_irrefl _)
    · exact (f2 b hb).2.2.2.2.1 y c (S.sub y c q) z
  -- the block's context
  let Xc : Cx := cxComp X (x :: fns) scope cl C { s2 with heap := hp3 } H2 (D :: fp)
  have ok : Xc.Ok := {
    mod := I2.ok.mod
    kind := S.kind
    glob := I2.ok.glob
    blt := I2.ok.blt
    above := by show hp3.objs.size ≤ C; omega
    inj := fun y z c q1 q2 => I2.ok.inj y z c (S.sub _ _ q1) (S.sub _ _ q2)
    has := S.has
    cab := fun y c q => nomatch q
    hd := I2.ok.hd
    frames := I2.ok.frames
    stk := .inl rfl
    exf := fun b hb => ⟨by
      rcases List.mem_cons.mp hb with e2 | hb
      · rw [e2]; exact hDC
      · exact Nat.ne_of_lt (Nat.lt_trans (hfpLt b hb) hDltC), fun y c q => cne y c q b hb⟩
    bs := I3.bs
    bsz := Nat.le_trans I3.ok.bsz I3.sz
    noex := fun b o q hb => by
      rcases List.mem_cons.mp hb with e2 | hb
      · exact absurd (ltD (I2.bs b o q).1) (by rw [e2]; exact Nat.lt_irrefl _)
      · rcases (f2 b hb).2.2.2.1 with z | z
        · exact I2.ok.noex b o q z
        · exact absurd (Heap.lt_size (I2.ok.bs b o q).1) (Nat.not_lt.mpr z)
    exfs := nstk
    funs := I3.stack
    frf := I3.stkFree }
  have start : ∀ (v0 : Option V) , v0 = none → Inv Xc [(D, { cls := .type "list", dict := none, data := .seq ([] : List Value).toArray })] (v0 :: fvOf ixs σ) H2 { s2 with heap := h₁, toks := s2.toks + ([] : List (Str × Value)).length } := fun v0 hv0 => {
    ok := ok
    os := rfl
    bare := I2.bare
    base := Un.kept k34
    loc := ⟨_, hns₁, fun i y v e1 e2 e3 => by
      cases i with
      | zero => rw [hv0] at e2; cases e2
      | succ j =>
        have e1' : fns[j]? = some y := e1
        have e2' : (fvOf ixs σ)[j]? = some (some v) := e2
        obtain ⟨i, hi1, hi2, hk, c, hc1, hc2⟩ := S.at_ j y e1'
        unfold fvOf at e2'
        rw [List.getElem?_map, hi1] at e2'
        have e3' : σ[i]? = some (some v) := by
          have z : (σ[i]?).join = some v := Option.some.inj e2'
          cases q : σ[i]? with
          | none => rw [q] at z; cases z
          | some o => rw [q] at z; rw [show o = some v from z]
        obtain ⟨m, _, hl⟩ := I2.loc
        obtain ⟨u, r, l⟩ := hl i y v hi2 e3' (hk.elim (fun z => .inr (.inl z)) fun z => .inr (.inr z))
        refine ⟨u, r, .inr ⟨hc2, c, hc1, ?_⟩⟩
        rcases l with ⟨z, _⟩ | ⟨_, c', hc', hcell⟩
        · rcases hk with hk | hk <;> (rw [hk] at z; cases z)
        · have : c' = c := Option.some.inj (hc'.symm.trans (S.sub _ _ hc1))
          subst this
          obtain ⟨o, ho, hd⟩ := hcell
          exact ⟨o, k34 _ _ (k23 _ _ ho), hd⟩⟩
    cell := fun y c q => by
      obtain ⟨v, o, ho, hd⟩ := I2.cell y c (S.sub y c q)
      exact ⟨v, o, k34 _ _ (k23 _ _ ho), hd⟩
    free := hnC
    freeC := fun y c q => I2.freeC y c (S.sub y c q)
    pin := fun p hp => by
      have hp' : p = (D, { cls := .type "list", dict := none, data := .seq ([] : List Value).toArray }) := by simpa [Xc, cxComp] using hp
      subst hp'
      exact ⟨k34 _ _ hDo, hnD, hDC, nstk D (List.mem_cons_self ..), fun v z => nomatch z⟩
    hok := (I2.hok.kept k23).kept k34
    len := by show (v0 :: fvOf ixs σ).length = (x :: fns).length; simp [fvOf, S.len] }
  -- what stays true of the iterator's objects
  have fpc : ∀ {H' : Hp} {pins' : List (Addr × Obj)}, (∀ b ∈ fp, H' b = none) → (∀ p ∈ pins', p.1 = D) → ∀ b ∈ fp, FpOk Xc pins' H' b := fun {H' pins'} hn hp b hb =>
    ⟨hn b hb, Nat.ne_of_lt (Nat.lt_trans (hfpLt b hb) hDltC), nstk b (List.mem_cons_of_mem _ hb), .inl (List.mem_cons_of_mem _ hb), fun y c q => cne y c q b (List.mem_cons_of_mem _ hb), fun p q => by
      have q' : p ∈ pins' := by simpa [Xc, cxComp] using q
      rw [hp p q']
      exact Nat.ne_of_gt (hfpLt b hb)⟩
  have loop : codeAny (model X.prog X.w) X.A (.compLoop (.ListComp elt [⟨.Name x px, iter, [], 0⟩] scope pos) 0 (.ref it) (.ref D) (compEnvC scope cl C X.env))
      (compPost (model X.prog X.w) X.A X.xe none (EP X pins σ Q) (.ref D) C) { s2 with heap := h₁, toks := s2.toks + ([] : List (Str × Value)).length } := by
    refine compLoop_go (fun n s' => ∃ (i : Nat) (ys : List V) (its : List Value) (nn : Nat) (v0 : Option V) (H' : Hp), Inv Xc [(D, { cls := .type "list", dict := none, data := .seq its.toArray nn })] (v0 :: fvOf ixs σ) H' s' ∧ tn i s'.heap ∧ (∀ b ∈ fp, H' b = none) ∧ Vals ys its ∧ W i n ys H') ?_ m0
      ⟨0, [], [], 0, none, H2, start none rfl, T.keep _ _ _ st2 fun b _ o q => k34 _ _ (k23 _ _ q), fun b hb => (f2 b hb).1, .nil, w0⟩
    rintro n s3 ⟨i, ys, its, nn, v0, H3, J3, tn3, fr3, vv, w3⟩
    have pinD : ∀ p ∈ ([(D, ({ cls := .type "list", dict := none, data := .seq its.toArray nn } : Obj))] : List (Addr × Obj)), p.1 = D := fun p hp => by
      have : p = (D, { cls := .type "list", dict := none, data := .seq its.toArray nn }) := by simpa using hp
      rw [this]
    rcases turn i n ys H3 w3 with ⟨stop, hlen, q⟩ | ⟨go, hlen, step⟩
    · -- the end
      refine thn (T.done Xc rfl rfl rfl hc i _ s3 _ H3 _ J3 (fpc fr3 pinD) tn3 stop) fun r s4 ⟨hr, J4⟩ => ?_
      subst hr
      obtain ⟨m, hn, _⟩ := J4.loc
      refine ⟨m, hn, fun h'' hsb => ?_⟩
      obtain ⟨gD, nD, _, _, _⟩ := J4.pin (D, { cls := .type "list", dict := none, data := .seq its.toArray nn }) (by simp [Xc, cxComp])
      have B := J4.base
      have kC : ∀ b u, b ≠ C → s4.heap.get? b = some u → h''.get? b = some u := fun b u hb q => (hsb.2 b hb).trans q
      have ne : ∀ {b o}, s2.heap.get? b = some o → b ≠ C ∧ b ≠ D := fun q => ⟨Nat.ne_of_lt (Nat.lt_trans (ltD q) hDltC), Nat.ne_of_lt (ltD q)⟩
      have nex : ∀ {b o}, s2.heap.get? b = some o → b ∉ fp → b ∉ D :: fp := fun q hx z => (List.mem_cons.mp z).elim (ne q).2 hx
      have uu : Un (frs X.stack) fp H2 (upd H3 D (.lst ys)) s2.heap h'' := {
        keep := fun b o q n hb hx => kC b o (ne q).1 (B.keep b o (k23 b o q) n hb (nex q hx))
        slot := fun b o q n hb hx => by
          obtain ⟨sl, e⟩ := B.slot b o (k23 b o q) n hb (nex q hx)
          exact ⟨sl, kC b _ (ne q).1 e⟩
        free := fun b o q n hx => by rw [upd_ne (ne q).2]; exact B.free b o (k23 b o q) n (nex q hx)
        there := fun b o q hx => by
          obtain ⟨o', e⟩ := B.there b o (k23 b o q) (nex q hx)
          exact ⟨o', kC b _ (ne q).1 e⟩
        tups := fun b xs q => by rw [upd_ne (ne_of_none q hnD)]; exact B.tups b xs q
        frzs := fun b o xs q => by rw [upd_ne (ne_of_none q hnD)]; exact B.frzs b o xs q
        tbls := fun b ps q => by
          obtain ⟨more, e⟩ := B.tbls b ps q
          exact ⟨more, by rw [upd_ne (ne_of_none q hnD)]; exact e⟩ }
      have hok : HOk X.prog X.w (upd H3 D (.lst ys)) h'' := fun b u e => by
        by_cases hb : b = D
        · subst hb
          rw [upd_same] at e
          cases e
          exact ⟨hlen, its, nn, vv, kC _ _ hDC gD⟩
        · rw [upd_ne hb] at e
          refine (J4.hok b u e).stay (fun c v hc q => kC c v ?_ q) (fun c q => by rw [upd_ne (ne_of_none q nD)]; exact q) fun c xs q => by rw [upd_ne (ne_of_none q nD)]; exact q
          have fC : H3 C = none := J4.free
          rcases hc with rfl | hc
          · exact ne_of_none e fC
          · exact ne_of_none hc fC
      exact ⟨.ref D, _, I2.call' (s' := { s4 with heap := h'' }) J4.os uu hok J4.bare (fun b hb => ⟨(f2 b hb).2.2.2.1, (f2 b hb).2.1, (f2 b hb).2.2.2.2.1, (f2 b hb).2.2.2.2.2⟩), rfl, q D nD⟩
    · -- a turn
      refine thn (T.item Xc rfl rfl rfl hc i _ s3 _ H3 _ J3 (fpc fr3 pinD) tn3 go) fun r s4 ⟨u, hr, h4⟩ => ?_
      subst hr
      refine thn h4 fun _ s5 ⟨xv, H5, J5, r5, y5, tn5, fr5⟩ => ?_
      have J5' := J5.pinned (fpc fr5 pinD) (T.obj _ _ tn5)
      have hg : PG Xc (.Name x px) (gName 0) := pg_name (X := Xc) (i := 0) S.nd rfl (.inl (relabel_own S.own)) (.inr (relabel_own S.own))
      refine thn (hg _ s5 _ H5 xv u (fun σ' H' => σ' = some xv :: fvOf ixs σ ∧ H' = H5) J5' r5 ⟨rfl, rfl⟩) fun _ s6 ⟨σ6, H6, J6, e6, e6'⟩ => ?_
      subst e6 e6'
      refine thn (he C { s2 with heap := hp3 } H2 (D :: fp) _ s6 _ H6 _ J6 (step xv H6 y5)) fun yv s7 ⟨y, H7, J7, r7, m', hm', w7⟩ => ?_
      obtain ⟨gD, nD, _, _, _⟩ := J7.pin (D, { cls := .type "list", dict := none, data := .seq its.toArray nn }) (by simp [Xc, cxComp])
      have tn7 : tn (i + 1) s7.heap := T.keep _ _ _ tn5 fun b hb o e => (J7.pin (b, o) (List.mem_append_right _ (List.mem_append_right _ (mem_pinsAt hb e)))).1
      have fr7 : ∀ b ∈ fp, H7 b = none := fun b hb => by
        obtain ⟨o, e, d⟩ := T.obj _ _ tn5 b hb
        exact (J7.pin (b, o) (List.mem_append_right _ (List.mem_append_right _ (mem_pinsAt hb e)))).2.1
      have J7' : Inv Xc [] (some xv :: fvOf ixs σ) H7 s7 := J7.pins_of fun p hp => nomatch hp
      refine wpAny_list_append_plain (hsz := by rw [List.size_toArray, ← vv.length]; omega) ⟨nn, gD⟩ fun h8 pl8 sb8 => ?_
      obtain ⟨n8, g8⟩ := pl8
      have J8 : Inv Xc [] (some xv :: fvOf ixs σ) H7 { s7 with heap := h8 } := J7'.turned (t' := s7.toks) (it := D) (fun b o hb e => (sb8.2 b hb).trans e) nD (hDC) (.inl (List.mem_cons_self ..))
        (fun y c q => cne y c q D (List.mem_cons_self ..)) (fun p hp => by simp [Xc, cxComp] at hp)
      refine ⟨m', hm', i + 1, ys ++ [y], its ++ [yv], n8, some xv, H7, J8.pins_of fun p hp => ?_, ?_, fr7, vv.append (.cons r7 .nil), w7⟩
      · have : p = (D, { cls := .type "list", dict := none, data := .seq (its ++ [yv]).toArray n8 }) := by simpa using hp
        subst this
        refine ⟨?_, nD, hDC, nstk D (List.mem_cons_self ..), fun v z => nomatch z⟩
        have : its.toArray.push yv = (its ++ [yv]).toArray := by simp
        rw [this] at g8
        exact g8
      · exact T.keep _ _ _ tn7 fun b hb o e => (sb8.2 b (Nat.ne_of_lt (hfpLt b hb))).trans e
  exact codeAny_compStart_list loop (T.self _ 0 _ _ _ (T.keep _ _ _ st2 fun b _ o q => k34 _ _ (k23 _ _ q)) loop)
end
theorem compScope0 {X : Cx} {x : Str} {scope : Scope} (hf : ∀ y ∈ scope.names, y.2 ≠ .free) (hc : ∀ y ∈ scope.names, y.2 ≠ .cell) (hk : scope.kind = .function)
    (hn : ∀ y ∈ scope.names, y.2 = .local → scope.names.lookup y.1 = some .local) (hx : scope.names.lookup x = some .local) : CompScope X x [] [] scope [] where
  clos := closureFor_none hf
  sub := fun y c h => nomatch h
  cell := hc
  kind := hk
  names := hn
  own := hx
  has := fun y h => by
    have e : (relabel scope X.env).names = scope.names := by
      unfold relabel
      refine map_eq_self fun z hz => ?_
      obtain ⟨n, k⟩ := z
      have : (k == NameKind.free) = false := by simpa using hf _ hz
      simp [this]
    rw [e] at h
    rcases h with h | h
    · exact absurd rfl (hc _ (PySem.mem_of_lookup h))
    · exact absurd rfl (hf _ (PySem.mem_of_lookup h))
  nd := by simp
  len := rfl
  at_ := fun j y h => by simp at h
theorem comp_pure {J : It} {H1 : Hp} {fv : St} {te : TE} {Q : VK} (xs : List V) (g : V → V) (hgo : ∀ i : Nat, i < xs.length → J.go i H1) (hy : ∀ (i : Nat) (x : V) (H3 : Hp), i < xs.length → J.yld i H1 x H3 → H3 = H1 ∧ xs[i]? = some x)
    (hst : J.stop xs.length H1) (hfit : xs.length ≤ sizeLine) (he : ∀ (i : Nat) (x : V), xs[i]? = some x → ∀ R : VK, R (g x) H1 → te (some x :: fv) H1 R) (hQ : ∀ D, H1 D = none → Q (.ref D) (upd H1 D (.lst (xs.map g)))) :
    CompGo te fv Q J H1 := by
  refine ⟨fun i m ys H2 => m = xs.length - i ∧ i ≤ xs.length ∧ ys = (xs.take i).map g ∧ H2 = H1, ⟨xs.length, by simp, Nat.zero_le _, by simp, rfl⟩, ?_⟩
  rintro i m ys H2 ⟨rfl, hi, rfl, rfl⟩
  by_cases hlt : i < xs.length
  · refine .inr ⟨hgo i hlt, by rw [List.length_map, List.length_take]; omega, fun x H3 hyl => ?_⟩
    obtain ⟨e3, hx⟩ := hy i x H3 hlt hyl
    subst e3
    refine he i x hx _ ⟨xs.length - (i + 1), by omega, rfl, hlt, ?_, rfl⟩
    rw [List.take_succ, hx]
    simp
  · have e : i = xs.length := by omega
    subst e
    refine .inl ⟨hst, by rw [List.length_map, List.length_take]; omega, fun D hD => ?_⟩
    rw [List.take_length]
    exact hQ D hD
def negV : V → V
  | .int z => .int (-z)
  | v => v
theorem itl_go {K : PySem.W.Frag} {H : Hp} {a : Addr} {xs : List V} (h : SqL K H a xs) : ∀ i, i < xs.length → (Itl K a).go i H := fun i hi => ⟨xs, xs[i], h, List.getElem?_eq_getElem hi⟩
theorem itl_yld {K : PySem.W.Frag} {H : Hp} {a : Addr} {xs : List V} (h : SqL K H a xs) : ∀ i x H3, i < xs.length → (Itl K a).yld i H x H3 → H3 = H ∧ xs[i]? = some x := fun i x H3 _ y => ⟨y.1, y.2 xs h⟩
theorem itl_stop {K : PySem.W.Frag} {H : Hp} {a : Addr} {xs : List V} (h : SqL K H a xs) : (Itl K a).stop xs.length H := ⟨xs, h, Nat.le_refl _⟩
def tCut (t : TS) : TS := fun D σ H => ∃ G : St → Hp → Prop, t { D with nx := G } σ H ∧ ∀ σ' H', G σ' H' → D.nx σ' H'
theorem ps_cut {X : Cx} {st : Stmt} {t : TS} (h : PS X st t) : PS X st (tCut t) := by
  intro pins s σ H D I ⟨G, h1, h2⟩
  refine thn (h pins s σ H { D with nx := G } I h1) fun f s' q => ?_
  cases f with
  | next => obtain ⟨σ', H', I', g⟩ := q; exact ⟨σ', H', I', h2 σ' H' g⟩
  | _ => exact q
theorem relabel_mem {scope : Scope} {env : Env} {y : Str} {k : NameKind} (h : (relabel scope env).names.lookup y = some k) (hk : k = .cell ∨ k = .free) (hc : ∀ z ∈ scope.names, z.2 ≠ .cell) : (y, NameKind.free) ∈ scope.names := by
  have hm := PySem.mem_of_lookup h
  unfold relabel at hm
  obtain ⟨⟨n, k'⟩, hz, e⟩ := List.mem_map.mp hm
  dsimp only at e
  by_cases hf : (k' == NameKind.free && env.scope.kind == .function && env.kindOf n == some .cell) = true
  · rw [if_pos hf] at e
    have e1 : n = y := congrArg Prod.fst e
    rw [Bool.and_eq_true, Bool.and_eq_true] at hf
    have e2 : k' = .free := eq_of_beq hf.1.1
    rw [← e1, ← e2]
    exact hz
  · rw [if_neg hf] at e
    have e1 : n = y := congrArg Prod.fst e
    have e2 : k' = k := congrArg Prod.snd e
    subst e1 e2
    rcases hk with rfl | rfl
    · exact absurd rfl (hc _ hz)
    · exact hz
theorem lookup_relabel_free {env : Env} (hf : env.scope.kind = .function) {y : Str} (hy : env.kindOf y = some .cell) : ∀ {names : List (Str × NameKind)}, names.lookup y = some .free →
    (names.map fun (n, k) => if (k == NameKind.free && env.scope.kind == .function && env.kindOf n == some .cell) then (n, NameKind.cell) else (n, k)).lookup y = some .cell
  | [], h => by simp at h
  | (n, k) :: r, h => by
    have ih := @lookup_relabel_free env hf y hy r
    show List.lookup y ((if (k == NameKind.free && env.scope.kind == .function && env.kindOf n == some .cell) = true then (n, NameKind.cell) else (n, k)) :: _) = _
    cases hx : y == n with
    | true =>
      simp only [List.lookup_cons, hx] at h
      have e : y = n := eq_of_beq hx
      subst e
      cases h
      have hc : (NameKind.free == NameKind.free && env.scope.kind == .function && env.kindOf y == some .cell) = true := by rw [hf, hy]; rfl
      rw [if_pos hc]
      simp only [List.lookup_cons, hx]
    | false =>
      simp only [List.lookup_cons, hx] at h
      by_cases hc : (k == NameKind.free && env.scope.kind == .function && env.kindOf n == some .cell) = true
      · rw [if_pos hc]; simp only [List.lookup_cons, hx]; exact ih h
      · rw [if_neg hc]; simp only [List.lookup_cons, hx]; exact ih h
theorem compScope1 {X : Cx} {x y : Str} {scope : Scope} {c : Addr} {i : Nat} (hclos : closureFor scope X.env = pure [(y, c)]) (hy : X.env.cells.lookup y = some c) (hc : ∀ z ∈ scope.names, z.2 ≠ .cell) (hk : scope.kind = .function)
    (hn : ∀ z ∈ scope.names, z.2 = .local → scope.names.lookup z.1 = some .local) (hx : scope.names.lookup x = some .local) (hfree : ∀ z ∈ scope.names, z.2 = .free → z.1 = y) (hxy : x ≠ y) (hi : X.N[i]? = some y)
    (hky : X.env.kindOf y = some .cell) (hkf : X.env.scope.kind = .function) (hys : scope.names.lookup y = some .free) : CompScope X x [y] [i] scope [(y, c)] where
  clos := hclos
  sub := fun z d h => by
    by_cases e : z = y
    · subst e
      have : c = d := by simpa [List.lookup_cons] using h
      rw [← this]
      exact hy
    · have hb : (z == y) = false := beq_eq_false_iff_ne.mpr e
      simp [List.lookup_cons, hb] at h
  cell := hc
  kind := hk
  names := hn
  own := hx
  has := fun z h => by
    have e : z = y := by
      rcases h with h | h
      · exact hfree _ (relabel_mem h (.inl rfl) hc) rfl
      · exact hfree _ (relabel_mem h (.inr rfl) hc) rfl
    subst e
    exact ⟨c, by simp [List.lookup_cons]⟩
  nd := by simp [hxy]
  len := rfl
  at_ := fun j z h => by
    cases j with
    | zero =>
      have e : y = z := by simpa using h
      subst e
      exact ⟨i, rfl, hi, .inl hky, c, by simp [List.lookup_cons], .inl (lookup_relabel_free hkf hky hys)⟩
    | succ j => simp at h
end L2
set_option Elab.async false
set_option linter.all false
set_option maxRecDepth 100000
set_option maxHeartbeats 4000000
namespace L2
open PySem PySem.Spec PyProof.Rows
namespace Rv
theorem owner_rv : Manifest.owners.lookup (String.ofList ['d', 'e', 's', 'r', 'e', 'v', 'e', 'r'].reverse) = some Manifest.sig_reversed := by kernel_rfl
theorem slot_next : Slot "reversed" "__next__" "reversed.__next__" :=
  .of (owner := "reversed") (n := "__next__") (by rw [typeLookup_type, builtinLookup_eq_fast]; kernel_rfl) (by decide +kernel) (by decide +kernel) (by decide +kernel)
    (by first | exact .inl (by decide +kernel) | exact .inr (by decide +kernel)) (by rw [isSubtype_type]; kernel_rfl)
theorem entry_next : entryFor table "reversed.__next__" = some Builtin.«reversed.__next__» := entryFor_of_tree (by kernel_rfl)
theorem args_next (a : Value) : argsOk "reversed.__next__" ⟨[a], []⟩ := by
  unfold argsOk; rw [signature?_of (id := "reversed.__next__") (n := ['_', '_', 't', 'x', 'e', 'n', '_', '_']) (o := ['d', 'e', 's', 'r', 'e', 'v', 'e', 'r']) (by kernel_rfl) owner_rv]; kernel_rfl
theorem slot_iter : Slot "reversed" "__iter__" "reversed.__iter__" :=
  .of (owner := "reversed") (n := "__iter__") (by rw [typeLookup_type, builtinLookup_eq_fast]; kernel_rfl) (by decide +kernel) (by decide +kernel) (by decide +kernel)
    (by first | exact .inl (by decide +kernel) | exact .inr (by decide +kernel)) (by rw [isSubtype_type]; kernel_rfl)
theorem args_iter (a : Value) : argsOk "reversed.__iter__" ⟨[a], []⟩ := by
  unfold argsOk; rw [signature?_of (id := "reversed.__iter__") (n := ['_', '_', 'r', 'e', 't', 'i', '_', '_']) (o := ['d', 'e', 's', 'r', 'e', 'v', 'e', 'r']) (by kernel_rfl) owner_rv]; kernel_rfl
theorem entry_iter : entryFor table "reversed.__iter__" = some Builtin.«dict_keyiterator.__iter__» :=
  entryFor_alias (id' := "dict_keyiterator.__iter__") (by kernel_rfl) (by first | rfl | decide +kernel | (unfold String.splitOn; simp +decide [String.splitOnAux])) (by decide +kernel) (by kernel_rfl)
theorem slot_init : Slot "reversed" "__init__" "object.__init__" :=
  .of (owner := "object") (n := "__init__") (by rw [typeLookup_type, builtinLookup_eq_fast]; kernel_rfl) (by decide +kernel) (by decide +kernel) (by decide +kernel)
    (by first | exact .inl (by decide +kernel) | exact .inr (by decide +kernel)) (by rw [isSubtype_type]; kernel_rfl)
theorem called : TypeCalled "reversed" "reversed.__new__" "object.__init__" :=
  ⟨by decide +kernel, by decide +kernel, ⟨_, _, PySem.F.mro_reversed⟩, PySem.F.made_reversed, by decide +kernel, by rw [isSubtype_type]; kernel_rfl, slot_init⟩
theorem lk_rev_tuple : typeLookup (.type "tuple") "__reversed__" = pure none := by rw [typeLookup_type, builtinLookup_eq_fast]; kernel_rfl
theorem sub_td : isSubtype (.type "tuple") (.type "dict") = pure false := by rw [isSubtype_type]; kernel_rfl
def IsRv (h : Heap) (it t : Addr) (i : Int) : Prop := ∃ o, h.get? it = some o ∧ o.cls = .type "reversed" ∧ o.data = .fields #[.ref t, rawInt i]
theorem IsRv.typeIs {s : Shared} {it t : Addr} {i : Int} (x : IsRv s.heap it t i) : s.TypeIs (.ref it) "reversed" := let ⟨o, ho, hc, _⟩ := x; ⟨o, ho, hc⟩
theorem IsRv.at {h h' : Heap} {it t : Addr} {i : Int} (x : IsRv h it t i) (e : ∀ o, h.get? it = some o → h'.get? it = some o) : IsRv h' it t i := let ⟨o, ho, r⟩ := x; ⟨o, e _ ho, r⟩
section
variable {prog : Program} {w : World} {A : Around} {E : Value → Shared → Prop} {s : Shared}
theorem new_rv {t : Addr} {items : Array Value} (hfit : (items.size : Int) < 2 ^ 63) : Meets (Builtin.«reversed.__new__» ⟨[.type "reversed", .ref t], []⟩) (fun _ R s => IsTup s.heap t items ∧
    ∀ tk, R (.ok (.ret (.ref s.heap.objs.size))) { s with heap := s.heap.push { cls := .type "reversed", data := .fields #[.ref t, rawInt ((items.size : Int) - 1)] }, toks := tk }) :=
  .of_wp fun prog w A R s h => by
    obtain ⟨ht, h⟩ := h
    obtain ⟨hp, g, d, tk, os⟩ := s
    have hT := ht.typeIs
    have h1 := lk_rev_tuple
    have h2 := PyProof.Rows.slot_tuple_getitem.lookup
    have h3 := sub_td
    have h4 := PySem.F.sub_reversed_self
    wp_walk using PyProof.Rows.len_tuple ht hfit
    exact ⟨_, rfl, h _⟩
theorem call_rv {t : Addr} {items : Array Value} {Q : Value → Shared → Prop} (hfit : (items.size : Int) < 2 ^ 63) (ht : IsTup s.heap t items)
    (h : ∀ tk, Q (.ref s.heap.objs.size) { s with heap := s.heap.push { cls := .type "reversed", data := .fields #[.ref t, rawInt ((items.size : Int) - 1)] }, toks := tk }) : wpAny (model prog w) A (call (.type "reversed") [.ref t]) Q E s := by
  refine callType_new called (by decide) (PySem.F.typeCall_reversed_1 _) (PySem.F.newCall_reversed_1 _) (fun obj => PySem.F.args_object_init_2 obj _) PySem.F.entry_reversed_new (new_rv hfit) ⟨ht, fun tk => ?_⟩
  exact ⟨⟨_, Heap.get?_push_size _ rfl, rfl⟩, h tk⟩
theorem next_item {it t : Addr} {i : Nat} {items : Array Value} {x : Value} {Q : Option Value → Shared → Prop} (hit : IsRv s.heap it t (i : Int)) (ht : IsTup s.heap t items) (hx : items[i]? = some x) (hsz : items.size ≤ sizeLine)
    (hQ : ∀ h' tk, IsRv h' it t ((i : Int) - 1) → Heap.SameBut it s.heap h' → Q (some x) { s with heap := h', toks := tk }) : wpAny (model prog w) A (pyNext (.ref it)) Q E s := by
  obtain ⟨o, ho, hc, hd⟩ := id hit
  have hT := hit.typeIs
  have hi : i < items.size := (Array.getElem?_eq_some_iff.mp hx).1
  have hn := line63
  unfold pyNext
  refine wpAny_bind (wpAny_attempt (wpAny_callSpecial?_slot (name := Str.ofString "__next__") hit.typeIs slot_next
    (wpAny_call_entry slot_next hit.typeIs entry_next ?_ (args_next _))))
  unfold Builtin.«reversed.__next__»
  refine wpAny_bind (wpAny_of_eq (a := (Value.ref it, [])) rfl ?_)
  try dsimp only
  refine wpAny_bind (wpAny_field ho hd (x := .ref t) rfl ?_)
  refine wpAny_bind (wpAny_field ho hd (x := rawInt (i : Int)) rfl ?_)
  show wpAny _ _ (if (i : Int) < 0 then _ else _) _ _ s
  rw [if_neg (by omega)]
  refine wpAny_bind (wpAny_specialOf ht.typeIs PyProof.Rows.slot_tuple_getitem.lookup ?_)
  rw [if_neg (by decide)]
  refine wpAny_bind (wpAny_mkInt ?_)
  refine wpAny_bind (wpAny_attempt (PyProof.Rows.getItem_tuple (j := i) ht (by omega) (by omega) ?_ hx ?_))
  · unfold seqIndex?
    simp
    omega
  dsimp only
  refine wpAny_bind (wpAny_field ho hd (x := rawInt (i : Int)) rfl ?_)
  refine wpAny_bind (wpAny_setField ho hd (by simp) ?_)
  refine wpAny_pure ⟨x, rfl, wpAny_pure (hQ _ _ ?_ (Heap.SameBut.update ..))⟩
  exact ⟨_, Heap.get?_update_self _ ho (Obj.isFreed_of_fields (Obj.data_mapFields hd _)), (Obj.cls_mapFields ..).trans hc, by
    rw [Obj.data_mapFields hd]; simp⟩
theorem next_end {it t : Addr} {i : Int} {Q : Option Value → Shared → Prop} (hh : A.handled = none) (hit : IsRv s.heap it t i) (hi : i < 0)
    (hQ : ∀ h', Heap.ExtBut it s.heap h' → Q none { s with heap := h' }) : wpAny (model prog w) A (pyNext (.ref it)) Q E s := by
  obtain ⟨o, ho, hc, hd⟩ := id hit
  unfold pyNext
  refine wpAny_bind (wpAny_attempt (wpAny_callSpecial?_slot (name := Str.ofString "__next__") hit.typeIs slot_next
    (wpAny_call_entry slot_next hit.typeIs entry_next ?_ (args_next _))))
  unfold Builtin.«reversed.__next__»
  refine wpAny_bind (wpAny_of_eq (a := (Value.ref it, [])) rfl ?_)
  try dsimp only
  refine wpAny_bind (wpAny_field ho hd (x := .ref t) rfl ?_)
  refine wpAny_bind (wpAny_field ho hd (x := rawInt i) rfl ?_)
  show wpAny _ _ (if i < 0 then _ else _) _ _ s
  rw [if_pos hi]
  refine wpAny_bind (wpAny_rule ?_)
  refine wpAny_bind (wpAny_bind (wpAny_setField ho hd (by simp) ?_))
  have g1 := Heap.get?_update_self (Obj.mapFields (·.setIfInBounds 1 (rawInt (-1)))) ho (Obj.isFreed_of_fields (Obj.data_mapFields hd _))
  refine wpAny_setField g1 (Obj.data_mapFields hd _) (by simp) ?_
  refine wpAny_bind ?_
  show wpAny _ _ (newExc (.type "StopIteration") [] >>= _) _ _ _
  refine wpAny_bind ?_
  simp only [newExc, newTuple]
  refine wpAny_bind (wpAny_newObj_type ?_ (by size_fits))
  refine wpAny_bind (m := firstArgMember _ _) (wpAny_of_eq (a := Value.none) (by first | rfl | (simp only [firstArgMember]; rfl)) ?_)
  refine wpAny_newObj_type ?_ (by size_fits)
  simp only [raiseNew]
  refine wpAny_bind (wpAny_handled ?_)
  first | rw [show A.in1.handled = none from hh] | rw [hh]
  refine wpAny_bind (wpAny_pure (wpAny_throw ?_))
  refine wpAny_bind (wpAny_isInstance (T := "StopIteration") (b := true) ⟨_, Heap.get?_push_size _ rfl, rfl⟩ isSubtype_stop ?_)
  exact wpAny_pure (hQ _ (((((Heap.SameBut.update ..).trans (Heap.SameBut.update ..)).extBut).push _).push _))
theorem iter_self {it t : Addr} {i : Int} {Q : Value → Shared → Prop} (hit : IsRv s.heap it t i) (h : Q (.ref it) s) : wpAny (model prog w) A (pyIter (.ref it)) Q E s := by
  refine wpAny_pyIter_slot hit.typeIs slot_iter (wpAny_call_entry slot_iter hit.typeIs entry_iter ?_ (args_iter _))
  show wpAny _ _ (ret (.ref it)) _ _ s
  exact wpAny_pure ⟨_, rfl, "reversed", _, hit.typeIs, slot_next.lookup, h⟩
end
end Rv
def Itv (K : PySem.W.Frag) (a : Addr) (n : Nat) : It :=
  ⟨fun i H => i < n ∧ ∃ xs, SqT K H a xs ∧ xs.length = n, fun i H x H' => H' = H ∧ ∀ xs, SqT K H a xs → xs.reverse[i]? = some x, fun i _ => n ≤ i⟩
theorem turn_rev {P : Program} {w : World} {K : PySem.W.Frag} {tg : Expr} (a it : Addr) (n : Nat) : Turn P w K tg (Itv K a n) [it] it (fun i h => Rv.IsRv h it a ((n : Int) - 1 - (i : Int))) where
  mem := by simp
  obj := fun i h st b hb => by
    have e : b = it := by simpa using hb
    subst e
    obtain ⟨o, e, c, d⟩ := st
    exact ⟨o, e, fun v z => by rw [d] at z; cases z⟩
  keep := fun i h h' st k => st.at fun o e => k it (by simp) o e
  item := by
    intro X hP hw hK hc i pins s σ H E I hf st hg
    subst hP hw hK
    obtain ⟨hi, xs, hq, hx⟩ := hg
    subst hx
    generalize hn : xs.length = n at hi st ⊢
    obtain ⟨its, rv, p, hz⟩ := I.tuple hq
    have hl := rv.length
    obtain ⟨x, hat⟩ : ∃ x, xs[n - 1 - i]? = some x := ⟨_, List.getElem?_eq_getElem (by omega)⟩
    have hrev : xs.reverse[i]? = some x := by
      rw [List.getElem?_reverse (by omega), hn]
      exact hat
    obtain ⟨u, hu, ru⟩ := rv.get hat
    obtain ⟨f0, f1, f2, f3, f4, f5⟩ := hf it (by simp)
    have e : (n : Int) - 1 - (i : Int) = ((n - 1 - i : Nat) : Int) := by omega
    have st' := st
    rw [e] at st'
    refine Rv.next_item st' p (x := u) (by simpa using hu) (by rw [List.size_toArray]; omega) fun h' tk st2 sb => ?_
    have I1 : Inv X pins σ H { s with heap := h', toks := tk } := I.turned (t' := tk) (fun b o hb e => (sb.2 b hb).trans e) f0 f1 f3 f4 f5
    have e2 : ((n - 1 - i : Nat) : Int) - 1 = (n : Int) - 1 - ((i + 1 : Nat) : Int) := by omega
    rw [e2] at st2
    obtain ⟨o, e, c, d⟩ := id st2
    exact ⟨u, rfl, go_of (s := { s with heap := h', toks := tk }) e c d (by decide) ⟨x, H, I1, ru, ⟨rfl, fun ys hy => by rw [I.tuple_inj hy hq]; exact hrev⟩, st2, fun b hb => (hf b hb).1⟩⟩
  done := by
    intro X hP hw hK hc i pins s σ H E I hf st hg
    subst hP hw hK
    have hg' : n ≤ i := hg
    obtain ⟨f0, f1, f2, f3, f4, f5⟩ := hf it (by simp)
    exact Rv.next_end (I.ok.hd hc) st (by omega) fun h' eb => ⟨rfl, I.turned (t' := s.toks) (fun b o hb e => eb b o hb e) f0 f1 f3 f4 f5⟩
  self := fun _ _ _ _ _ st h => Rv.iter_self st h
section
variable {X : Cx} {tg : Expr}
def iRev (K : PySem.W.Frag) (ta : TA) : TI := fun σ H R => ta σ H fun vs H1 => ∃ a xs, vs = [.ref a] ∧ SqT K H1 a xs ∧ R (Itv K a xs.length) H1
theorem pi_rev {a : Expr} {ta : TA} {p pos : Pos} (hg : Gl X "reversed") (hm : X.mg "reversed" = none) (ha : PA X [a] ta) (hs : starEach [a] X.env = [(false, eval a X.env)] := by rfl) : PI X tg (.Call (.Name "reversed" p) [a] [] pos) (iRev X.K ta) := by
  intro pins s σ H R I h
  refine Call_ (ld_blt I hg hm boot_reversed (PyProof.Rows.callWith_type1 (thn (ha pos pins s σ H _ I h) fun us s1 ⟨vs, H1, I1, r1, q1⟩ => ?_) hs rfl))
  obtain ⟨t, xs, e, hq, q⟩ := q1
  subst e
  obtain ⟨u, rfl, ru⟩ := vals1 r1
  cases ru
  obtain ⟨its, rv, p1, hz⟩ := I1.tuple hq
  have hl := rv.length
  have hn := line63
  refine Rv.call_rv (by rw [List.size_toArray]; omega) p1 fun tk => ?_
  have I2 : Inv X pins σ H1 { s1 with heap := s1.heap.push { cls := .type "reversed", data := .fields #[.ref t, rawInt ((its.toArray.size : Int) - 1)] }, toks := tk } := I1.kept (t' := tk) fun b o e => Heap.get?_push_of_some _ e
  have hst : Rv.IsRv (s1.heap.push { cls := .type "reversed", data := .fields #[.ref t, rawInt ((its.toArray.size : Int) - 1)] }) s1.heap.objs.size t ((xs.length : Int) - 1 - ((0 : Nat) : Int)) :=
    ⟨_, Heap.get?_push_size _ rfl, rfl, by rw [List.size_toArray, ← hl]; simp⟩
  refine Rv.iter_self hst ⟨s1.heap.objs.size, [s1.heap.objs.size], _, _, H1, rfl, I2, turn_rev t _ xs.length, hst, fun b hb => ?_, q⟩
  have e : b = s1.heap.objs.size := by simpa using hb
  subst e
  exact I1.fpOk (Nat.le_refl _) (I1.hok.fresh (Nat.le_refl _))
end
theorem itv_go {K : PySem.W.Frag} {H : Hp} {a : Addr} {xs : List V} (h : SqT K H a xs) : ∀ i, i < xs.reverse.length → (Itv K a xs.length).go i H := fun i hi => ⟨by rwa [List.length_reverse] at hi, xs, h, rfl⟩
theorem itv_yld {K : PySem.W.Frag} {H : Hp} {a : Addr} {xs : List V} (h : SqT K H a xs) : ∀ i x H3, i < xs.reverse.length → (Itv K a xs.length).yld i H x H3 → H3 = H ∧ xs.reverse[i]? = some x := fun i x H3 _ y => ⟨y.1, y.2 xs h⟩
theorem itv_stop {K : PySem.W.Frag} {H : Hp} {a : Addr} {xs : List V} (h : SqT K H a xs) : (Itv K a xs.length).stop xs.reverse.length H := by
  rw [List.length_reverse]
  exact Nat.le_refl xs.length
end L2
set_option Elab.async false
set_option linter.all false
set_option maxRecDepth 100000
set_option maxHeartbeats 4000000
namespace L2
open PySem PySem.Spec PyProof.Rows
def intV (ns : List Int) : List V := ns.map V.int
theorem ints_at {ns : List Int} {i : Nat} {z : Int} (h : ns[i]? = some z) : (intV ns)[i]? = some (V.int z) := by
  unfold intV; rw [List.getElem?_map, h]; rfl
theorem ints_len (ns : List Int) : (intV ns).length = ns.length := List.length_map ..
theorem ints_of_at {ns : List Int} {i : Nat} {v : V} (h : (intV ns)[i]? = some v) : ∃ z, v = V.int z ∧ ns[i]? = some z := by
  unfold intV at h
  rw [List.getElem?_map] at h
  cases e : ns[i]? with
  | none => rw [e] at h; cases h
  | some z => rw [e] at h; exact ⟨z, (Option.some.inj h).symm, rfl⟩
theorem ints_app (a b : List Int) : intV (a ++ b) = intV a ++ intV b := List.map_append ..
theorem all_eq (ns ms : List Int) : ((List.range (min ns.length ms.length)).all (fun j => decide (ns[j]? = ms[j]?)) && ns.length == ms.length) = decide (ns = ms) := by
  rw [Bool.eq_iff_iff, Bool.and_eq_true, List.all_eq_true, decide_eq_true_iff, beq_iff_eq]
  constructor
  · rintro ⟨h1, h2⟩
    refine List.ext_getElem? fun i => ?_
    by_cases hi : i < ns.length
    · exact of_decide_eq_true (h1 i (List.mem_range.mpr (by omega)))
    · rw [List.getElem?_eq_none (by omega), List.getElem?_eq_none (by omega)]
  · rintro rfl
    exact ⟨fun j _ => decide_eq_true rfl, rfl⟩
section
variable {X : Cx}
def rNeTI (K : PySem.W.Frag) : R2 := fun x y H Q => ∃ a b ns ms, x = .ref a ∧ y = .ref b ∧ SqT K H a (intV ns) ∧ SqT K H b (intV ms) ∧ Q (.bl (!decide (ns = ms))) H
theorem eqItems {A : Around} {s : Shared} {ns ms : List Int} {its its2 : List Value} (r1 : Vals (intV ns) its) (r2 : Vals (intV ms) its2) (j : Nat) (h1 : j < its.toArray.size) (h2 : j < its2.toArray.size) :
    SeqAt.EqAt A s its.toArray[j] its2.toArray[j] (decide (ns[j]? = ms[j]?)) := by
  have l1 := r1.length
  have l2 := r2.length
  rw [ints_len] at l1 l2
  have g1 : j < its.length := by simpa using h1
  have g2 : j < its2.length := by simpa using h2
  have e1 : ns[j]? = some ns[j] := List.getElem?_eq_getElem (by omega)
  have e2 : ms[j]? = some ms[j] := List.getElem?_eq_getElem (by omega)
  obtain ⟨u, hu, t, rfl⟩ := r1.get (ints_at e1)
  obtain ⟨v, hv, t', rfl⟩ := r2.get (ints_at e2)
  have f1 : its.toArray[j] = Value.int ns[j] t := by
    rw [List.getElem_toArray]
    exact Option.some.inj ((List.getElem?_eq_getElem g1).symm.trans hu)
  have f2 : its2.toArray[j] = Value.int ms[j] t' := by
    rw [List.getElem_toArray]
    exact Option.some.inj ((List.getElem?_eq_getElem g2).symm.trans hv)
  rw [f1, f2, e1, e2]
  have := SeqAt.EqAt.int_int (A := A) (s := s) ns[j] t ms[j] t'
  have e : decide (some ns[j] = some ms[j]) = (ns[j] == ms[j]) := by
    rw [Bool.eq_iff_iff, decide_eq_true_iff, beq_iff_eq]
    exact ⟨Option.some.inj, congrArg some⟩
  rw [e]
  exact this
theorem op_neTI (hu : X.A.units < cLine) : OpR X (compareOp .NotEq) (rNeTI X.K) := by
  intro pins s σ H x y v u Q I rx ry h
  obtain ⟨a, b, ns, ms, rfl, rfl, ha, hb, q⟩ := h
  cases rx
  cases ry
  obtain ⟨its, r1, p1, _⟩ := I.tuple ha
  obtain ⟨its2, r2, p2, _⟩ := I.tuple hb
  refine SeqAt.RcNeAt.tuples (e := fun j => decide (ns[j]? = ms[j]?)) (show s.heap.IsTuple a its.toArray from p1) (show s.heap.IsTuple b its2.toArray from p2) hu (fun j h1 h2 => eqItems r1 r2 j h1 h2) X.prog X.w X.xe _ ⟨.bl (!decide (ns = ms)), H, I, ?_, q⟩
  have l1 := r1.length
  have l2 := r2.length
  rw [ints_len] at l1 l2
  show _ = Value.bool (!decide (ns = ms))
  rw [← all_eq, List.size_toArray, List.size_toArray, ← l1, ← l2]
def rIsi (K : PySem.W.Frag) : List V → Hp → VK → Prop := fun xs H Q => ∃ x T t b, xs = [x, .ty T] ∧ TyOf K H x t ∧ PySem.W.kitOne K t (.type T) = some b ∧ Q (.bl b) H
theorem call_isi : CallR X (.builtin "isinstance") (rIsi X.K) := by
  intro pins s σ H xs us Q I r h
  obtain ⟨x, T, t, b, rfl, ty, e, q⟩ := h
  obtain ⟨u, w', rfl, rx, ry⟩ := vals2 r
  cases ry
  exact isinst_ok I rx ty e fun tk => ⟨.bl b, H, I.tok tk, rfl, q⟩
theorem kit_self (K : PySem.W.Frag) (T : String) : PySem.W.kitOne K (.type T) (.type T) = some true := by
  unfold PySem.W.kitOne
  rw [if_pos (beq_self_eq_true _)]
theorem kit_int_bool (K : PySem.W.Frag) : PySem.W.kitOne K (.type "int") (.type "bool") = some false := by
  first | rfl | kernel_rfl | decide +kernel
end
end L2
set_option Elab.async false
set_option linter.all false
set_option maxRecDepth 100000
set_option maxHeartbeats 4000000
namespace L2
open PySem PySem.Spec PyProof.Rows
theorem Same.upd {H : Hp} {a : Addr} {o : HO} (h : H a = Option.none) : Same H (upd H a o) := fun b u e => by
  rw [upd_ne (ne_of_none e h)]
  exact e
section
variable {X : Cx}
def rCatTT : R2 := fun x y H Q => ∃ a b xs ys, x = .ref a ∧ y = .ref b ∧ H a = some (.tup xs) ∧ H b = some (.tup ys) ∧ xs.length + ys.length ≤ sizeLine ∧
  ∀ p H', Same H H' → H' p = some (.tup (xs ++ ys)) → Q (.ref p) H'
theorem cat_tup0 {prog : Program} {w : World} {A : Around} {E : Value → Shared → Prop} {s : Shared} {t b : Addr} {ws : List Value} {Q : Value → Shared → Prop} (ht : IsTup s.heap t ([] : List Value).toArray) (hb : IsTup s.heap b ws.toArray)
    (h : Q (.ref b) s) : wpAny (model prog w) A (binaryOp .Add (.ref t) (.ref b)) Q E s := by
  obtain ⟨⟨cls, dd, data, sl⟩, ho, hc, n, hd⟩ := id ht
  obtain ⟨⟨cls2, dd2, data2, sl2⟩, ho2, hc2, n2, hd2⟩ := id hb
  simp only at hc hd hc2 hd2
  subst hc hd hc2 hd2
  exact concat_meets ⟨_, ho, rfl⟩ ⟨_, ho2, rfl⟩ noFill_tuple_add seq_tuple_add PySem.F.slot_tuple_add PySem.F.entry_tuple_add (PySem.F.args_tuple_add_2 _ _)
      (tuple_addW0 t b ([] : List Value).toArray ws.toArray n n2 dd dd2 sl sl2 rfl) ⟨ho, ho2, h⟩
theorem op_catTT : OpR X (binaryOp .Add) rCatTT := by
  intro pins s σ H x y v u Q I rx ry h
  obtain ⟨a, b, xs, ys, rfl, rfl, ha, hb, hz, q⟩ := h
  by_cases hx : xs = []
  · subst hx
    cases rx
    cases ry
    obtain ⟨its, r1, p1, _⟩ := I.tuple (SqT.of ha)
    obtain ⟨its2, r2, p2, _⟩ := I.tuple (SqT.of hb)
    have e : its = [] := r1.nil_iff.mpr rfl
    subst e
    exact cat_tup0 p1 p2 ⟨.ref b, H, I, rfl, q b H (Same.refl H) hb⟩
  · refine op_catT pins s σ H (.ref a) (.ref b) v u Q I rx ry ⟨a, b, xs, ys, rfl, rfl, SqT.of ha, SqT.of hb, hx, hz, fun e => ?_, fun _ p hp => q p _ (Same.upd hp) upd_same⟩
    subst e
    exact q a H (Same.refl H) (by rw [List.append_nil]; exact ha)
end
end L2
namespace HT
open PySem PyProof.Rows
section
variable {prog : Program} {w : World} {A : Around} {E : Value → Shared → Prop} {s : Shared}
end
theorem noFill_tuple_mul : fillsNumberSlot (.type "tuple") "mul" = pure false :=
  PySem.fillsNumberSlot_seq (id := "tuple.__mul__") (r := some (.builtin "tuple.__rmul__")) PySem.F.slot_tuple_mul.lookup (by decide +kernel) PySem.F.slot_tuple_rmul.lookup (by decide +kernel)
theorem repeat_tuple : seqRepeat? (.type "tuple") = pure (some (.builtin "tuple.__mul__")) := by
  unfold seqRepeat?
  rw [PySem.seqSlot_of (T := "tuple") (name := "__mul__") (id := "tuple.__mul__") PySem.F.slot_tuple_mul.lookup (by decide +kernel), PySem.seqSlot_of (T := "tuple") (name := "__rmul__") (id := "tuple.__rmul__") PySem.F.slot_tuple_rmul.lookup (by decide +kernel)]
  rfl
theorem int_rmul_tuple (a : Int) (t : Tok) (l : Addr) (items : Array Value) (n : Nat) (dd : Option Addr) (sl : Array (Option Value)) :
    Meets (Builtin.«int.__rmul__» ⟨[.int a t, .ref l], []⟩) (fun _ R s => s.heap.get? l = some { cls := .type "tuple", dict := dd, data := .seq items n, slots := sl } ∧ R (.ok (.ret Value.notImplemented)) s) :=
  .of_wp fun prog w A R s h => by obtain ⟨hp, g, d, tk, os⟩ := s; obtain ⟨hl, h⟩ := h; wp_walk; exact ⟨_, rfl, h⟩
theorem tuple_mul_same (l : Addr) (items : Array Value) (n : Nat) (dd : Option Addr) (sl : Array (Option Value)) (x : Int) (u : Tok) (h0 : ¬ (decide (x < -(2 ^ 63)) || decide (x ≥ 2 ^ 63)) = true) (hc : (items.isEmpty || x == 1) = true) :
    Meets (Builtin.«tuple.__mul__» ⟨[.ref l, .int x u], []⟩) (fun _ R s => s.heap.get? l = some { cls := .type "tuple", dict := dd, data := .seq items n, slots := sl } ∧ R (.ok (.ret (.ref l))) s) :=
  .of_wp fun prog w A R s h => by
    obtain ⟨hp, g, d, tk, os⟩ := s; obtain ⟨hl, h⟩ := h
    have hT : (⟨hp, g, d, tk, os⟩ : Shared).TypeIs (.ref l) "tuple" := ⟨_, hl, rfl⟩
    wp_walk
    refine wpAny_ite_false (decide_eq_false h0) ?_
    wp_walk
    exact ⟨_, rfl, h⟩
theorem tuple_mul_none (l : Addr) (items : Array Value) (n : Nat) (dd : Option Addr) (sl : Array (Option Value)) (x : Int) (u : Tok) (h0 : ¬ (decide (x < -(2 ^ 63)) || decide (x ≥ 2 ^ 63)) = true) (hc : ¬ (items.isEmpty || x == 1) = true) (hx : (decide (x ≤ 0) || items.isEmpty) = true) :
    Meets (Builtin.«tuple.__mul__» ⟨[.ref l, .int x u], []⟩) (fun _ R s => s.heap.get? l = some { cls := .type "tuple", dict := dd, data := .seq items n, slots := sl } ∧ R (.ok (.ret (.ref s.heap.objs.size))) { s with heap := s.heap.push { cls := .type "tuple", data := .seq #[] } }) :=
  .of_wp fun prog w A R s h => by
    obtain ⟨hp, g, d, tk, os⟩ := s; obtain ⟨hl, h⟩ := h
    have hT : (⟨hp, g, d, tk, os⟩ : Shared).TypeIs (.ref l) "tuple" := ⟨_, hl, rfl⟩
    wp_walk
    refine wpAny_ite_false (decide_eq_false h0) ?_
    wp_walk
    exact ⟨_, rfl, h⟩
theorem tuple_mul_many (l : Addr) (items : Array Value) (n : Nat) (dd : Option Addr) (sl : Array (Option Value)) (x : Int) (u : Tok) (h0 : ¬ (decide (x < -(2 ^ 63)) || decide (x ≥ 2 ^ 63)) = true) (hc : ¬ (items.isEmpty || x == 1) = true) (hx : ¬ (decide (x ≤ 0) || items.isEmpty) = true)
    (h1 : ¬ ((items.size : Int) * x > (2 ^ 63 - 1) / 8)) (h2 : ¬ (Builtin.Tuple.tupleTooMany ((items.size : Int) * x)) = true) (hz : (List.foldl (fun x1 x2 => x1 ++ x2) #[] (List.replicate x.toNat items)).size ≤ sizeLine) :
    Meets (Builtin.«tuple.__mul__» ⟨[.ref l, .int x u], []⟩) (fun _ R s => s.heap.get? l = some { cls := .type "tuple", dict := dd, data := .seq items n, slots := sl } ∧ R (.ok (.ret (.ref s.heap.objs.size))) { s with heap := s.heap.push { cls := .type "tuple", data := .seq (List.foldl (fun x1 x2 => x1 ++ x2) #[] (List.replicate x.toNat items)) } }) :=
  .of_wp fun prog w A R s h => by
    obtain ⟨hp, g, d, tk, os⟩ := s; obtain ⟨hl, h⟩ := h
    have hT : (⟨hp, g, d, tk, os⟩ : Shared).TypeIs (.ref l) "tuple" := ⟨_, hl, rfl⟩
    wp_walk
    refine wpAny_ite_false (decide_eq_false h0) ?_
    wp_walk
    refine wpAny_ite_false (decide_eq_false h1) ?_
    wp_walk
    exact ⟨_, rfl, h⟩
end HT
namespace L2
open PySem PySem.Spec PyProof.Rows
section
variable {X : Cx} {e : Expr} {te : TE} {lo hi : Option Expr} {st : Expr} {tl th ts : TO} {pos p2 : Pos}
def rRepT : R2 := fun x y H Q => ∃ a k xs, x = .ref a ∧ y = .int k ∧ H a = some (.tup xs) ∧ -(2 ^ 63) ≤ k ∧ k < 2 ^ 63 ∧ xs.length * k.toNat ≤ sizeLine ∧
  ∀ p H', Same H H' → H' p = some (.tup (List.replicate k.toNat xs).flatten) → Q (.ref p) H'
theorem op_repT : OpR X (binaryOp .Mult) rRepT := by
  intro pins s σ H x y v u Q I rx ry h
  obtain ⟨l, k, xs, rfl, rfl, hH, h1, h2, hz, q⟩ := h
  cases rx
  obtain ⟨t, rfl⟩ := ry
  obtain ⟨its, r, p1, hzx⟩ := I.tuple (SqT.of hH)
  have hl := r.length
  obtain ⟨⟨cls, dd, data, sl⟩, ho, hc, n, hd⟩ := id p1
  simp only at hc hd
  subst hc hd
  have h0 : ¬ (decide (k < -(2 ^ 63)) || decide (k ≥ 2 ^ 63)) = true := by
    rw [Bool.or_eq_true, decide_eq_true_iff, decide_eq_true_iff]
    omega
  have go : ∀ {S : PySem.Spec}, Meets (Builtin.«tuple.__mul__» ⟨[.ref l, .int k t], []⟩) (fun A' R s' => s'.heap.get? l = some { cls := .type "tuple", dict := dd, data := .seq its.toArray n, slots := sl } ∧ S A' R s') →
      S X.A (wants (EP X pins σ Q) X.xe) s → wpAny (model X.prog X.w) X.A (binaryOp .Mult (.ref l) (.int k t)) (EP X pins σ Q) X.xe s := fun {S} m hS =>
    wpAny_binaryOp_repeat_ref (T := "tuple") (U := "int") (by decide) ⟨_, ho, rfl⟩ (fun s' => typeIs_int s' k t) HT.noFill_tuple_mul F.fills_int_mul F.slot_int_rmul HT.repeat_tuple F.slot_int_index.lookup
      (call_meets F.slot_int_rmul (typeIs_int s k t) F.entry_int_rmul (F.args_int_rmul_2 _ _) (HT.int_rmul_tuple k t l its.toArray n dd sl)
        ⟨ho, rfl, ⟨_, ho, rfl⟩, call_meets F.slot_tuple_mul ⟨_, ho, rfl⟩ F.entry_tuple_mul (F.args_tuple_mul_2 _ _) m ⟨ho, hS⟩⟩)
  by_cases hc : (its.toArray.isEmpty || k == 1) = true
  · refine go (S := fun _ R s' => R (.ok (.ret (.ref l))) s') (HT.tuple_mul_same l its.toArray n dd sl k t h0 hc) ⟨.ref l, H, I, rfl, q l H (Same.refl H) ?_⟩
    have e : (List.replicate k.toNat xs).flatten = xs := by
      rw [Bool.or_eq_true] at hc
      rcases hc with hc | hc
      · have : its = [] := by simpa using hc
        have : xs = [] := by
          have hl' := hl
          rw [this] at hl'
          exact List.eq_nil_of_length_eq_zero hl'
        subst this
        simp
      · have : k = 1 := by simpa using hc
        subst this
        simp
    rw [e]
    exact hH
  · by_cases hx : (decide (k ≤ 0) || its.toArray.isEmpty) = true
    · refine go (S := fun _ R s' => R (.ok (.ret (.ref s'.heap.objs.size))) { s' with heap := s'.heap.push { cls := .type "tuple", data := .seq #[] } }) (HT.tuple_mul_none l its.toArray n dd sl k t h0 hc hx) ?_
      refine ⟨.ref s.heap.objs.size, _, I.laid (t' := s.toks) (o := .tup []) (fun b ob q => Heap.get?_push_of_some _ q) (Nat.le_refl _) ?_, rfl, q _ _ (Same.upd (I.hok.fresh (Nat.le_refl _))) ?_⟩
      · exact ⟨Nat.zero_le _, [], .nil, IsTup.new _ _⟩
      · have e : k.toNat = 0 := by
          rw [Bool.or_eq_true, decide_eq_true_iff] at hx
          rcases hx with hx | hx
          · omega
          · exact absurd (by rw [Bool.or_eq_true]; exact .inl hx) hc
        rw [e, upd_same]
        rfl
    · have hk : 0 < k := by
        rw [Bool.or_eq_true, decide_eq_true_iff] at hx
        omega
      have hfl : List.foldl (fun x1 x2 => x1 ++ x2) #[] (List.replicate k.toNat its.toArray) = (List.replicate k.toNat its).flatten.toArray := by
        have := foldl_rep its k.toNat []
        rw [List.nil_append] at this
        exact this
      have hlen : (List.replicate k.toNat its).flatten.length ≤ sizeLine := by rw [len_rep, Nat.mul_comm, ← hl]; exact hz
      have hsz : ((its.toArray.size : Int) * k) = ((xs.length * k.toNat : Nat) : Int) := by
        rw [List.size_toArray, ← hl, Int.natCast_mul, Int.toNat_of_nonneg (by omega)]
      have hline : (sizeLine : Nat) ≤ (2 ^ 63 - 1) / 8 := by decide
      refine go (S := fun _ R s' => R (.ok (.ret (.ref s'.heap.objs.size))) { s' with heap := s'.heap.push { cls := .type "tuple", data := .seq (List.foldl (fun x1 x2 => x1 ++ x2) #[] (List.replicate k.toNat its.toArray)) } })
        (HT.tuple_mul_many l its.toArray n dd sl k t h0 hc hx (by rw [hsz]; omega) (by unfold Builtin.Tuple.tupleTooMany; rw [decide_eq_true_iff, hsz]; omega) (by rw [hfl, List.size_toArray]; exact hlen)) ?_
      rw [hfl]
      refine ⟨.ref s.heap.objs.size, _, I.laid (t' := s.toks) (o := .tup (List.replicate k.toNat xs).flatten) (fun b ob q => Heap.get?_push_of_some _ q) (Nat.le_refl _) ?_, rfl, q _ _ (Same.upd (I.hok.fresh (Nat.le_refl _))) upd_same⟩
      exact ⟨by rw [len_rep, Nat.mul_comm]; exact hz, _, r.rep k.toNat, IsTup.new _ _⟩
end
end L2
set_option Elab.async false
set_option linter.all false
set_option maxRecDepth 100000
set_option maxHeartbeats 4000000
namespace L2
open PySem PySem.Spec PyProof.Rows
def tx (l : List Nat) : Str := ⟨l.toArray⟩
theorem tx_list (l : List Nat) : (tx l).cps.toList = l := rfl
theorem tx_len (l : List Nat) : (tx l).length = l.length := by
  show l.toArray.size = l.length
  simp
theorem tx_inj {a b : List Nat} (h : tx a = tx b) : a = b := by
  have := congrArg (fun s : Str => s.cps.toList) h
  exact this
theorem str_ext {x y : Str} (h : x.cps.toList = y.cps.toList) : x = y := by
  obtain ⟨a⟩ := x
  obtain ⟨b⟩ := y
  have : a = b := Array.toList_inj.mp h
  rw [this]
theorem tx_of (x : Str) : x = tx x.cps.toList := str_ext rfl
theorem tx_app (a b : List Nat) : tx a ++ tx b = tx (a ++ b) := by
  refine str_ext ?_
  show ((tx a).cps ++ (tx b).cps).toList = (a ++ b)
  rw [Array.toList_append]
  rfl
section
variable {X : Cx} {pos : Pos}
theorem pe_strX {x : Str} {l : List Nat} {j} (h : x = tx l) : PE X (.Constant (.str x) j pos) (tC (.str (tx l))) := by
  rw [← h]
  exact pe_str
def rAddX : R2 := fun x y H Q => ∃ a b, x = .str (tx a) ∧ y = .str (tx b) ∧ a.length + b.length ≤ sizeLine ∧ Q (.str (tx (a ++ b))) H
theorem op_addX : OpR X (binaryOp .Add) rAddX := by
  intro pins s σ H x y v u Q I rx ry h
  obtain ⟨a, b, rfl, rfl, hz, q⟩ := h
  exact op_add_str pins s σ H _ _ v u Q I rx ry ⟨_, _, rfl, rfl, by rw [tx_len, tx_len]; exact hz, by rw [tx_app]; exact q⟩
def rIxX : R2 := fun x y H Q => ∃ l i c, x = .str (tx l) ∧ y = .int i ∧ l.length ≤ sizeLine ∧ atI l i = some c ∧ Q (.str (tx [c])) H
theorem ix_X : IxR X rIxX := by
  intro value slice pins s σ H x y v u Q I rx ry h hs
  obtain ⟨l, i, c, rfl, rfl, hz, he, q⟩ := h
  exact ix_str value slice pins s σ H _ _ v u Q I rx ry ⟨_, i, c, rfl, rfl, by rw [tx_len]; exact hz, he, q⟩ hs
theorem slice_to (l : List Nat) (j : Nat) (h : j ≤ l.length) : Txt.slice (tx l) none (some (j : Int)) = tx (l.take j) := by
  have := eq_of_beq (slice_closes_toL (x := tx l) (j := (j : Int)) (by omega) (by rw [tx_len]; omega))
  rw [this]
  refine str_ext ?_
  show (((tx l).cps.toList.drop (0 : Int).toNat).take ((j : Int) - 0).toNat).toArray.toList = l.take j
  rw [tx_list]
  simp
theorem slice_from (l : List Nat) (i : Nat) (h : i ≤ l.length) : Txt.slice (tx l) (some (i : Int)) none = tx (l.drop i) := by
  have := eq_of_beq (slice_closes_fromL (x := tx l) (i := (i : Int)) (b := (l.length : Int)) (by omega) (by rw [tx_len]; omega) (by rw [tx_len]))
  rw [this]
  refine str_ext ?_
  show (((tx l).cps.toList.drop (i : Int).toNat).take ((l.length : Int) - (i : Int)).toNat).toArray.toList = l.drop i
  rw [tx_list]
  simp only [Int.toNat_natCast]
  refine List.take_of_length_le ?_
  rw [List.length_drop]
  omega
def rSlX : V → Option Int → Option Int → Hp → VK → Prop := fun x lo hi H Q => ∃ l, x = .str (tx l) ∧ l.length ≤ sizeLine ∧
  ((lo = none ∧ ∃ j : Nat, hi = some (j : Int) ∧ j ≤ l.length ∧ Q (.str (tx (l.take j))) H) ∨ (hi = none ∧ ∃ i : Nat, lo = some (i : Int) ∧ i ≤ l.length ∧ Q (.str (tx (l.drop i))) H))
theorem sl_X : SlR X rSlX := by
  intro pins s σ H x v vl vu lo hi sl Q I rx hs pl pu h
  obtain ⟨l, rfl, hz, h⟩ := h
  obtain ⟨t, rfl⟩ := rx
  have hz' : (tx l).length ≤ sizeLine := by rw [tx_len]; exact hz
  refine ⟨"str", _, F.slot_str_getitem.lookup, typeIs_str _ _ _, ?_⟩
  obtain ⟨os, hos, hcs, hds⟩ := id hs
  rcases h with ⟨rfl, j, rfl, hj, q⟩ | ⟨rfl, i, rfl, hi, q⟩
  · cases pl
    cases pu with
    | int i u =>
      refine wpAny_getItem_str_slice (l := none) (u := some ((j : Int), u)) (st := none) ⟨os, hos, hcs, hds⟩ rfl ?_
      refine post_val_or_str ⟨Nat.le_trans (Txt.slice_le (tx l) none (some (j : Int))) hz', fun t' k => ?_⟩
      refine ⟨.str (tx (l.take j)), H, I.tok _, ⟨t', ?_⟩, q⟩
      rw [← slice_to l j hj]
      rfl
  · cases pu
    cases pl with
    | int i u =>
      refine wpAny_getItem_str_slice (l := some (_, u)) (u := none) (st := none) ⟨os, hos, hcs, hds⟩ rfl ?_
      refine post_val_or_str ⟨Nat.le_trans (Txt.slice_le (tx l) (some _) none) hz', fun t' k => ?_⟩
      refine ⟨.str (tx (l.drop _)), H, I.tok _, ⟨t', ?_⟩, q⟩
      rw [← slice_from l _ hi]
      rfl
def rUpX : V → List V → Hp → VK → Prop := fun x vs H Q => ∃ l, x = .str (tx l) ∧ vs = [] ∧ l.length ≤ 1000 ∧ (∀ c ∈ l, c < 128) ∧ Q (.str (tx (l.map up1))) H
theorem mt_upX : MtM X "str.upper" rUpX := by
  intro pins s σ H x vs v us Q I rx rv h
  obtain ⟨l, rfl, rfl, hz, ha, q⟩ := h
  obtain ⟨t, rfl⟩ := rx
  have hus := rv.zero
  subst hus
  have e : Txt.upper (tx l) = tx (l.map up1) := by
    rw [upper_ascii (x := tx l) ha]
    refine str_ext ?_
    show ((tx l).cps.map up1).toList = l.map up1
    rw [Array.toList_map]
    rfl
  refine PySem.SC.upper ?_ ?_
  · rw [e, tx_len, List.length_map]
    unfold Builtin.Str.tooLong
    exact decide_eq_false (Nat.not_lt.mpr (Nat.le_trans hz (by decide)))
  · rw [e]
    exact ⟨.str (tx (l.map up1)), H, I.tok _, ⟨_, rfl⟩, q⟩
def abc : List Nat := (List.range 26).map (· + 97)
def ABC : List Nat := (List.range 26).map (· + 65)
theorem occ_abc : ∀ k : Nat, k < 26 → Builtin.Str.occurrences (tx abc) (tx [k + 97]) 0 26 1 = [k] := by
  decide +kernel
def rIdxX : V → List V → Hp → VK → Prop := fun x vs H Q => ∃ k : Nat, x = .str (tx abc) ∧ vs = [.str (tx [k + 97])] ∧ k < 26 ∧ Q (.int k) H
theorem mt_idxX : MtM X "str.index" rIdxX := by
  intro pins s σ H x vs v us Q I rx rv h
  obtain ⟨k, rfl, rfl, hk, q⟩ := h
  obtain ⟨t, rfl⟩ := rx
  obtain ⟨u, rfl, t', rfl⟩ := rv.one
  exact PySem.SC.index (rest := []) (occ_abc k hk) ⟨.int k, H, I.tok _, ⟨_, rfl⟩, q⟩
def digs (n : Int) : List Nat := (toString n : Str).cps.toList
def rStrX : List V → Hp → VK → Prop := fun xs H Q => ∃ i : Int, xs = [.int i] ∧ i.natAbs < 10000000000 ∧ Q (.str (tx (digs i))) H
theorem log_small {n : Nat} (h : n < 10000000000) : n.log2 < 1920 := by
  rcases Nat.eq_zero_or_pos n with e | e
  · subst e; decide
  · have h1 : 2 ^ n.log2 ≤ n := Nat.log2_self_le (by omega)
    have h2 : (10000000000 : Nat) < 2 ^ 1920 := by decide +kernel
    exact (Nat.pow_lt_pow_iff_right (by decide : 1 < 2)).mp (Nat.lt_of_le_of_lt h1 (Nat.lt_trans h h2))
theorem call_strX : CallR X (.type "str") rStrX := by
  intro pins s σ H xs us Q I r h
  obtain ⟨i, rfl, hi, q⟩ := h
  exact call_str_int pins s σ H [.int i] us Q I r ⟨i, rfl, log_small hi, by rw [tx_of (toString i : Str)]; exact q⟩
def strV (ls : List (List Nat)) : List V := ls.map fun l => V.str (tx l)
def rJoinX (K : PySem.W.Frag) : V → List V → Hp → VK → Prop := fun x vs H Q => ∃ a ls, x = .str (tx []) ∧ vs = [.ref a] ∧ SqL K H a (strV ls) ∧ ls.flatten.length ≤ 1000000 ∧ Q (.str (tx ls.flatten)) H
theorem join_nil (ls : List (List Nat)) : Txt.join (tx []) (ls.map tx) = tx ls.flatten := by
  have e : ∀ ls : List (List Nat), Str.join (tx []) (ls.map tx) = tx ls.flatten := by
    intro ls
    induction ls with
    | nil => rfl
    | cons l ls ih =>
      cases ls with
      | nil => show tx l = tx (l ++ []); rw [List.append_nil]
      | cons m ls =>
        show tx l ++ tx [] ++ Str.join (tx []) ((m :: ls).map tx) = _
        rw [ih, tx_app, tx_app, List.append_nil]
        rfl
  rw [← e]
  exact StrLaws.glued_eq_join _ _
theorem strs_of : ∀ {ls : List (List Nat)} {us : List Value}, Vals (strV ls) us → StrsAre us (ls.map tx) := by
  intro ls
  induction ls with
  | nil => intro us r; cases r; exact .nil
  | cons l ls ih =>
    intro us r
    cases r with
    | cons r1 r2 =>
      obtain ⟨t, e⟩ := r1
      subst e
      exact .cons _ t (ih r2)
theorem mt_joinX : MtM X "str.join" (rJoinX X.K) := by
  intro pins s σ H x vs v us Q I rx rv h
  obtain ⟨a, ls, rfl, rfl, hq, hz, q⟩ := h
  obtain ⟨t, rfl⟩ := rx
  obtain ⟨u, rfl, ru⟩ := rv.one
  cases ru
  obtain ⟨its, r, p, _⟩ := I.list hq
  refine join_list p.isList (ys := ls.map tx) (strs_of r) ?_ fun t' k => ?_
  · rw [tx_len, List.map_map]
    have : ((List.map (Str.length ∘ tx) ls).sum) = ls.flatten.length := by
      rw [List.length_flatten]
      congr 1
    rw [this, List.length_nil, Nat.mul_zero, Nat.add_zero]
    omega
  · rw [join_nil]
    exact ⟨.str (tx ls.flatten), H, I.tok _, ⟨_, rfl⟩, q⟩
theorem pe_power {a b : Expr} {ta tb : TE} {x : Str} {j} {p1 p2 p3 : Pos} (ha : PE X a ta) (hb : PE X b tb) (hx : x = tx [94]) :
    PE X (.JoinedStr [.FormattedValue a (-1) none p1, .Constant (.str x) j p2, .FormattedValue b (-1) none p3] pos)
      (fun σ H Q => ta σ H fun v H1 => ∃ l, v = .str (tx l) ∧ l.length ≤ 1000 ∧ tb σ H1 fun w H2 => ∃ n : Int, w = .int n ∧ n.natAbs < 10000000000 ∧ (digs n).length ≤ 100 ∧ Q (.str (tx (l ++ [94] ++ digs n))) H2) := by
  intro pins s σ H Q I h
  refine JoinedStr_many ?_
  refine joinParts_cons (FormattedValue_plain (thn (ha pins s σ H _ I h) fun v s1 ⟨x1, H1, I1, r1, q1⟩ => ?_))
  obtain ⟨l, rfl, hl, q1⟩ := q1
  obtain ⟨t, rfl⟩ := r1
  refine formatField_str (fun t' tk => ?_) (by rw [tx_len]; exact Nat.le_trans hl (by decide))
  have e0 : Str.empty ++ tx l = tx l := by
    have : Str.empty = tx [] := rfl
    rw [this, tx_app, List.nil_append]
  refine ⟨by rw [e0, tx_len]; exact Nat.le_trans hl (by decide), ?_⟩
  rw [e0, hx]
  refine joinParts_cons (Calls.Constant_str ⟨by rw [tx_app, tx_len, List.length_append]; exact Nat.le_trans (show l.length + 1 ≤ 2000 by omega) (by decide), ?_⟩)
  rw [tx_app]
  refine joinParts_cons (FormattedValue_plain (thn (hb pins _ σ H1 _ ((I1.tok _).tok _) q1) fun v s2 ⟨x2, H2, I2, r2, q2⟩ => ?_))
  obtain ⟨n, rfl, hn, hd, q2⟩ := q2
  obtain ⟨t2, rfl⟩ := r2
  refine formatField_int_small (log_small hn) ?_
  have e1 : (toString n : Str) = tx (digs n) := tx_of _
  show ((tx (l ++ [94]) ++ (toString n : Str)).length ≤ sizeLine) ∧ _
  rw [e1, tx_app]
  refine ⟨by rw [tx_len, List.length_append, List.length_append]; exact Nat.le_trans (show l.length + 1 + (digs n).length ≤ 2000 by omega) (by decide), ?_⟩
  refine joinParts_nil ?_ (by rw [tx_len, List.length_append, List.length_append]; exact Nat.le_trans (show l.length + 1 + (digs n).length ≤ 2000 by omega) (by decide))
  exact ⟨.str (tx (l ++ [94] ++ digs n)), H2, (I2.tok _).tok _, ⟨_, rfl⟩, q2⟩
theorem digs_len {n : Int} (h0 : 0 ≤ n) (h : n < 10000000000) : (digs n).length ≤ 10 := by
  have := toString_length_le (v := n) h0 (k := 10) (by decide) h
  exact this
end
end L2
set_option Elab.async false
set_option linter.all false
set_option maxRecDepth 100000
set_option maxHeartbeats 4000000
namespace L2
open PySem PySem.Spec PyProof.Rows
structure Def (K : PySem.W.Frag) (mg : Str → Option Value) (x : Str) (st : Stmt) (ps : List Str) (f : Addr) (fd : FuncData) : Prop where
  F : Fun K x x st f fd
  m : mg x = some (.ref f)
  b : Binds K fd ps []
section
variable {X : Cx}
theorem call_lenX : CallR X (.builtin "len") (fun xs H Q => ∃ l, xs = [.str (tx l)] ∧ l.length ≤ sizeLine ∧ Q (.int l.length) H) := by
  intro pins s σ H xs us Q I r h
  obtain ⟨l, rfl, hz, q⟩ := h
  exact call_len_str pins s σ H _ us Q I r ⟨_, rfl, by rw [tx_len]; exact hz, by rw [tx_len]; exact q⟩
def tCutE (t : TE) : TE := fun σ H Q => ∃ G : V → Hp → Prop, t σ H G ∧ ∀ v H', G v H' → Q v H'
theorem pe_cut {e : Expr} {t : TE} (h : PE X e t) : PE X e (tCutE t) := by
  intro pins s σ H Q I ⟨G, h1, h2⟩
  refine thn (h pins s σ H G I h1) fun v s' ⟨x, H', I', r, g⟩ => ?_
  exact ⟨x, H', I', r, h2 x H' g⟩
end
theorem cut_ints (ns : List Int) (lo hi : Option Int) : cutV (intV ns) lo hi = intV ((ns.drop (HT.sIx ns.length 0 lo)).take (HT.sIx ns.length ns.length hi - HT.sIx ns.length 0 lo)) := by
  unfold cutV intV
  rw [List.length_map, List.map_take, List.map_drop]
theorem emod_nat (r : Int) {n : Nat} (h : 0 < n) : ∃ j : Nat, r % (n : Int) = (j : Int) ∧ j < n := by
  have h1 := Int.emod_nonneg r (show (n : Int) ≠ 0 by omega)
  have h2 := Int.emod_lt_of_pos r (show (0 : Int) < (n : Int) by omega)
  exact ⟨(r % (n : Int)).toNat, by omega, by omega⟩
theorem tup_at {ms : List Int} {j : Nat} {z : Int} (h : ms[j]? = some z) : atI (intV ms) (j : Int) = some (V.int z) := atI_nat (ints_at h)
theorem tup_atI {ms : List Int} {i : Int} {j : Nat} {z : Int} (e : i = (j : Int)) (h : ms[j]? = some z) : atI (intV ms) i = some (V.int z) := by rw [e]; exact atI_nat (ints_at h)
end L2
set_option Elab.async false
set_option linter.all false
set_option maxRecDepth 100000
namespace L2
open PySem PySem.Spec PyProof.Rows
section
variable {κ : Type} [DecidableEq κ]
def valV (kvs : List (κ × V)) (k : κ) : Option V := (kvs.find? fun kv => decide (kv.1 = k)).map (·.2)
def putK (kvs : List (κ × V)) (k : κ) (v : V) : List (κ × V) :=
  if (kvs.any fun kv => decide (kv.1 = k)) = true then kvs.map (fun kv => if kv.1 = k then (kv.1, v) else kv) else kvs ++ [(k, v)]
def dropK (kvs : List (κ × V)) (k : κ) : List (κ × V) := kvs.filter fun kv => decide (kv.1 ≠ k)
theorem valV_pos {p : κ × V} {r : List (κ × V)} {k : κ} (e : p.1 = k) : valV (p :: r) k = some p.2 := by simp [valV, List.find?_cons, e]
theorem valV_neg {p : κ × V} {r : List (κ × V)} {k : κ} (e : ¬ p.1 = k) : valV (p :: r) k = valV r k := by simp [valV, List.find?_cons, e]
theorem valV_any (k : κ) : ∀ kvs : List (κ × V), (kvs.any fun kv => decide (kv.1 = k)) = (valV kvs k).isSome
  | [] => rfl
  | p :: r => by
    rw [List.any_cons]
    by_cases e : p.1 = k
    · simp only [valV_pos e, decide_eq_true e, Bool.true_or, Option.isSome_some]
    · rw [valV_neg e, decide_eq_false e, Bool.false_or]; exact valV_any k r
theorem valV_map (k j : κ) (y : V) : ∀ kvs : List (κ × V), valV (kvs.map fun kv => if kv.1 = k then (kv.1, y) else kv) j = (valV kvs j).map fun x => if j = k then y else x
  | [] => rfl
  | p :: r => by
    have ih := valV_map k j y r
    rw [List.map_cons]
    by_cases h : p.1 = k
    · rw [if_pos h]
      by_cases e : p.1 = j
      · rw [valV_pos (p := (p.1, y)) e, valV_pos e, Option.map_some, if_pos (e.symm.trans h)]
      · rw [valV_neg (p := (p.1, y)) e, valV_neg e, ih]
    · rw [if_neg h]
      by_cases e : p.1 = j
      · rw [valV_pos (p := p) e, valV_pos e, Option.map_some, if_neg (fun z => h (e.trans z))]
      · rw [valV_neg (p := p) e, valV_neg e, ih]
theorem valV_snoc (k j : κ) (y : V) : ∀ kvs : List (κ × V), valV kvs k = none → valV (kvs ++ [(k, y)]) j = if j = k then some y else valV kvs j
  | [], _ => by
    by_cases e : k = j
    · rw [if_pos e.symm]; exact valV_pos (p := (k, y)) e
    · rw [if_neg (fun z => e z.symm)]; exact valV_neg (p := (k, y)) e
  | p :: r, hn => by
    rw [List.cons_append]
    have hk : ¬ p.1 = k := fun z => by rw [valV_pos z] at hn; cases hn
    rw [valV_neg hk] at hn
    have ih := valV_snoc k j y r hn
    by_cases e : p.1 = j
    · rw [valV_pos e, valV_pos e, if_neg (fun z => hk (e.trans z))]
    · rw [valV_neg e, valV_neg e, ih]
theorem valV_put (kvs : List (κ × V)) (k j : κ) (y : V) : valV (putK kvs k y) j = if j = k then some y else valV kvs j := by
  unfold putK
  by_cases a : (kvs.any fun kv => decide (kv.1 = k)) = true
  · rw [if_pos a, valV_map]
    rw [valV_any] at a
    by_cases e : j = k
    · obtain ⟨x, hx⟩ := Option.isSome_iff_exists.mp a
      rw [if_pos e, e, hx, Option.map_some, if_pos rfl]
    · rw [if_neg e]
      cases valV kvs j with
      | none => rfl
      | some x => rw [Option.map_some, if_neg e]
  · rw [if_neg a]
    refine valV_snoc k j y kvs ?_
    rw [valV_any] at a
    cases q : valV kvs k with
    | none => rfl
    | some x => rw [q] at a; exact (a rfl).elim
theorem length_putK (kvs : List (κ × V)) (k : κ) (v : V) : (putK kvs k v).length ≤ kvs.length + 1 := by
  unfold putK
  split
  · rw [List.length_map]; omega
  · rw [List.length_append, List.length_cons, List.length_nil]; omega
theorem RelO.isSome_eq {o : Option V} {u : Option Value} (r : RelO o u) : o.isSome = u.isSome := by
  cases o with
  | none => cases u with
    | none => rfl
    | some _ => exact (show False from r).elim
  | some _ => cases u with
    | none => exact (show False from r).elim
    | some _ => rfl
theorem RelO.getD {o : Option V} {u : Option Value} {d : V} {d' : Value} (r : RelO o u) (rd : RelV d d') : RelV (o.getD d) (u.getD d') := by
  cases o with
  | none => cases u with
    | none => exact rd
    | some _ => exact (show False from r).elim
  | some _ => cases u with
    | none => exact (show False from r).elim
    | some _ => exact r
theorem KV.val {kvs : List (κ × V)} {vs : List (κ × Value)} (r : KV kvs vs) (k : κ) : RelO (valV kvs k) (valueAt vs k) := by
  unfold KV at r
  induction r with
  | nil => exact True.intro
  | @cons p q ps qs h t ih =>
    obtain ⟨h1, h2⟩ := h
    by_cases e : p.1 = k
    · have e' : q.1 = k := h1.symm.trans e
      have b : valueAt (q :: qs) k = some q.2 := by simp [valueAt, List.find?_cons, e']
      rw [valV_pos e, b]; exact h2
    · have e' : ¬ q.1 = k := fun z => e (h1.trans z)
      have b : valueAt (q :: qs) k = valueAt qs k := by simp [valueAt, List.find?_cons, e']
      rw [valV_neg e, b]; exact ih
theorem KV.any {kvs : List (κ × V)} {vs : List (κ × Value)} (r : KV kvs vs) (k : κ) : (kvs.any fun kv => decide (kv.1 = k)) = vs.any fun kv => decide (kv.1 = k) := by
  unfold KV at r
  induction r with
  | nil => rfl
  | cons h t ih => rw [List.any_cons, List.any_cons, ih, h.1]
theorem KV.repl {kvs : List (κ × V)} {vs : List (κ × Value)} (r : KV kvs vs) (k : κ) {y : V} {u : Value} (ry : RelV y u) :
    KV (kvs.map fun kv => if kv.1 = k then (kv.1, y) else kv) (vs.map fun kv => if kv.1 = k then (kv.1, u) else kv) := by
  unfold KV at r ⊢
  induction r with
  | nil => exact .nil
  | @cons p q ps qs h t ih =>
    rw [List.map_cons, List.map_cons]
    refine .cons ?_ ih
    obtain ⟨h1, h2⟩ := h
    by_cases e : p.1 = k
    · rw [if_pos e, if_pos (h1.symm.trans e)]; exact ⟨h1, ry⟩
    · rw [if_neg e, if_neg (fun z => e (h1.trans z))]; exact ⟨h1, h2⟩
theorem KV.put {kvs : List (κ × V)} {vs : List (κ × Value)} (r : KV kvs vs) (k : κ) {y : V} {u : Value} (ry : RelV y u) : KV (putK kvs k y) (stored vs k u) := by
  unfold putK stored
  rw [r.any k]
  by_cases e : (vs.any fun kv => decide (kv.1 = k)) = true
  · rw [if_pos e, if_pos e]; exact r.repl k ry
  · rw [if_neg e, if_neg e]; exact Paired.snoc r ⟨rfl, ry⟩
theorem KV.drop {kvs : List (κ × V)} {vs : List (κ × Value)} (r : KV kvs vs) (k : κ) : KV (dropK kvs k) (without vs k) := by
  unfold KV at r ⊢
  unfold dropK without
  induction r with
  | nil => exact .nil
  | @cons p q ps qs h t ih =>
    obtain ⟨h1, h2⟩ := h
    rw [List.filter_cons, List.filter_cons]
    by_cases e : p.1 = k
    · have a : ¬ decide (p.1 ≠ k) = true := by simp [e]
      have b : ¬ decide (q.1 ≠ k) = true := by simp [h1.symm.trans e]
      rw [if_neg a, if_neg b]; exact ih
    · have e' : ¬ q.1 = k := fun z => e (h1.trans z)
      have a : decide (p.1 ≠ k) = true := by simp [e]
      have b : decide (q.1 ≠ k) = true := by simp [e']
      rw [if_pos a, if_pos b]; exact .cons ⟨h1, h2⟩ ih
theorem KV.keys {kvs : List (κ × V)} {vs : List (κ × Value)} (r : KV kvs vs) : kvs.map (·.1) = vs.map (·.1) := by
  unfold KV at r
  induction r with
  | nil => rfl
  | cons h t ih => rw [List.map_cons, List.map_cons, ih, h.1]
theorem KV.length {kvs : List (κ × V)} {vs : List (κ × Value)} (r : KV kvs vs) : kvs.length = vs.length := Paired.length r
end
theorem kV_is {P : Program} {w : World} {k : Key} {u : Value} (r : RelV (kV k) u) : (mixKind P w).is k u = true := by
  cases k with
  | inl i => obtain ⟨t, e⟩ := (show ∃ t, u = Value.int i t from r); subst e; exact mixKind_int P w i t
  | inr x => obtain ⟨t, e⟩ := (show ∃ t, u = Value.str x t from r); subst e; exact mixKind_str P w x t
theorem items_are {P : Program} {w : World} : ∀ {ks : List Key} {us : List Value}, Vals (ks.map kV) us → ItemsAre (mixKind P w) ks us
  | [], _, r => by rw [List.map_nil] at r; cases r; exact .nil
  | k :: ks, _, r => by
    rw [List.map_cons] at r
    cases r with
    | cons h t => exact .cons (kV_is h) (items_are t)
abbrev KT (H : Hp) : List (List Key × V) → List (List Key × Addr × Value) → Prop := Paired fun p q => p.1 = q.1 ∧ H q.2.1 = some (.tup (p.1.map kV)) ∧ RelV p.2 q.2.2
theorem KT.val {H : Hp} {kvs : List (List Key × V)} {xs : List (List Key × Addr × Value)} (r : KT H kvs xs) (k : List Key) : RelO (valV kvs k) ((atKey xs k).map (·.2)) := by
  induction r with
  | nil => exact True.intro
  | @cons p q ps qs h t ih =>
    obtain ⟨h1, _, h2⟩ := h
    by_cases e : p.1 = k
    · have e' : q.1 = k := h1.symm.trans e
      have b : atKey (q :: qs) k = some q.2 := by simp [atKey, List.find?_cons, e']
      rw [valV_pos e, b]; exact h2
    · have e' : ¬ q.1 = k := fun z => e (h1.trans z)
      have b : atKey (q :: qs) k = atKey qs k := by simp [atKey, List.find?_cons, e']
      rw [valV_neg e, b]; exact ih
theorem KT.repl {H : Hp} {kvs : List (List Key × V)} {xs : List (List Key × Addr × Value)} (r : KT H kvs xs) (k : List Key) {y : V} {u : Value} (ry : RelV y u) :
    KT H (kvs.map fun kv => if kv.1 = k then (kv.1, y) else kv) (xs.map (putAt k u)) := by
  induction r with
  | nil => exact .nil
  | @cons p q ps qs h t ih =>
    rw [List.map_cons, List.map_cons]
    refine .cons ?_ ih
    obtain ⟨h1, h2, h3⟩ := h
    unfold putAt
    by_cases e : p.1 = k
    · rw [if_pos e, if_pos (h1.symm.trans e)]; exact ⟨h1, h2, ry⟩
    · rw [if_neg e, if_neg (fun z => e (h1.trans z))]; exact ⟨h1, h2, h3⟩
theorem KT.put {H : Hp} {kvs : List (List Key × V)} {xs : List (List Key × Addr × Value)} (r : KT H kvs xs) (k : List Key) {b : Addr} {y : V} {u : Value} (hb : H b = some (.tup (k.map kV))) (ry : RelV y u) :
    KT H (putK kvs k y) (storedH xs k b u) := by
  have e : (kvs.any fun kv => decide (kv.1 = k)) = (atKey xs k).isSome := by
    rw [valV_any, (r.val k).isSome_eq, Option.isSome_map]
  unfold putK storedH
  rw [e]
  by_cases q : (atKey xs k).isSome = true
  · rw [if_pos q, if_pos q]; exact r.repl k ry
  · rw [if_neg q, if_neg q]; exact Paired.snoc r ⟨rfl, hb, ry⟩
theorem KT.keeps {H H' : Hp} {kvs : List (List Key × V)} {xs : List (List Key × Addr × Value)} (r : KT H kvs xs) (ht : ∀ b ys, H b = some (.tup ys) → H' b = some (.tup ys)) : KT H' kvs xs :=
  Paired.mapP r fun _ _ z => ⟨z.1, ht _ _ z.2.1, z.2.2⟩
section
variable {P : Program} {w : World} {H : Hp} {h : Heap} {a : Addr}
theorem rd_of {u : HO} (ok : HOk P w H h) (e : Rd H a u) : ObjOk P w H h a u := e.ok ok
theorem dk_rd {kvs : List (Key × V)} (ok : HOk P w H h) (e : Rd H a (.dK kvs)) : kvs.length ≤ sizeLine ∧ (a == sysModules) = false ∧ ∃ vs, KV kvs vs ∧ h.DictOf (mixKind P w) a vs :=
  show ObjOk P w H h a (.dK kvs) from rd_of ok e
theorem dk_of {kvs : List (Key × V)} (ok : HOk P w H h) (e : H a = some (.dK kvs)) : kvs.length ≤ sizeLine ∧ (a == sysModules) = false ∧ ∃ vs, KV kvs vs ∧ h.DictOf (mixKind P w) a vs := dk_rd ok (.inl e)
theorem key_of {ks : List Key} (ok : HOk P w H h) (e : H a = some (.tup (ks.map kV))) : (tupleKind (mixKind P w)).is h ks a := by
  obtain ⟨_, its, r, o, h1, h2, n, h3⟩ := (show ObjOk P w H h a (.tup (ks.map kV)) from ok a _ e)
  exact ⟨o, its.toArray, n, h1, h2, h3, by simpa using items_are r⟩
theorem dt_rd {kvs : List (List Key × V)} (ok : HOk P w H h) (e : Rd H a (.dT kvs)) : kvs.length ≤ sizeLine ∧ (a == sysModules) = false ∧
    ∃ xs, KT H kvs xs ∧ h.DictOfH (tupleKind (mixKind P w)) a xs := by
  obtain ⟨z, y, xs, r, o, es, ep, h1, h2, h3, h4, h5⟩ := (show ObjOk P w H h a (.dT kvs) from rd_of ok e)
  refine ⟨z, y, xs, r, o, es, ep, h1, h2, h3, h4, fun x hx => ?_, h5⟩
  have all : ∀ {l : List (List Key × V)} {m : List (List Key × Addr × Value)}, KT H l m → ∀ x ∈ m, (tupleKind (mixKind P w)).is h x.1 x.2.1 := by
    intro l m q
    induction q with
    | nil => intro x hx; exact nomatch hx
    | @cons p q ps qs hq t ih =>
      intro x hx
      rcases List.mem_cons.mp hx with e | hx
      · subst e
        exact key_of ok (by rw [← hq.1]; exact hq.2.1)
      · exact ih x hx
  exact all r x hx
theorem dt_of {kvs : List (List Key × V)} (ok : HOk P w H h) (e : H a = some (.dT kvs)) : kvs.length ≤ sizeLine ∧ (a == sysModules) = false ∧
    ∃ xs, KT H kvs xs ∧ h.DictOfH (tupleKind (mixKind P w)) a xs := dt_rd ok (.inl e)
end
def DGet (H : Hp) (a : Addr) (y : V) (r : Option V) : Prop :=
  (∃ kvs k, Rd H a (.dK kvs) ∧ y = kV k ∧ r = valV kvs k) ∨ ∃ kvs k b, Rd H a (.dT kvs) ∧ y = .ref b ∧ H b = some (.tup (k.map kV)) ∧ r = valV kvs k
def DPut (H : Hp) (a : Addr) (y v : V) (H' : Hp) : Prop :=
  (∃ kvs k, H a = some (.dK kvs) ∧ y = kV k ∧ kvs.length < sizeLine ∧ H' = upd H a (.dK (putK kvs k v))) ∨
  ∃ kvs k b, H a = some (.dT kvs) ∧ y = .ref b ∧ H b = some (.tup (k.map kV)) ∧ kvs.length < sizeLine ∧ H' = upd H a (.dT (putK kvs k v))
theorem DGet.k {H : Hp} {a : Addr} {kvs : List (Key × V)} {k : Key} (e : H a = some (.dK kvs)) : DGet H a (kV k) (valV kvs k) := .inl ⟨kvs, k, .inl e, rfl, rfl⟩
theorem DGet.t {H : Hp} {a b : Addr} {kvs : List (List Key × V)} {k : List Key} (e : H a = some (.dT kvs)) (eb : H b = some (.tup (k.map kV))) : DGet H a (.ref b) (valV kvs k) := .inr ⟨kvs, k, b, .inl e, rfl, eb, rfl⟩
theorem DPut.k {H : Hp} {a : Addr} {kvs : List (Key × V)} {k : Key} {v : V} (e : H a = some (.dK kvs)) (hl : kvs.length < sizeLine) : DPut H a (kV k) v (upd H a (.dK (putK kvs k v))) := .inl ⟨kvs, k, e, rfl, hl, rfl⟩
theorem DPut.t {H : Hp} {a b : Addr} {kvs : List (List Key × V)} {k : List Key} {v : V} (e : H a = some (.dT kvs)) (eb : H b = some (.tup (k.map kV))) (hl : kvs.length < sizeLine) :
    DPut H a (.ref b) v (upd H a (.dT (putK kvs k v))) := .inr ⟨kvs, k, b, e, rfl, eb, hl, rfl⟩
section
variable {X : Cx} {pins : List (Addr × Obj)} {σ : St} {H : Hp} {s : Shared} {a : Addr} {y v : V} {u r : Value} {o : Option V} {A : Around} {E : Value → Shared → Prop}
theorem Inv.big (I : Inv X pins σ H s) : sysModules < s.heap.objs.size := by
  have h : mainGlobals < s.heap.objs.size := (I.mod.glob.keeps I.bk).lt
  exact Nat.lt_trans (by decide) h
theorem d_getItem {Q : Value → Shared → Prop} (hu : A.units + 1 < cLine) (I : Inv X pins σ H s) (g : DGet H a y (some v)) (ry : RelV y u) (h : ∀ w' s', Inv X pins σ H s' → RelV v w' → Q w' s') :
    wpAny (model X.prog X.w) A (getItem (.ref a) u) Q E s := by
  rcases g with ⟨kvs, k, e, ey, l⟩ | ⟨kvs, k, b, e, ey, eb, l⟩
  · subst ey
    obtain ⟨z, hd, vs, rel, dd⟩ := dk_rd I.hok e
    obtain ⟨w', hw, rw'⟩ := RelO.some_of (v := v) (o := valueAt vs k) (by rw [l]; exact rel.val k)
    exact wpAny_getItem_of (kV_is ry) dd.mapOf hw (h w' _ (I.tok _) rw')
  · subst ey
    cases (show u = Value.ref b from ry)
    obtain ⟨z, hd, xs, rel, dd⟩ := dt_rd I.hok e
    obtain ⟨w', hw, rw'⟩ := RelO.some_of (v := v) (o := (atKey xs k).map (·.2)) (by rw [l]; exact rel.val k)
    obtain ⟨p, hp, hp2⟩ := Option.map_eq_some_iff.mp hw
    refine wpAny_getItem_heap (tupleKind_room_in1 hu) (key_of I.hok eb) dd hp ?_
    rw [hp2]
    exact h w' _ (I.tok _) rw'
theorem d_notIn {Q : Value → Shared → Prop} (hu : A.units + 1 < cLine) (I : Inv X pins σ H s) (g : DGet H a y o) (ry : RelV y u) (h : ∀ s', Inv X pins σ H s' → Q (.bool (!o.isSome)) s') :
    wpAny (model X.prog X.w) A (compareOp .NotIn u (.ref a)) Q E s := by
  rcases g with ⟨kvs, k, e, ey, l⟩ | ⟨kvs, k, b, e, ey, eb, l⟩
  · subst ey
    obtain ⟨z, hd, vs, rel, dd⟩ := dk_rd I.hok e
    refine wpAny_notIn_of (kV_is ry) hd dd.mapOf ?_
    rw [← (rel.val k).isSome_eq, ← l]
    exact h _ (I.tok _)
  · subst ey
    cases (show u = Value.ref b from ry)
    obtain ⟨z, hd, xs, rel, dd⟩ := dt_rd I.hok e
    refine wpAny_notIn_heap (tupleKind_room_in1 hu) (key_of I.hok eb) hd dd ?_
    have q := (rel.val k).isSome_eq
    rw [Option.isSome_map] at q
    rw [← q, ← l]
    exact h _ (I.tok _)
theorem d_write {h' : Heap} {t' : Nat} {ob : HO} (I : Inv X pins σ H s) (mu : Mut (H a)) (hs : Heap.SameBut a s.heap h') (he : ∃ q, h'.get? a = some q) (new : ObjOk X.prog X.w (upd H a ob) h' a ob) :
    Inv X pins σ (upd H a ob) { s with heap := h', toks := t' } :=
  I.write (x := a) (e := a) mu (.inl rfl) (fun b q hb z => (hs.2 b hb).trans z) he new
theorem dk_new {P : Program} {w : World} {H' : Hp} {h' : Heap} {kvs : List (Key × V)} {vs : List (Key × Value)} (z : kvs.length ≤ sizeLine) (hd : (a == sysModules) = false) (rel : KV kvs vs) (dd : h'.DictOf (mixKind P w) a vs) :
    ObjOk P w H' h' a (.dK kvs) := ⟨z, hd, vs, rel, dd⟩
theorem d_setItem {H' : Hp} {Q : Unit → Shared → Prop} (hu : A.units + 1 < cLine) (I : Inv X pins σ H s) (g : DPut H a y v H') (ry : RelV y u) (rv : RelV v r) (h : ∀ s', Inv X pins σ H' s' → Q () s') :
    wpAny (model X.prog X.w) A (setItem (.ref a) u r) Q E s := by
  rcases g with ⟨kvs, k, e, ey, l, eH⟩ | ⟨kvs, k, b, e, ey, eb, l, eH⟩
  · subst ey eH
    obtain ⟨z, hd, vs, rel, dd⟩ := dk_of I.hok e
    have hz : vs.length ≤ sizeLine := by rw [← rel.length]; exact z
    have hl : (putK kvs k v).length ≤ sizeLine := by have := length_putK kvs k v; omega
    refine wpAny_setItem_pairs (hsz := hz) (kV_is ry) dd fun h' dd' hs => h _ ?_
    have he : ∃ q, h'.get? a = some q := let ⟨q, _, _, hq, _⟩ := dd'; ⟨q, hq⟩
    exact d_write I (by rw [e]; exact True.intro) hs he (dk_new hl hd (rel.put k rv) dd')
  · subst ey eH
    cases (show u = Value.ref b from ry)
    obtain ⟨z, hd, xs, rel, dd⟩ := dt_of I.hok e
    have hz : xs.length ≤ sizeLine := by rw [← Paired.length rel]; exact z
    have hl : (putK kvs k v).length ≤ sizeLine := by have := length_putK kvs k v; omega
    refine wpAny_setItem_heap (hsz := hz) (tupleKind_room_in1 hu) (key_of I.hok eb) dd fun h' dd' hs => h _ ?_
    obtain ⟨q, es, ep, hq, h2, h3, h4, _, h5⟩ := dd'
    refine d_write I (by rw [e]; exact True.intro) hs ⟨q, hq⟩ ⟨hl, hd, _, (rel.put k eb rv).keeps fun c ys ec => ?_, q, es, ep, hq, h2, h3, h4, h5⟩
    rw [upd_ne (ne_of ec e (fun z => nomatch z))]
    exact ec
end
section
variable {X : Cx} {pins : List (Addr × Obj)} {σ : St} {H : Hp} {s : Shared} {a : Addr} {kvs : List (Key × V)} {k : Key} {u : Value} {A : Around} {E : Value → Shared → Prop}
end
def NoSl (i : Expr) : Prop := ∀ ov iv, subscripted i false ov iv = operate [ov, iv] (getItem ov iv)
theorem subD_of {prog : Program} {w : World} {A : Around} {E : Value → Shared → Prop} {s : Shared} {env : Env} {value slice : Expr} {pos : Pos} {T id : String} {Q : Value → Shared → Prop}
    (hl : typeLookup (.type T) "__getitem__" = pure (some (.builtin id))) (hs : NoSl slice)
    (h : wpAny (model prog w) A (eval value env) (fun o s₁ => wpAny (model prog w) A (eval slice env) (fun i s₂ => s₂.TypeIs o T ∧ wpAny (model prog w) A (getItem o i) Q E s₂) E s₁) E s) :
    wpAny (model prog w) A (eval (.Subscript value slice pos) env) Q E s := by
  refine Subscript_ (wpAny_mono h (fun o s₁ h₁ => wpAny_mono h₁ (fun i s₂ h₂ => ?_) fun _ _ x => x) fun _ _ x => x)
  obtain ⟨hT, h₂⟩ := h₂
  unfold subscriptTail
  refine wpAny_bind ?_
  rw [getitemInPython_of_ne hT.not_modules]
  refine wpAny_bind (wpAny_specialOf hT hl ?_)
  have fin : wpAny (model prog w) A (subscripted slice false o i) (fun r s₃ => wpAny (model prog w) A (letTemporaryGo value o r >>= fun _ => pure r) Q E s₃) E s₂ := by
    rw [hs o i]
    exact wpAny_operating (wpAny_mono h₂ (fun r s₃ h₃ => wpAny_bind (wpAny_letTemporaryGo (wpAny_pure h₃))) fun _ _ x => x)
  first
    | exact wpAny_pure (wpAny_bind fin)
    | exact wpAny_bind (wpAny_pure (wpAny_bind fin))
    | exact wpAny_bind fin
theorem dict_typeIs {X : Cx} {pins : List (Addr × Obj)} {σ : St} {H : Hp} {s : Shared} {a : Addr} {y : V} {o : Option V} (I : Inv X pins σ H s) (g : DGet H a y o) : s.TypeIs (.ref a) "dict" := by
  rcases g with ⟨kvs, k, e, _, _⟩ | ⟨kvs, k, b, e, _, _, _⟩
  · obtain ⟨_, _, vs, _, dd⟩ := dk_rd I.hok e
    exact dd.typeIs
  · obtain ⟨_, _, xs, _, dd⟩ := dt_rd I.hok e
    exact dd.typeIs
def tDGet (td ty : TE) : TE := fun σ H Q => td σ H fun x H1 => ty σ H1 fun y H2 => ∃ a v, x = .ref a ∧ DGet H2 a y (some v) ∧ Q v H2
def tDNotIn (ty td : TE) : TE := fun σ H Q => ty σ H fun y H1 => td σ H1 fun x H2 => ∃ a o, x = .ref a ∧ DGet H2 a y o ∧ Q (.bl (!o.isSome)) H2
def sDPut (td ty tv : TE) : TS := fun D σ H => tv σ H fun v H1 => td σ H1 fun x H2 => ty σ H2 fun y H3 => ∃ a H4, x = .ref a ∧ DPut H3 a y v H4 ∧ D.nx σ H4
section
variable {X : Cx} {o i e value : Expr} {pos pos' tpos : Pos} {td ty tv : TE}
theorem pe_dget (hu : X.A.units + 1 < cLine) (ho : PE X o td) (hi : PE X i ty) (hs : NoSl i) : PE X (.Subscript o i pos) (tDGet td ty) := by
  intro pins s σ H Q I h
  refine subD_of PySem.F.slot_dict_getitem.lookup hs (thn (ho pins s σ H _ I h) fun u s1 ⟨x, H1, I1, rx, q1⟩ => thn (hi pins s1 σ H1 _ I1 q1) fun iv s2 ⟨y, H2, I2, ry, a, v, ex, g, q2⟩ => ?_)
  subst ex
  obtain rfl : u = Value.ref a := rx
  exact ⟨dict_typeIs I2 g, d_getItem hu I2 g ry fun w' s3 I3 rw' => ⟨v, H2, I3, rw', q2⟩⟩
theorem pc_dnotin (hu : X.A.units + 1 < cLine) (hi : PE X i ty) (ho : PE X o td) : PC X .NotIn i o (tDNotIn ty td) := by
  intro pins s σ H Q I h
  refine thn (hi pins s σ H _ I h) fun iv s1 ⟨y, H1, I1, ry, q1⟩ => thn (ho pins s1 σ H1 _ I1 q1) fun u s2 ⟨x, H2, I2, rx, a, ov, ex, g, q2⟩ => ?_
  subst ex
  obtain rfl : u = Value.ref a := rx
  exact d_notIn hu I2 g ry fun s3 I3 => ⟨.bl (!ov.isSome), H2, I3, rfl, q2⟩
theorem ps_dput (hu : X.A.units + 1 < cLine) (ho : PE X o td) (hi : PE X i ty) (hv : PE X value tv) (hs : swapsWith value (some (.Subscript o i pos')) pos.line X.env = pure false) :
    PS X (.Assign [.Subscript o i pos'] value pos) (sDPut td ty tv) := by
  intro pins s σ H D I h
  refine wpAny_Assign_Subscript (thn (hv pins s σ H _ I h) fun r s1 ⟨v, H1, I1, rv, q1⟩ => thn (ho pins s1 σ H1 _ I1 q1) fun u s2 ⟨x, H2, I2, rx, q2⟩ => thn (hi pins s2 σ H2 _ I2 q2) fun iv s3 ⟨y, H3, I3, ry, a, H4, ex, g, q3⟩ => ?_) hs
  subst ex
  obtain rfl : u = Value.ref a := rx
  exact d_setItem hu I3 g ry rv fun s4 I4 => ⟨σ, H4, I4, q3⟩
end
theorem dk_empty {P : Program} {w : World} {H : Hp} (h : Heap) (hb : sysModules < h.objs.size) : ObjOk P w H (h.push { cls := .type "dict", data := .dict #[] }) h.objs.size (.dK []) :=
  ⟨Nat.zero_le _, beq_eq_false_iff_ne.mpr (Ne.symm (Nat.ne_of_lt hb)), [], .nil, Heap.DictOf.new h⟩
section
variable {X : Cx} {pos : Pos}
end
def tPairs : List (TE × TE) → St → Hp → (List (V × V) → Hp → Prop) → Prop
  | [], _, H, Q => Q [] H
  | (tk, tv) :: r, σ, H, Q => tk σ H fun x H1 => tv σ H1 fun y H2 => tPairs r σ H2 fun ps H3 => Q ((x, y) :: ps) H3
abbrev VV : List (V × V) → List (Value × Value) → Prop := Paired fun p q => RelV p.1 q.1 ∧ RelV p.2 q.2
def PPs (X : Cx) (pos : Pos) (keys : List (Option Expr)) (values : List Expr) (trs : List (TE × TE)) : Prop :=
  ∀ (pins : List (Addr × Obj)) (s : Shared) (σ : St) (H : Hp) (Q : List (V × V) → Hp → Prop), Inv X pins σ H s → tPairs trs σ H Q →
    wpAny (model X.prog X.w) X.A (evalPairs (pairTrees keys values X.env pos)) (fun vs s' => ∃ ps H', Inv X pins σ H' s' ∧ VV ps vs ∧ Q ps H') X.xe s
theorem pps_nil {X : Cx} {pos : Pos} : PPs X pos [] [] [] := fun pins s σ H Q I h => pairTrees_nil_walk ⟨[], H, I, .nil, h⟩
theorem pps_cons {X : Cx} {pos : Pos} {k v : Expr} {ks : List (Option Expr)} {vs : List Expr} {tk tv : TE} {trs : List (TE × TE)} (hk : PE X k tk) (hv : PE X v tv) (hr : PPs X pos ks vs trs) :
    PPs X pos (some k :: ks) (v :: vs) ((tk, tv) :: trs) := fun pins s σ H Q I h =>
  pairTrees_cons_walk (thn (hk pins s σ H _ I h) fun u s1 ⟨x, H1, I1, rx, q1⟩ => thn (hv pins s1 σ H1 _ I1 q1) fun w2 s2 ⟨y, H2, I2, ry, q2⟩ =>
    thn (hr pins s2 σ H2 _ I2 q2) fun ws s3 ⟨ps, H3, I3, rel, q3⟩ => ⟨(x, y) :: ps, H3, I3, .cons ⟨rx, ry⟩ rel, q3⟩)
def mergeK (kvs more : List (Key × V)) : List (Key × V) := more.foldl (fun acc kv => putK acc kv.1 kv.2) kvs
theorem KV.merge : ∀ {more : List (Key × V)} {rs : List (Key × Value)} {kvs : List (Key × V)} {vs : List (Key × Value)}, KV more rs → KV kvs vs → KV (mergeK kvs more) (merged vs rs) := by
  intro more rs kvs vs r
  unfold KV at r
  induction r generalizing kvs vs with
  | nil => intro q; exact q
  | @cons p q ps qs h t ih =>
    intro r0
    have e : KV (putK kvs p.1 p.2) (stored vs q.1 q.2) := by
      have := r0.put p.1 h.2
      rw [← h.1]; exact this
    exact ih e
theorem length_mergeK : ∀ (more kvs : List (Key × V)), (mergeK kvs more).length ≤ kvs.length + more.length
  | [], kvs => by show kvs.length ≤ kvs.length + 0; omega
  | p :: r, kvs => by
    have h1 := length_mergeK r (putK kvs p.1 p.2)
    have h2 := length_putK kvs p.1 p.2
    show (mergeK (putK kvs p.1 p.2) r).length ≤ _
    rw [List.length_cons]; omega
theorem carries_of {P : Program} {w : World} : ∀ {kvs : List (Key × V)} {ws : List (Value × Value)}, VV (kvs.map fun kv => (kV kv.1, kv.2)) ws → ∃ rs, Carries (mixKind P w) ws rs ∧ KV kvs rs
  | [], _, r => by rw [List.map_nil] at r; cases r; exact ⟨[], True.intro, .nil⟩
  | p :: kvs, _, r => by
    rw [List.map_cons] at r
    cases r with
    | @cons a b as bs h t =>
      obtain ⟨rs, c, q⟩ := carries_of (P := P) (w := w) t
      obtain ⟨b1, b2⟩ := b
      exact ⟨(p.1, b2) :: rs, ⟨kV_is h.1, rfl, c⟩, .cons ⟨rfl, h.2⟩ q⟩
def tDisp (trs : List (TE × TE)) : TE := fun σ H Q => ∀ p, H p = none → tPairs trs σ (upd H p (.dK [])) fun ps H2 => H2 p = some (.dK []) ∧ ∃ kvs : List (Key × V), ps = kvs.map (fun kv => (kV kv.1, kv.2)) ∧ kvs.length ≤ 15 ∧ Q (.ref p) (upd H2 p (.dK (mergeK [] kvs)))
theorem pe_disp {X : Cx} {pos : Pos} {keys : List (Option Expr)} {values : List Expr} {trs : List (TE × TE)} (h : PPs X pos keys values trs) (hall : keys.all (·.isSome) = true) (hl : keys.length = values.length) (h0 : keys ≠ [])
    (h15 : keys.length ≤ 15) : PE X (.Dict keys values pos) (tDisp trs) := by
  intro pins s σ H Q I q
  have hn := I.hok.fresh (Nat.le_refl s.heap.objs.size)
  have I1 := I.laid (a := s.heap.objs.size) (o := .dK []) (h' := s.heap.push { cls := .type "dict", data := .dict #[] }) (t' := s.toks) (fun _ _ q => Heap.get?_push_of_some _ q) (Nat.le_refl _) (dk_empty s.heap I.big)
  refine wpAny_Dict_walk (knd := mixKind X.prog X.w) hall hl h0 h15 (thn (h pins _ σ _ _ I1 (q _ hn)) fun ws s2 ⟨ps, H2, I2, rel, e, kvs, ep, lk, q2⟩ => ?_)
  subst ep
  obtain ⟨rs, c, rk⟩ := carries_of (P := X.prog) (w := X.w) rel
  obtain ⟨z, hd, vs0, r0, dd⟩ := dk_of I2.hok e
  cases r0
  refine ⟨rs, c, dd, fun h' dd' hs => ⟨.ref s.heap.objs.size, _, ?_, rfl, q2⟩⟩
  have hz : (mergeK [] kvs).length ≤ sizeLine := by
    have h1 := length_mergeK kvs []
    rw [List.length_nil] at h1
    rw [sizeLine_eq]; omega
  have he : ∃ q, h'.get? s.heap.objs.size = some q := let ⟨q, _, _, hq, _⟩ := dd'; ⟨q, hq⟩
  exact d_write I2 (by rw [e]; exact True.intro) hs he (dk_new hz hd (rk.merge .nil) dd')
structure M1 (X : Cx) (o : Expr) (m : Str) (apos : Pos) (e : Expr) (cpos : Pos) : Prop where
  base : attributeBase o m X.env (eval o X.env) = eval o X.env
  few : ((backTo cpos (starEach [e] X.env)).all (fun x => !x.1) && (backToKw cpos (keywordEach [] X.env)).all (fun x => x.1.isSome)
    && decide (([e] : List Expr).length + ([] : List Keyword).length + (if ([] : List Keyword).isEmpty then 0 else 1) < 30)) = true
  line : (apos.endLine == cpos.line) = true
  trees : backTo cpos (starEach [e] X.env) = [(false, eval e X.env)]
structure M2 (X : Cx) (o : Expr) (m : Str) (apos : Pos) (e f : Expr) (cpos : Pos) : Prop where
  base : attributeBase o m X.env (eval o X.env) = eval o X.env
  few : ((backTo cpos (starEach [e, f] X.env)).all (fun x => !x.1) && (backToKw cpos (keywordEach [] X.env)).all (fun x => x.1.isSome)
    && decide (([e, f] : List Expr).length + ([] : List Keyword).length + (if ([] : List Keyword).isEmpty then 0 else 1) < 30)) = true
  line : (apos.endLine == cpos.line) = true
  trees : backTo cpos (starEach [e, f] X.env) = [(false, eval e X.env), (false, eval f X.env)]
section
variable {X : Cx} {pins : List (Addr × Obj)} {σ : St} {H : Hp} {s : Shared} {a : Addr} {y d : V} {u r : Value} {o : Option V} {A : Around} {E : Value → Shared → Prop}
end
section
variable {X : Cx} {o e f : Expr} {apos cpos : Pos} {td ty tx : TE}
end
section
variable {X : Cx} {pins : List (Addr × Obj)} {σ : St} {H : Hp} {s : Shared} {a : Addr} {kvs : List (Key × V)} {A : Around} {E : Value → Shared → Prop}
end
section
variable {X : Cx} {pins : List (Addr × Obj)} {σ : St} {H : Hp} {s : Shared} {a : Addr} {y : V} {u : Value} {A : Around} {E : Value → Shared → Prop}
end
end L2
set_option Elab.async false
set_option linter.all false
set_option maxRecDepth 100000
set_option maxHeartbeats 4000000
namespace L2
open PySem PySem.Spec PyProof.Rows
section
variable {X : Cx} {pos : Pos}
def rInX : R2 := fun x y H Q => ∃ c l, x = .str (tx [c]) ∧ y = .str (tx l) ∧ Q (.bl (decide (c ∈ l))) H
theorem op_inX : OpR X (compareOp .In) rInX := by
  intro pins s σ H x y v u Q I rx ry h
  obtain ⟨c, l, rfl, rfl, q⟩ := h
  refine op_in_str pins s σ H _ _ v u Q I rx ry ⟨_, _, rfl, rfl, ?_⟩
  have e : (!(Builtin.Str.occurrences (tx l) (tx [c]) 0 (tx l).length 1).isEmpty) = decide (c ∈ l) := StrLaws.found_one (tx l) c
  rw [e]
  exact q
theorem sub_one (l : List Nat) (c i : Nat) : (decide (i + (tx [c]).length ≤ (tx l).length) && Builtin.Str.subAt (tx l) (tx [c]) i) = decide (l[i]? = some c) := by
  rw [tx_len, tx_len]
  have hs : Builtin.Str.subAt (tx l) (tx [c]) i = decide ((l.drop i).take 1 = [c]) := by
    unfold Builtin.Str.subAt
    rw [tx_len]
    show (l.toArray.extract i (i + 1) == [c].toArray) = _
    rw [List.extract_toArray]
    show ((List.extract l i (i + 1)).toArray == [c].toArray) = _
    rw [List.extract_eq_take_drop, show i + 1 - i = 1 by omega, Bool.eq_iff_iff, beq_iff_eq, decide_eq_true_iff]
    exact ⟨fun h => by simpa using congrArg Array.toList h, fun h => by rw [h]⟩
  rw [hs, Bool.eq_iff_iff, Bool.and_eq_true, decide_eq_true_iff, decide_eq_true_iff, decide_eq_true_iff]
  constructor
  · rintro ⟨h1, h2⟩
    have h1' : i + 1 ≤ l.length := h1
    rw [List.drop_eq_getElem_cons (show i < l.length by omega)] at h2
    rw [List.take_succ_cons] at h2
    injection h2 with h3 _
    rw [List.getElem?_eq_getElem (show i < l.length by omega), h3]
  · intro h
    obtain ⟨hi, e⟩ := List.getElem?_eq_some_iff.mp h
    refine ⟨hi, ?_⟩
    rw [List.drop_eq_getElem_cons hi, e]
    rfl
def rStartX : V → List V → Hp → VK → Prop := fun x vs H Q => ∃ l c, x = .str (tx l) ∧ vs = [.str (tx [c])] ∧ Q (.bl (decide (l.head? = some c))) H
theorem mt_str_startswith1 : MtM X "str.startswith" rStartX := by
  intro pins s σ H x vs v us Q I rx rv h
  obtain ⟨l, c, rfl, rfl, q⟩ := h
  obtain ⟨t, rfl⟩ := rx
  obtain ⟨u, rfl, t', rfl⟩ := rv.one
  refine SC.startswith ?_
  have e : Txt.startswith (tx l) (tx [c]) = decide (l.head? = some c) := by
    have := sub_one l c 0
    rw [List.head?_eq_getElem?]
    exact this
  rw [e]
  exact ⟨.bl _, H, I, rfl, q⟩
def rStart2X : V → List V → Hp → VK → Prop := fun x vs H Q => ∃ l c i, ∃ j : Nat, x = .str (tx l) ∧ vs = [.str (tx [c]), .int i] ∧ i = (j : Int) ∧ Q (.bl (decide (l[j]? = some c))) H
theorem mt_str_startswith2 : MtM X "str.startswith" rStart2X := by
  intro pins s σ H x vs v us Q I rx rv h
  obtain ⟨l, c, i, j, rfl, rfl, rfl, q⟩ := h
  obtain ⟨t, rfl⟩ := rx
  obtain ⟨u, w, rfl, ⟨t1, rfl⟩, ⟨t2, rfl⟩⟩ := vals2 rv
  refine SC.startswith3 ?_
  have e : Txt.startswith3 (tx l) (tx [c]) (j : Int) = decide (l[j]? = some c) := by
    unfold Txt.startswith3
    have f : fromIndex (tx l).length (j : Int) = j := by
      unfold fromIndex
      rw [if_neg (by omega)]
      omega
    rw [f]
    exact sub_one l c j
  rw [e]
  exact ⟨.bl _, H, I, rfl, q⟩
def rSl2X : V → Option Int → Option Int → Hp → VK → Prop := fun x lo hi H Q => ∃ l, ∃ i j : Nat, x = .str (tx l) ∧ l.length ≤ sizeLine ∧ lo = some (i : Int) ∧ hi = some (j : Int) ∧ i ≤ j ∧ j ≤ l.length ∧ Q (.str (tx ((l.drop i).take (j - i)))) H
theorem slice_both (l : List Nat) (i j : Nat) (h1 : i ≤ j) (h2 : j ≤ l.length) : Txt.slice (tx l) (some (i : Int)) (some (j : Int)) = tx ((l.drop i).take (j - i)) := by
  have := eq_of_beq (slice_closesL (x := tx l) (i := (i : Int)) (j := (j : Int)) (by omega) (by omega) (by rw [tx_len]; omega))
  rw [this]
  refine str_ext ?_
  show (((tx l).cps.toList.drop (i : Int).toNat).take ((j : Int) - (i : Int)).toNat).toArray.toList = _
  rw [tx_list, Int.toNat_natCast, show ((j : Int) - (i : Int)).toNat = j - i by omega]
  rfl
theorem sl_2X : SlR X rSl2X := by
  intro pins s σ H x v vl vu lo hi sl Q I rx hs pl pu h
  obtain ⟨l, i, j, rfl, hz, rfl, rfl, h1, h2, q⟩ := h
  obtain ⟨t, rfl⟩ := rx
  have hz' : (tx l).length ≤ sizeLine := by rw [tx_len]; exact hz
  refine ⟨"str", _, F.slot_str_getitem.lookup, typeIs_str _ _ _, ?_⟩
  obtain ⟨os, hos, hcs, hds⟩ := id hs
  obtain ⟨u1, rfl⟩ : ∃ u1, vl = .int (i : Int) u1 := by cases pl with | int i u => exact ⟨u, rfl⟩
  obtain ⟨u2, rfl⟩ : ∃ u2, vu = .int (j : Int) u2 := by cases pu with | int i u => exact ⟨u, rfl⟩
  refine wpAny_getItem_str_slice (l := some ((i : Int), u1)) (u := some ((j : Int), u2)) (st := none) ⟨os, hos, hcs, hds⟩ rfl ?_
  refine post_val_or_str ⟨Nat.le_trans (Txt.slice_le (tx l) (some (i : Int)) (some (j : Int))) hz', fun t' k => ?_⟩
  refine ⟨.str (tx ((l.drop i).take (j - i))), H, I.tok _, ⟨t', ?_⟩, q⟩
  rw [← slice_both l i j h1 h2]
  rfl
def rIntX : List V → Hp → VK → Prop := fun xs H Q => ∃ l n, xs = [.str (tx l)] ∧ l.length ≤ 640 ∧ PySem.intText? (tx l) = some n ∧ Q (.int n) H
theorem call_intX : CallR X (.type "int") rIntX := by
  intro pins s σ H xs us Q I r h
  obtain ⟨l, n, rfl, hl, hn, q⟩ := h
  obtain ⟨u, rfl, t, rfl⟩ := vals1 r
  exact PySem.W.KIN.call_text hn (by rw [tx_len]; exact hl) ⟨.int n, H, I.tok _, ⟨_, rfl⟩, q⟩
end
theorem figs3 : ∀ a : Nat, a < 10 → ∀ b : Nat, b < 10 → ∀ c : Nat, c < 10 → PySem.intText? (tx [a + 48, b + 48, c + 48]) = some ((100 * a + 10 * b + c : Nat) : Int) ∧ PySem.intText? (tx [45, a + 48, b + 48, c + 48]) = some (-((100 * a + 10 * b + c : Nat) : Int)) := by
  decide +kernel
theorem figs2 : ∀ a : Nat, a < 10 → ∀ b : Nat, b < 10 → PySem.intText? (tx [a + 48, b + 48]) = some ((10 * a + b : Nat) : Int) ∧ PySem.intText? (tx [45, a + 48, b + 48]) = some (-((10 * a + b : Nat) : Int)) := by
  decide +kernel
theorem figs1 : ∀ a : Nat, a < 10 → PySem.intText? (tx [a + 48]) = some ((a : Nat) : Int) ∧ PySem.intText? (tx [45, a + 48]) = some (-((a : Nat) : Int)) := by
  decide +kernel
end L2
set_option Elab.async false
set_option linter.all false
set_option maxRecDepth 100000
set_option maxHeartbeats 4000000
namespace L2
open PySem PySem.Spec PyProof.Rows
section
variable {X : Cx} {pins : List (Addr × Obj)} {σ : St} {H : Hp} {s : Shared} {h' : Heap}
theorem Inv.turnLaid {fp : List Addr} {a : Addr} {o : HO} {t' : Nat} (I : Inv X pins σ H s) (k : ∀ b u, b ∉ fp → s.heap.get? b = some u → h'.get? b = some u) (hf : ∀ b ∈ fp, FpOk X pins H b)
    (hp : s.heap.objs.size ≤ a) (new : ObjOk X.prog X.w (upd H a o) h' a o) : Inv X pins σ (upd H a o) { s with heap := h', toks := t' } := by
  have hn := I.hok.fresh hp
  have nf : ∀ b u, H b = some u → b ∉ fp := fun b u e z => by rw [(hf b z).1] at e; cases e
  refine I.step (g' := s.gens) (d' := s.drawn) (ch := fp) (fun b hb => ⟨(hf b hb).2.2.2.1, (hf b hb).2.1, (hf b hb).2.2.2.2.1, (hf b hb).2.2.2.2.2⟩) (fun b o _ _ hc e _ => k b o hc e) (fun b o _ _ hc e _ => ⟨o.slots, k b o hc e⟩)
    (fun b o _ e n => by rw [upd_ne (Nat.ne_of_lt (Nat.lt_of_lt_of_le (Heap.lt_size e) hp))]; exact n) (fun b o hc e => ⟨o, k b o hc e⟩) (fun b xs e => by rw [upd_ne (ne_of_none e hn)]; exact e)
    (fun b o u e => by rw [upd_ne (ne_of_none e hn)]; exact e) (fun b ps e => ⟨#[], by rw [upd_ne (ne_of_none e hn), e]; simp⟩) (fun m hm => ?_) (fun b u e => ?_) I.bare
  · obtain ⟨o, es, ep, ho, r⟩ := hm
    exact ⟨o, es, ep, k _ o (fun z => (hf _ z).2.1 rfl) ho, r⟩
  · by_cases hb : b = a
    · subst hb; rw [upd_same] at e; cases e; exact new
    · rw [upd_ne hb] at e
      refine (I.hok b u e).stay (fun c v hc q => k c v ?_ q) (fun c q => by rw [upd_ne (ne_of_none q hn)]; exact q) fun c xs q => by rw [upd_ne (ne_of_none q hn)]; exact q
      rcases hc with z | z
      · rw [z]; exact nf b u e
      · exact nf c _ z
theorem Inv.turnedL {fp : List Addr} {t' : Nat} (I : Inv X pins σ H s) (k : ∀ b u, b ∉ fp → s.heap.get? b = some u → h'.get? b = some u) (hf : ∀ b ∈ fp, FpOk X pins H b) : Inv X pins σ H { s with heap := h', toks := t' } := by
  have nf : ∀ b u, H b = some u → b ∉ fp := fun b u e z => by rw [(hf b z).1] at e; cases e
  refine I.step (g' := s.gens) (d' := s.drawn) (ch := fp) (fun b hb => ⟨(hf b hb).2.2.2.1, (hf b hb).2.1, (hf b hb).2.2.2.2.1, (hf b hb).2.2.2.2.2⟩) (fun b o _ _ hc e _ => k b o hc e) (fun b o _ _ hc e _ => ⟨o.slots, k b o hc e⟩)
    (fun b o _ e n => n) (fun b o hc e => ⟨o, k b o hc e⟩) (fun b xs e => e) (fun b o u e => e) (fun b ps e => ⟨#[], by rw [e]; simp⟩) (fun m hm => ?_) (fun b u e => ?_) I.bare
  · obtain ⟨o, es, ep, ho, r⟩ := hm
    exact ⟨o, es, ep, k _ o (fun z => (hf _ z).2.1 rfl) ho, r⟩
  · refine (I.hok b u e).stay (fun c v hc q => k c v ?_ q) (fun c q => q) fun c xs q => q
    rcases hc with z | z
    · rw [z]; exact nf b u e
    · exact nf c _ z
end
namespace En
section
variable {prog : Program} {w : World} {A : Around} {E : Value → Shared → Prop} {s : Shared}
theorem next_pair {e it : Addr} {fp : List Addr} {n i : Nat} {j : Int} {P : Nat → Value → Prop} {St : Nat → Heap → Prop} {old : Value} {Q : Option Value → Shared → Prop} (D : Draws prog w A.in1 it fp n P St)
    (he : IsEnum s.heap e it j old) (hst : St i s.heap) (hlt : i < n) (hne : e ≠ it) (hef : e ∉ fp)
    (hQ : ∀ x h' tk, P i x → IsEnumOut h' e it (j + 1) x s.heap.objs.size → St (i + 1) h' → h'.get? s.heap.objs.size = some { cls := .type "tuple", data := .seq #[.int j tk, x] } →
      (∀ b o, b ≠ e → b ≠ it → s.heap.get? b = some o → h'.get? b = some o) → Q (some (.ref s.heap.objs.size)) { s with heap := h', toks := tk + 1 }) :
    wpAny (model prog w) A (pyNext (.ref e)) Q E s := by
  have hT : s.TypeIs (.ref e) "enumerate" := ⟨_, he, rfl⟩
  unfold pyNext
  refine wpAny_bind (wpAny_attempt (wpAny_callSpecial?_slot (name := Str.ofString "__next__") hT F.slot_enumerate_next (wpAny_call_entry F.slot_enumerate_next hT F.entry_enumerate_next ?_ (F.args_enumerate_next_1 _))))
  obtain ⟨hp, g, d, tk₀, os⟩ := s
  show wpAny _ _ (field (.ref e) 2 >>= _) _ _ _
  refine wpAny_bind (wpAny_field he rfl (x := .ref it) rfl (wpAny_bind (D.item i _ _ _ hlt hst fun x h₁ tk hPx hit₁ hs₁ => ?_)))
  replace hs₁ : Heap.SameBut it hp h₁ := hs₁
  have he₁ : IsEnum h₁ e it j old := (hs₁.2 e hne).trans he
  show wpAny _ _ (field (.ref e) 3 >>= _) _ _ ⟨h₁, g, d, tk, os⟩
  refine wpAny_bind (wpAny_field he₁ rfl (x := rawInt j) rfl ?_)
  show wpAny _ _ (field (.ref e) 4 >>= _) _ _ ⟨h₁, g, d, tk, os⟩
  refine wpAny_bind (wpAny_field he₁ rfl (x := .none) rfl ?_)
  show wpAny _ _ (mkInt j >>= _) _ _ ⟨h₁, g, d, tk, os⟩
  refine wpAny_bind (wpAny_mkInt ?_)
  show wpAny _ _ (setField (.ref e) 3 (rawInt (j + 1)) >>= _) _ _ ⟨h₁, g, d, tk + 1, os⟩
  refine wpAny_bind (wpAny_setField_rec he₁ (by simp) fun h₂ he₂ hs₂ => ?_)
  replace hs₂ : Heap.SameBut e h₁ h₂ := hs₂
  replace he₂ : IsEnum h₂ e it (j + 1) old := he₂
  show wpAny _ _ (setField (.ref e) 4 .none >>= _) _ _ ⟨h₂, g, d, tk + 1, os⟩
  refine wpAny_bind (wpAny_setField_rec he₂ (by simp) fun h₃ he₃ hs₃ => ?_)
  replace hs₃ : Heap.SameBut e h₂ h₃ := hs₃
  replace he₃ : IsEnum h₃ e it (j + 1) old := he₃
  show wpAny _ _ (newTuple [.int j tk, x] >>= _) _ _ ⟨h₃, g, d, tk + 1, os⟩
  refine wpAny_bind (wpAny_newTuple ?_)
  have he₄ : IsEnum (h₃.push { cls := .type "tuple", data := .seq #[.int j tk, x] }) e it (j + 1) old := Heap.get?_push_of_some _ he₃
  generalize hh₄ : h₃.push { cls := .type "tuple", data := .seq #[.int j tk, x] } = h₄ at he₄
  have hsz : h₃.objs.size = hp.objs.size := by rw [hs₃.1, hs₂.1, hs₁.1]
  have hel : e < hp.objs.size := Heap.lt_size he
  have ht₄ : h₄.get? hp.objs.size = some { cls := .type "tuple", data := .seq #[.int j tk, x] } := by rw [← hh₄, ← hsz]; exact Heap.get?_push_size _ rfl
  have hk₄ : ∀ b o, b ≠ e → b ≠ it → hp.get? b = some o → h₄.get? b = some o := fun b o hbe hbi hb => by
    rw [← hh₄]
    exact Heap.get?_push_of_some _ (hs₃.extBut b o hbe (hs₂.extBut b o hbe (hs₁.extBut b o hbi hb)))
  have hit₄ : St (i + 1) h₄ := D.frame _ _ _ hit₁ fun b hb o y => by
    have hbe : b ≠ e := fun q => hef (q ▸ hb)
    rw [← hh₄]
    exact Heap.get?_push_of_some _ (hs₃.extBut b o hbe (hs₂.extBut b o hbe y))
  show wpAny _ _ (Builtin.SmallTypes.ownedTupleIsFree (.ref e) >>= _) _ _ ⟨h₄, g, d, tk + 1, os⟩
  rw [hsz]
  clear hh₄ he₃ hs₃ he₂ hs₂ he₁ hs₁ hit₁ hsz h₃ h₂ h₁
  refine wpAny_bind ?_
  unfold Builtin.SmallTypes.ownedTupleIsFree
  refine wpAny_bind (wpAny_field he₄ rfl (x := .none) rfl (wpAny_pure ?_))
  simp only [if_true]
  refine wpAny_bind (wpAny_rule (wpAny_bind (wpAny_field he₄ rfl (x := old) rfl (wpAny_bind (wpAny_setField_rec he₄ (by simp) fun h₅ he₅ hs₅ => ?_)))))
  replace hs₅ : Heap.SameBut e h₄ h₅ := hs₅
  replace he₅ : IsEnum h₅ e it (j + 1) x := he₅
  show wpAny _ _ (Builtin.SmallTypes.ownedTupleHandOut (.ref e) (.ref hp.objs.size) >>= _) _ _ ⟨h₅, g, d, tk + 1, os⟩
  refine wpAny_bind ?_
  unfold Builtin.SmallTypes.ownedTupleHandOut
  refine wpAny_bind (wpAny_setField_rec he₅ (by simp) fun h₆ he₆ hs₆ => ?_)
  replace hs₆ : Heap.SameBut e h₅ h₆ := hs₆
  replace he₆ : IsEnumOut h₆ e it (j + 1) x hp.objs.size := he₆
  refine wpAny_setField_rec he₆ (by simp) fun h₇ he₇ hs₇ => ?_
  replace hs₇ : Heap.SameBut e h₆ h₇ := hs₇
  replace he₇ : IsEnumOut h₇ e it (j + 1) x hp.objs.size := he₇
  refine wpAny_bind (wpAny_letGo (wpAny_pure ⟨_, rfl, wpAny_pure (hQ x h₇ tk hPx he₇ ?_ ?_ ?_)⟩))
  · exact D.frame _ _ _ hit₄ fun b hb o y => by
      have hbe : b ≠ e := fun q => hef (q ▸ hb)
      exact hs₇.extBut b o hbe (hs₆.extBut b o hbe (hs₅.extBut b o hbe y))
  · exact hs₇.extBut _ _ (Nat.ne_of_gt hel) (hs₆.extBut _ _ (Nat.ne_of_gt hel) (hs₅.extBut _ _ (Nat.ne_of_gt hel) ht₄))
  · exact fun b o hbe hbi hb => hs₇.extBut b o hbe (hs₆.extBut b o hbe (hs₅.extBut b o hbe (hk₄ b o hbe hbi hb)))
theorem new_start (x : Str) (t : Tok) (k : Int) (u : Tok) (hk : 0 ≤ k) (hk2 : k < 1000) :
    Meets (Builtin.«enumerate.__new__» ⟨[.type "enumerate", .str x t], [("start", .int k u)]⟩) (fun _ R s =>
      R (.ok (.ret (.ref (s.heap.push { cls := .type (strIterType x), data := .fields #[.str x t, .int 0 0] }).objs.size)))
        { s with heap := (s.heap.push { cls := .type (strIterType x), data := .fields #[.str x t, .int 0 0] }).push { cls := .type "enumerate", data := .fields #[.none, .bool false, .ref s.heap.objs.size, rawInt k, .none, .none] } }) :=
  .of_wp fun prog w A R s h => by
    obtain ⟨hp, g, d, tk, os⟩ := s
    have hsub := sub_enumerate
    have f1 := AutoSeq1.idx_int
    have hfit : (!Builtin.SmallTypes.fitsIndex k) = false := by
      unfold Builtin.SmallTypes.fitsIndex
      simp
      omega
    wp_walk
    refine wpAny_stack_any fun st => wpAny_pure ?_
    split
    · rename_i c _ _ _ _ _
      cases (c == Value.type "enumerate")
      · wp_walk using wpAny_pyIter_strU
        exact ⟨_, rfl, h⟩
      · wp_walk using wpAny_pyIter_strU
        exact ⟨_, rfl, h⟩
    · wp_walk using wpAny_pyIter_strU
      exact ⟨_, rfl, h⟩
theorem init_kw {T newId : String} {self a : Value} {kw : List (Str × Value)} (hl : typeLookup (.type T) "__init__" = pure (some (.builtin "object.__init__"))) (hm : Bind.madeBy (.type T) = pure (some newId)) (hne : (some newId != some "object.__new__") = true) :
    Meets (Builtin.«object.__init__» ⟨[self, a], kw⟩) (fun _ R s => s.TypeIs self T ∧ R (.ok (.ret .none)) s) := by
  refine Meets.of_wp fun prog w A R s hs => ?_
  obtain ⟨hT, hq⟩ := hs
  repeat (any_goals (first | assumption | wp_step))
  exact ⟨_, rfl, hq⟩
theorem ct_kw (a b : Value) : checkTypeCall "enumerate" ⟨[a], [("start", b)]⟩ = pure () := by kernel_rfl
theorem cn_kw (a b : Value) : checkBuiltinCall "enumerate.__new__" ⟨[.type "enumerate", a], [("start", b)]⟩ = pure () := by kernel_rfl
theorem ok_kw (a b c : Value) : argsOk "object.__init__" ⟨[a, b], [("start", c)]⟩ := by
  unfold argsOk
  rw [signature?_of (id := "object.__init__") (n := ['_', '_', 't', 'i', 'n', 'i', '_', '_']) (o := ['t', 'c', 'e', 'j', 'b', 'o']) (by kernel_rfl) F.owner_object]
  kernel_rfl
theorem call_start {x : Str} {t : Tok} {k : Int} {u : Tok} {Q : Value → Shared → Prop} (hk : 0 ≤ k) (hk2 : k < 1000)
    (h : ∀ h', IsEnum h' (s.heap.objs.size + 1) s.heap.objs.size k .none → h'.IsStrIter s.heap.objs.size (strIterType x) x t 0 → (∀ b o, s.heap.get? b = some o → h'.get? b = some o) → Q (.ref (s.heap.objs.size + 1)) { s with heap := h' }) :
    wpAny (model prog w) A (call (.type "enumerate") [.str x t] [("start", .int k u)]) Q E s := by
  have ft := F.called_enumerate
  obtain ⟨c, tl, hmro⟩ := ft.mro
  have hmade := ft.made
  have hsub := ft.sub
  have hct := ct_kw (.str x t) (.int k u)
  have hcn := cn_kw (.str x t) (.int k u)
  refine wpAny_call (codeAny_of_tree ?_)
  show wpAny _ _ (callAny (.type "enumerate") _) _ _ _
  refine wpAny_pure ⟨Code.quiet_builtin _ (by decide +kernel), codeAny_builtin F.entry_type_call ?_⟩
  rw [Around.under_plain (weight_type_call_type "enumerate" [.str x t] [("start", .int k u)]) (units_type_call_type "enumerate" [.str x t] [("start", .int k u)])]
  have h1 := ft.notType
  have h2 := ft.canCreate
  repeat (any_goals (first | assumption | wp_step))
  refine codeAny_mono (codeAny_call_builtin ft.plain F.entry_enumerate_new (wpAny_of_eq hcn (new_start x t k u hk hk2 prog w A.in1 (wants (fun obj s₁ => s₁.TypeIs obj "enumerate" ∧ Q obj s₁) E) s ?_))) fun r s₁ hr => ?_
  · have hz : (s.heap.push { cls := .type (strIterType x), data := .fields #[.str x t, .int 0 0] }).objs.size = s.heap.objs.size + 1 := Heap.size_push ..
    show _ ∧ _
    rw [hz]
    have he : IsEnum ((s.heap.push { cls := .type (strIterType x), data := .fields #[.str x t, .int 0 0] }).push { cls := .type "enumerate", data := .fields #[.none, .bool false, .ref s.heap.objs.size, rawInt k, .none, .none] }) (s.heap.objs.size + 1) s.heap.objs.size k .none := by
      have q := Heap.get?_push_size (s.heap.push { cls := .type (strIterType x), data := .fields #[.str x t, .int 0 0] }) (o := { cls := .type "enumerate", data := .fields #[.none, .bool false, .ref s.heap.objs.size, rawInt k, .none, .none] }) rfl
      rw [hz] at q
      exact q
    exact ⟨⟨_, he, rfl⟩, h _ he ⟨_, Heap.get?_push_of_some _ (Heap.get?_push_size _ rfl), rfl, rfl⟩ fun b o y => Heap.get?_push_of_some _ (Heap.get?_push_of_some _ y)⟩
  cases r with
  | error e => exact hr
  | ok fl =>
    cases fl with
    | ret obj =>
      obtain ⟨hT, hq⟩ := hr
      have hli := ft.init.lookup
      have hbi := ft.init.bind obj
      have hok := ok_kw obj (.str x t) (.int k u)
      have hsi : (fun (_ : Around) (R : Result → Shared → Prop) (s : Shared) => s.TypeIs obj "enumerate" ∧ R (.ok (.ret .none)) s) A.in1 (wants (fun r s₂ => r = .none ∧ Q obj s₂) E) s₁ := ⟨hT, rfl, hq⟩
      have gi := init_kw (T := "enumerate") (self := obj) (a := .str x t) (kw := [("start", .int k u)]) ft.init.lookup ft.made (by decide)
      repeat (any_goals (first | assumption | wp_step))
      refine codeAny_mono (codeAny_call_builtin ft.init.plain F.entry_object_init (ft.init.check _ _ _ _ _ _ _ _ hT hok (gi prog w A.in1 _ s₁ hsi))) fun r₂ s₂ hr₂ => ?_
      cases r₂ with
      | error e => exact hr₂
      | ok fl₂ =>
        cases fl₂ with
        | ret r =>
          obtain ⟨rfl, hq⟩ := hr₂
          repeat (any_goals (first | assumption | wp_step))
        | _ => exact hr₂.elim
    | _ => exact hr.elim
end
end En
end L2
set_option Elab.async false
set_option linter.all false
set_option maxRecDepth 100000
set_option maxHeartbeats 4000000
namespace L2
open PySem PySem.Spec PyProof.Rows
def Ite (l : List Nat) (n : Int) : It :=
  ⟨fun i _ => i < l.length, fun i H x H' => ∃ p c, H p = none ∧ l[i]? = some c ∧ x = .ref p ∧ H' = upd H p (.tup [.int (n + (i : Int)), .str (tx [c])]), fun i _ => l.length ≤ i⟩
theorem draws_str {prog : Program} {w : World} {A : Around} (hh : A.handled = none) (it : Addr) (x : Str) (t : Tok) :
    Draws prog w A it [it] x.cps.size (fun i v => ∃ c u, x.cps[i]? = some c ∧ v = .str ⟨#[c]⟩ u) (fun i h => h.IsStrIter it (strIterType x) x t i) := by
  cases ha : x.cps.all (· < 128)
  · have e : strIterType x = "str_iterator" := by simp [strIterType, ha]
    rw [e]
    exact Draws.strWide hh it x t
  · have e : strIterType x = "str_ascii_iterator" := by simp [strIterType, ha]
    rw [e]
    exact Draws.strAscii hh it x t
theorem turn_enum {P : Program} {w : World} {K : PySem.W.Frag} {elts : List Expr} {x1 : Nat} {tp : Pos} (e it : Addr) (hei : e ≠ it) (l : List Nat) (t : Tok) (n : Int) :
    Turn P w K (.Tuple elts x1 tp) (Ite l n) [e, it] e (fun i h => i ≤ l.length ∧ (∃ old, IsEnum h e it (n + (i : Int)) old) ∧ h.IsStrIter it (strIterType (tx l)) (tx l) t i) where
  mem := by simp
  obj := fun i h st b hb => by
    obtain ⟨_, ⟨old, he⟩, o, ho, hc, hd⟩ := st
    rcases List.mem_cons.mp hb with rfl | hb
    · exact ⟨_, he, fun v z => by cases z⟩
    · rw [List.mem_singleton.mp hb]
      exact ⟨o, ho, fun v z => by rw [hd] at z; cases z⟩
  keep := fun i h h' st k => by
    obtain ⟨hl, ⟨old, he⟩, o, ho, r⟩ := st
    exact ⟨hl, ⟨old, k e (by simp) _ he⟩, o, k it (by simp) _ ho, r⟩
  item := by
    intro X hP hw hK hc i pins s σ H E I hf st hg
    subst hP hw hK
    obtain ⟨hl, ⟨old, he⟩, hst⟩ := st
    have hg' : i < l.length := hg
    have D := draws_str (prog := X.prog) (w := X.w) (A := X.A.in1) (I.ok.hd hc) it (tx l) t
    have hel : e < s.heap.objs.size := Heap.lt_size he
    refine En.next_pair D he hst (by show i < l.toArray.size; simpa using hg') hei (by simp [hei]) fun x h' tk hPx ho hs' hT hk => ?_
    obtain ⟨c, u, hcx, rfl⟩ := hPx
    have hcl : l[i]? = some c := by
      have : l.toArray[i]? = some c := hcx
      simpa using this
    refine ⟨_, rfl, ?_⟩
    refine wpAny_letOwnedTupleGo_enum ho fun h'' he' hs'' => ?_
    have hT2 : h''.get? s.heap.objs.size = some { cls := .type "tuple", data := .seq #[.int (n + (i : Int)) tk, .str ⟨#[c]⟩ u] } := (hs''.2 _ (Nat.ne_of_gt hel)).trans hT
    have hkk : ∀ b ob, b ∉ [e, it] → s.heap.get? b = some ob → h''.get? b = some ob := fun b ob hb q => by
      have h1 : b ≠ e := fun z => hb (by simp [z])
      have h2 : b ≠ it := fun z => hb (by simp [z])
      exact (hs''.2 b h1).trans (hk b ob h1 h2 q)
    have hfr := I.hok.fresh (Nat.le_refl s.heap.objs.size)
    refine ⟨.ref s.heap.objs.size, _, I.turnLaid (fp := [e, it]) (a := s.heap.objs.size) (o := .tup [.int (n + (i : Int)), .str (tx [c])]) (h' := h'') (t' := tk + 1) hkk hf (Nat.le_refl _) ?_, rfl, ⟨_, c, hfr, hcl, rfl, rfl⟩, ⟨hg', ⟨.str ⟨#[c]⟩ u, ?_⟩, ?_⟩, fun b hb => ?_⟩
    · exact ⟨by show 2 ≤ sizeLine; decide, [.int (n + (i : Int)) tk, .str ⟨#[c]⟩ u], .cons ⟨_, rfl⟩ (.cons ⟨_, rfl⟩ .nil), _, hT2, rfl, _, rfl⟩
    · rw [show n + ((i + 1 : Nat) : Int) = n + (i : Int) + 1 by omega]
      exact he'
    · exact D.frame _ _ _ hs' fun b hb o q => (hs''.2 b (by rw [List.mem_singleton.mp hb]; exact Ne.symm hei)).trans q
    · rw [upd_ne]
      · exact (hf b hb).1
      · intro z
        subst z
        rcases List.mem_cons.mp hb with z | hb
        · exact absurd hel (by rw [← z]; exact Nat.lt_irrefl _)
        · obtain ⟨o, ho, _⟩ := hst
          exact absurd (Heap.lt_size ho) (by rw [← List.mem_singleton.mp hb]; exact Nat.lt_irrefl _)
  done := by
    intro X hP hw hK hc i pins s σ H E I hf st hg
    subst hP hw hK
    obtain ⟨hl, ⟨old, he⟩, hst⟩ := st
    have hg' : l.length ≤ i := hg
    have ei : i = l.length := Nat.le_antisymm hl hg'
    subst ei
    have D := draws_str (prog := X.prog) (w := X.w) (A := X.A.in1) (I.ok.hd hc) it (tx l) t
    have hsz : (tx l).cps.size = l.length := by show l.toArray.size = _; simp
    refine wpAny_pyNext_enum_endD D he (by rw [hsz]; exact hst) fun h' eb => ⟨rfl, I.turnedL (fp := [e, it]) (t' := s.toks) (fun b o hb q => eb b o (fun z => hb (by simp [z])) q) hf⟩
  self := fun A i s Q E st h => by
    obtain ⟨_, ⟨old, he⟩, _⟩ := st
    have hT : s.TypeIs (.ref e) "enumerate" := ⟨_, he, rfl⟩
    refine wpAny_pyIter_slot hT F.slot_enumerate_iter (wpAny_call_entry F.slot_enumerate_iter hT F.entry_enumerate_iter ?_ (F.args_enumerate_iter_1 _))
    show wpAny _ _ (ret (.ref e)) _ _ s
    exact wpAny_pure ⟨_, rfl, "enumerate", _, hT, F.slot_enumerate_next.lookup, h⟩
section
variable {X : Cx}
def iEnum (n : Int) (ta : TA) : TI := fun σ H R => ta σ H fun vs H1 => ∃ l, vs = [.str (tx l)] ∧ 0 ≤ n ∧ n < 1000 ∧ R (Ite l n) H1
theorem pi_enum {a : Expr} {te : TE} {elts : List Expr} {x1 : Nat} {tp p pos kp kq : Pos} {n : Int} {j : Nat} (hg : Gl X "enumerate") (hm : X.mg "enumerate" = none) (he : PE X a te)
    (hs : starEach [a] X.env = (false, eval a X.env) :: starEach [] X.env := by rfl)
    (hpl : ((backTo pos (starEach [a] X.env)).any (·.1) || (backToKw pos (keywordEach [⟨some "start", .Constant (.int n) j kq, kp⟩] X.env)).any (·.1.isNone)) = false := by rfl) :
    PI X (.Tuple elts x1 tp) (.Call (.Name "enumerate" p) [a] [⟨some "start", .Constant (.int n) j kq, kp⟩] pos) (iEnum n (tCons te tNil)) := by
  intro pins s σ H R I h
  refine wpAny_Call_Name_kw (ld_blt I hg hm boot_enumerate ?_)
  refine PySem.W.callWith_of (P := fun _ => True) hpl (fun _ _ => ⟨.machine, .inr (.inl rfl), fun _ _ _ _ _ q => wpAny_pure q⟩) (evalArgs_kw2 rfl (thn ((pa_cons he pa_nil hs) pos pins s σ H _ I h) fun us s1 ⟨vs, H1, I1, r, q⟩ => ?_) hs)
  refine thn ((pk_cons pe_int pk_nil : PK X [⟨some "start", .Constant (.int n) j kq, kp⟩] _) pos pins s1 σ H1 (fun zs H2 => zs = [.int n] ∧ H2 = H1) I1 ⟨rfl, rfl⟩) fun ws s2 ⟨zs, H2, I2, rz, e1, e2⟩ => ⟨True.intro, ?_⟩
  subst e1 e2
  obtain ⟨l, rfl, hn1, hn2, q⟩ := q
  obtain ⟨u, rfl, t, rfl⟩ := vals1 r
  obtain ⟨u2, rfl, t2, rfl⟩ := vals1 rz
  show wpAny _ _ (call (.type "enumerate") [.str (tx l) t] [("start", .int n t2)]) _ _ s2
  refine En.call_start hn1 hn2 fun h' he' hit hk => ?_
  have I3 : Inv X pins σ H2 { s2 with heap := h' } := I2.kept (t' := s2.toks) hk
  have hst : (0 : Nat) ≤ l.length ∧ (∃ old, IsEnum h' (s2.heap.objs.size + 1) s2.heap.objs.size (n + ((0 : Nat) : Int)) old) ∧ h'.IsStrIter s2.heap.objs.size (strIterType (tx l)) (tx l) t 0 :=
    ⟨Nat.zero_le _, ⟨_, by rw [show n + ((0 : Nat) : Int) = n by omega]; exact he'⟩, hit⟩
  have T := turn_enum (P := X.prog) (w := X.w) (K := X.K) (elts := elts) (x1 := x1) (tp := tp) (s2.heap.objs.size + 1) s2.heap.objs.size (Nat.succ_ne_self _) l t n
  refine T.self _ 0 { s2 with heap := h' } _ _ hst ⟨_, _, _, _, H2, rfl, I3, T, hst, fun b hb => ?_, q⟩
  rcases List.mem_cons.mp hb with e | hb
  · subst e
    exact I2.fpOk (Nat.le_succ _) (I2.hok.fresh (Nat.le_succ _))
  · rw [List.mem_singleton.mp hb]
    exact I2.fpOk (Nat.le_refl _) (I2.hok.fresh (Nat.le_refl _))
end
theorem for_enum {l : List Nat} {n : Int} {g : TG} {tb : TS} {D : Ends} {σ : St} {H : Hp} (Pv : Nat → St → Hp → Prop) (h0 : Pv 0 σ H)
    (hs : ∀ i c σ H p, l[i]? = some c → H p = none → Pv i σ H → g (.ref p) σ (upd H p (.tup [.int (n + (i : Int)), .str (tx [c])])) fun σ2 H2 => tb { D with nx := Pv (i + 1), ct := Pv (i + 1), bk := D.nx } σ2 H2) (hd : ∀ σ H, Pv l.length σ H → D.nx σ H) :
    ∃ W : Nat → Nat → St → Hp → Prop, (∃ m, W 0 m σ H) ∧ ∀ i m σ H, W i m σ H →
      ((Ite l n).stop i H ∧ D.nx σ H) ∨ ((Ite l n).go i H ∧ ∃ N : St → Hp → Prop, (∀ σ' H', N σ' H' → ∃ m', m' < m ∧ W (i + 1) m' σ' H') ∧ ∀ x H', (Ite l n).yld i H x H' → g x σ H' fun σ2 H2 => tb { D with nx := N, ct := N, bk := D.nx } σ2 H2) := by
  refine ⟨fun i m σ H => m = l.length - i ∧ i ≤ l.length ∧ Pv i σ H, ⟨l.length, by simp, Nat.zero_le _, h0⟩, ?_⟩
  rintro i m σ H ⟨rfl, hi, p⟩
  by_cases hlt : i < l.length
  · refine .inr ⟨hlt, Pv (i + 1), fun σ' H' p' => ⟨l.length - (i + 1), by omega, rfl, hlt, p'⟩, fun x H' y => ?_⟩
    obtain ⟨q, c, hq, hc, rfl, rfl⟩ := y
    exact hs i c σ H q hc hq p
  · have e : i = l.length := by omega
    subst e
    exact .inl ⟨Nat.le_refl _, hd σ H p⟩
end L2
set_option Elab.async false
set_option linter.all false
set_option maxRecDepth 100000
set_option maxHeartbeats 4000000
namespace L2
open PySem PySem.Spec PyProof.Rows
section
variable {X : Cx}
end
end L2
set_option Elab.async false
set_option linter.all false
set_option maxRecDepth 100000
set_option maxHeartbeats 4000000
namespace L2
open PySem PySem.Spec PyProof.Rows
def CXw (P : Program) (w : World) : CXT := fun outer H s E e s' => ∃ (x C : Addr) (B : Heap) (H' : Hp) (a0 : Value), e = .ref x ∧ s'.os = s.os ∧ AllBare s'.gens ∧ Heap.FlyingW B outer x (.ref C) a0 s'.heap ∧
  Un (frs outer) [] H H' s.heap s'.heap ∧ HOk P w H' B ∧ (∀ b o, s.heap.get? b = some o → H b = none → b ∉ frs outer → B.get? b = some o) ∧ (∀ b o, s.heap.get? b = some o → b ∉ frs outer → ∃ o', B.get? b = some o') ∧ E (.ref C) none H'
section
variable {P : Program} {w : World} {K : PySem.W.Frag} {mg : Str → Option Value} {base : Heap} {N : List Str} {qual : Str} {scope : Scope} {f : Addr} {cd : Value} {A : Around} {outer : List Env} {s : Shared} {H : Hp} {E : XK}
  {pins : List (Addr × Obj)} {σ : St} {H1 : Hp} {s1 : Shared}
theorem ex_frames {b : Addr} {o : Obj} (I : Inv (cxOf (CXw P w) P w K mg base N qual scope f cd A outer s H E) pins σ H1 s1) (e : s.heap.get? b = some o) (hb : b ∉ frs outer) : b ∉ frs (cxOf (CXw P w) P w K mg base N qual scope f cd A outer s H E).stack := fun z => by
  rcases List.mem_cons.mp (show b ∈ s.heap.objs.size :: frs outer from z) with z | z
  · exact absurd (Heap.lt_size e) (by rw [z]; exact Nat.lt_irrefl _)
  · exact hb z
theorem leave_made {e C : Addr} {vs : List Value} {h' : Heap} (I : Inv (cxOf (CXw P w) P w K mg base N qual scope f cd A outer s H E) pins σ H1 s1) (hm : Heap.MadeExcOf s1.heap h' e (.ref C) vs) (q : E (.ref C) none H1) :
    (cxOf (CXw P w) P w K mg base N qual scope f cd A outer s H E).xe (.ref e) { s1 with heap := h' } := by
  have hfr := I.ok.frames
  have hin : ∀ env ∈ (cxOf (CXw P w) P w K mg base N qual scope f cd A outer s H E).stack, ∀ b, env.frame = some b → b ∈ frs (cxOf (CXw P w) P w K mg base N qual scope f cd A outer s H E).stack := fun env he b hb => List.mem_filterMap.mpr ⟨env, he, hb⟩
  have hff := PySem.W.funFrames_hide I.stack hin
  refine wpAny_leaves_madeW (s := { s1 with heap := h' }) (base := PySem.W.hideAll s1.heap (frs (cxOf (CXw P w) P w K mg base N qual scope f cd A outer s H E).stack)) (h := s1.heap) (L := s.heap.objs.size) hfr rfl (fun b o z => PySem.W.of_hideAll _ z) hff hm fun h'' t fl tup hnt ups => ?_
  have kb : ∀ b o, s.heap.get? b = some o → H b = none → b ∉ frs outer → (PySem.W.hideAll s1.heap (frs (cxOf (CXw P w) P w K mg base N qual scope f cd A outer s H E).stack)).get? b = some o := fun b o e1 e2 e3 =>
    PySem.W.hideAll_get _ (I.base.keep b o e1 e2 e3 (by simp [cxOf])) (ex_frames I e1 e3)
  have tb : ∀ b o, s.heap.get? b = some o → b ∉ frs outer → ∃ o', (PySem.W.hideAll s1.heap (frs (cxOf (CXw P w) P w K mg base N qual scope f cd A outer s H E).stack)).get? b = some o' := fun b o e1 e3 => by
    obtain ⟨o', e4⟩ := I.base.there b o e1 (by simp [cxOf])
    exact ⟨o', PySem.W.hideAll_get _ e4 (ex_frames I e1 e3)⟩
  have fr : ∀ b o, s1.heap.get? b = some o → b ∈ frs outer → ∃ sl, h''.get? b = some { o with slots := sl } := fun b o e1 e2 => by
    obtain ⟨_, o2, e3, nf⟩ := I.stack.mem (show b ∈ frs (cxOf (CXw P w) P w K mg base N qual scope f cd A outer s H E).stack from List.mem_cons_of_mem _ e2)
    rw [e1] at e3
    cases e3
    exact ups b o (hm.keeps b o e1) nf
  refine ⟨e, C, _, H1, .ref t, rfl, I.os, I.bare, fl, ?_, ?_, kb, tb, q⟩
  · refine ⟨fun b o e1 e2 e3 _ => fl.1 b o (kb b o e1 e2 e3), fun b o e1 e2 e3 _ => ?_, fun b o e1 e2 _ => I.base.free b o e1 e2 (by simp [cxOf]), fun b o e1 _ => ?_, I.base.tups, I.base.frzs, I.base.tbls⟩
    · obtain ⟨sl, e4⟩ := I.base.slot b o e1 e2 e3 (by simp [cxOf])
      obtain ⟨sl2, e5⟩ := fr b _ e4 e3
      exact ⟨sl2, e5⟩
    · by_cases hb : b ∈ frs outer
      · obtain ⟨o', e4⟩ := I.base.there b o e1 (by simp [cxOf])
        obtain ⟨sl, e5⟩ := fr b o' e4 hb
        exact ⟨_, e5⟩
      · obtain ⟨o', e4⟩ := tb b o e1 hb
        exact ⟨o', fl.1 b o' e4⟩
  · intro b u e1
    have nfr : ∀ c v, H1 c = some v → c ∉ frs (cxOf (CXw P w) P w K mg base N qual scope f cd A outer s H E).stack := fun c v e2 z => by
      rw [I.stkFree c z] at e2
      cases e2
    refine (I.hok b u e1).stay (fun c v hc z => PySem.W.hideAll_get _ z ?_) (fun c z => z) fun c xs z => z
    rcases hc with z2 | z2
    · rw [z2]; exact nfr b u e1
    · exact nfr c _ z2
theorem pass1 : Passes (CXw P w) (cxOf (CXw P w) P w K mg base N qual scope f cd A outer s H E) E := by
  intro pins σ H1 s1 e s2 I cx
  obtain ⟨x, C, B, H', a0, rfl, os, bare, fl, un, hokB, kb, tb, q⟩ := cx
  refine wpAny_leaves_onW (L := s.heap.objs.size) I.ok.frames rfl fl fun h'' fl' ups => ?_
  have kb' : ∀ b o, s.heap.get? b = some o → H b = none → b ∉ frs outer → B.get? b = some o := fun b o e1 e2 e3 =>
    kb b o (I.base.keep b o e1 e2 e3 (by simp [cxOf])) (I.base.free b o e1 e2 (by simp [cxOf])) (ex_frames I e1 e3)
  have tb' : ∀ b o, s.heap.get? b = some o → b ∉ frs outer → ∃ o', B.get? b = some o' := fun b o e1 e3 => by
    obtain ⟨o', e4⟩ := I.base.there b o e1 (by simp [cxOf])
    exact tb b o' e4 (ex_frames I e1 e3)
  have fr : ∀ b o, s1.heap.get? b = some o → b ∈ frs outer → ∃ sl, h''.get? b = some { o with slots := sl } := fun b o e1 e2 => by
    have hin : b ∈ frs (cxOf (CXw P w) P w K mg base N qual scope f cd A outer s H E).stack := List.mem_cons_of_mem _ e2
    obtain ⟨_, o2, e3, nf⟩ := I.stack.mem hin
    rw [e1] at e3
    cases e3
    obtain ⟨sl, e4⟩ := un.slot b o e1 (I.stkFree b hin) hin (by simp)
    obtain ⟨sl2, e5⟩ := ups b _ e4 nf
    exact ⟨sl2, e5⟩
  refine ⟨x, C, B, H', a0, rfl, os.trans I.os, bare, fl', ⟨fun b o e1 e2 e3 _ => fl'.1 b o (kb' b o e1 e2 e3), fun b o e1 e2 e3 _ => ?_, fun b o e1 e2 _ => ?_, fun b o e1 _ => ?_, fun b xs e1 => un.tups b xs (I.base.tups b xs e1), fun b o xs e1 => un.frzs b o xs (I.base.frzs b o xs e1), fun b ps e1 => ?_⟩, hokB, kb', tb', q⟩
  · obtain ⟨sl, e4⟩ := I.base.slot b o e1 e2 e3 (by simp [cxOf])
    obtain ⟨sl2, e5⟩ := fr b _ e4 e3
    exact ⟨sl2, e5⟩
  · obtain ⟨o', e4⟩ := I.base.there b o e1 (by simp [cxOf])
    exact un.free b o' e4 (I.base.free b o e1 e2 (by simp [cxOf])) (by simp)
  · by_cases hb : b ∈ frs outer
    · obtain ⟨o', e4⟩ := I.base.there b o e1 (by simp [cxOf])
      obtain ⟨sl, e5⟩ := fr b o' e4 hb
      exact ⟨_, e5⟩
    · obtain ⟨o', e4⟩ := tb' b o e1 hb
      exact ⟨o', fl'.1 b o' e4⟩
  · obtain ⟨m1, e2⟩ := I.base.tbls b ps e1
    obtain ⟨m2, e3⟩ := un.tbls b _ e2
    exact ⟨m1 ++ m2, by rw [e3, Array.append_assoc]⟩
end
end L2
set_option Elab.async false
set_option linter.all false
set_option maxRecDepth 100000
set_option maxHeartbeats 4000000
namespace L2
open PySem PySem.Spec PyProof.Rows
section
variable {X : Cx} {pos : Pos}
abbrev TJ := St → Hp → List Nat → VK → Prop
def PJ (X : Cx) (es : List Expr) (t : TJ) : Prop :=
  ∀ (pins : List (Addr × Obj)) (s : Shared) (σ : St) (H : Hp) (acc : List Nat) (Q : VK), Inv X pins σ H s → t σ H acc Q → wpAny (model X.prog X.w) X.A (joinParts (tx acc) (evalEach es X.env)) (EP X pins σ Q) X.xe s
theorem pj_nil : PJ X [] (fun σ H acc Q => acc.length ≤ 1000000 ∧ Q (.str (tx acc)) H) := fun pins s σ H acc Q I h =>
  joinParts_nil ⟨.str (tx acc), H, I.tok _, ⟨_, rfl⟩, h.2⟩ (by rw [tx_len]; exact Nat.le_trans h.1 (by decide))
theorem pj_cons {e : Expr} {es : List Expr} {te : TE} {t : TJ} (he : PE X e te) (hr : PJ X es t) (hs : evalEach (e :: es) X.env = eval e X.env :: evalEach es X.env := by rfl) :
    PJ X (e :: es) (fun σ H acc Q => te σ H fun v H1 => ∃ l, v = .str (tx l) ∧ acc.length + l.length ≤ 1000000 ∧ t σ H1 (acc ++ l) Q) := by
  intro pins s σ H acc Q I h
  rw [hs]
  refine joinParts_cons (thn (he pins s σ H _ I h) fun v s1 ⟨x, H1, I1, r, l, e1, hl, q⟩ => ?_)
  subst e1
  obtain ⟨t', rfl⟩ := r
  refine ⟨?_, ?_⟩
  · rw [tx_app, tx_len, List.length_append]
    exact Nat.le_trans hl (by decide)
  · rw [tx_app]
    exact hr pins s1 σ H1 (acc ++ l) Q I1 q
theorem pe_joined {a b : Expr} {es : List Expr} {t : TJ} (h : PJ X (a :: b :: es) t) (hs : evalEach (a :: b :: es) X.env = eval a X.env :: eval b X.env :: evalEach es X.env := by rfl) : PE X (.JoinedStr (a :: b :: es) pos) (fun σ H Q => t σ H [] Q) := by
  intro pins s σ H Q I q
  refine JoinedStr_many ?_
  have := h pins s σ H [] Q I q
  rw [hs] at this
  exact this
theorem pe_fmtI {e : Expr} {te : TE} (he : PE X e te) : PE X (.FormattedValue e (-1) none pos) (fun σ H Q => te σ H fun v H1 => ∃ n : Int, v = .int n ∧ n.natAbs < 10000000000 ∧ Q (.str (tx (digs n))) H1) := by
  intro pins s σ H Q I h
  refine FormattedValue_plain (thn (he pins s σ H _ I h) fun v s1 ⟨x, H1, I1, r, n, e1, hl, q⟩ => ?_)
  subst e1
  obtain ⟨t', rfl⟩ := r
  refine formatField_int_small (log_small hl) ?_
  exact ⟨.str (tx (digs n)), H1, I1.tok _, ⟨_, by rw [tx_of (toString n : Str)]; rfl⟩, q⟩
theorem repr_one : ∀ c : Nat, c < 128 → (reprText (tx [c])).length ≤ 10 := by decide +kernel
theorem pe_fmtR {e : Expr} {te : TE} (he : PE X e te) : PE X (.FormattedValue e 114 none pos) (fun σ H Q => te σ H fun v H1 => ∃ c, v = .str (tx [c]) ∧ c < 128 ∧ ∀ l : List Nat, l.length ≤ 10 → Q (.str (tx l)) H1) := by
  intro pins s σ H Q I h
  refine wpAny_FormattedValue_repr (thn (he pins s σ H _ I h) fun v s1 ⟨x, H1, I1, r, c, e1, hc, q⟩ => ?_)
  subst e1
  obtain ⟨t', rfl⟩ := r
  have hz := repr_one c hc
  refine wpAny_pyReprObj_gives (typeIs_str _ _ _) F.slot_str_repr F.entry_str_repr (F.args_str_repr_1 _) (gives_str_repr (tx [c]) t') ?_ rfl (Nat.le_trans hz (by decide))
  refine formatField_str (fun t2 tk => ⟨.str (reprText (tx [c])), H1, (I1.tok _).tok _, ⟨_, rfl⟩, ?_⟩) (Nat.le_trans hz (by decide))
  rw [tx_of (reprText (tx [c]))]
  exact q _ (by
    have : (reprText (tx [c])).cps.toList.length = (reprText (tx [c])).length := Array.length_toList
    omega)
abbrev mroV : List Value := [.type "ValueError", .type "Exception", .type "BaseException", .type "object"]
abbrev ExcC (K : PySem.W.Frag) (C : Addr) : Prop := PySem.W.excIn K C mroV "ValueError.__new__" = true
theorem exc_obj {K : PySem.W.Frag} {h : Heap} {C : Addr} (XK : K.In h) (q : ExcC K C) : ∃ bm N nm qn bs hdct sn sub ab col dd k0 k1 k2 k3 k5 mN,
    h.get? C = some (excClassObj nm qn C N bs bm hdct sn sub ab col dd k0 k1 k2 k3 k5 "ValueError.__new__") ∧ h.Ns N mN ∧ mN "__init__" = none ∧ OwnTail h mroV bm := by
  have q' : PySem.W.excIn K C mroV "ValueError.__new__" = true := q
  unfold PySem.W.excIn at q'
  split at q'
  · rename_i dd cls slt hlook
    split at q'
    · rename_i C2 bm a0 a1 a2 a3 nid a5 hmro hslots
      simp only [Bool.and_eq_true, beq_iff_eq, Bool.not_eq_true'] at q'
      obtain ⟨⟨⟨⟨⟨rfl, rfl⟩, hdel⟩, htail⟩, hns⟩, hinit⟩ := q'
      obtain ⟨nm, bs, mro, ns, qn, hd, sn, sub, ab, col, del⟩ := cls
      dsimp only at hmro hdel hns hinit
      subst hmro hdel
      have hsl : slt = #[a0, a1, a2, a3, some (.builtin "ValueError.__new__"), a5] := by
        obtain ⟨l⟩ := slt
        simp only at hslots
        rw [hslots]
      subst hsl
      exact ⟨bm, ns, nm, qn, bs, hd, sn, sub, ab, col, dd, a0, a1, a2, a3, a5, _, XK _ _ hlook, .of_isNs (PySem.W.isNs_of_in XK hns), PySem.W.nsMap_none_of_in XK hns hinit, PySem.W.tail_of_in XK htail⟩
    · cases q'
  · cases q'
def tRaise (C : Addr) (E : XK) (te : TE) : TS := fun _ σ H => te σ H fun _ H1 => E (.ref C) none H1
theorem ps_raise {x : Str} {C : Addr} {E : XK} {e₀ : Expr} {te : TE} {np cpos : Pos} (hc : X.calm = true) (hg : Gl X x) (hm : X.mg x = some (.ref C)) (hC : ExcC X.K C) (he : PE X e₀ te)
    (hx : ∀ (pins : List (Addr × Obj)) (σ : St) (H : Hp) (s : Shared) (h' : Heap) (e : Addr) (vs : List Value), Inv X pins σ H s → Heap.MadeExcOf s.heap h' e (.ref C) vs → E (.ref C) none H → X.xe (.ref e) { s with heap := h' })
    (hs : starEach [e₀] X.env = [(false, eval e₀ X.env)] := by rfl) (hdb : (x == ("__debug__" : Str)) = false := by decide) :
    PS X (.Raise (some (.Call (.Name x np) [e₀] [] cpos)) none pos) (tRaise C E te) := by
  intro pins s σ H D I h
  obtain ⟨bm, N, nm, qn, bs, hdct, sn, sub, ab, col, dd, k0, k1, k2, k3, k5, mN, o1, o2, o3, o4⟩ := exc_obj I.ok.mod.kin hC
  have kp : ∀ {σ' H' s'}, Inv X pins σ' H' s' → ∀ b o, X.base.get? b = some o → s'.heap.get? b = some o := fun J b o q => (J.bs b o q).1
  refine wpAny_Raise_call_subT (C := C) (nm := nm) (q := qn) (N := N) (bs := bs) (bm := bm) (hdct := hdct) (sn := sn) (sub := sub) (ab := ab) (col := col) (dd := dd) (k0 := k0) (k1 := k1) (k2 := k2) (k3 := k3) (k5 := k5)
    F.excBase_ValueError (mN := mN) (o4.hasType (by decide +kernel)) (I.ok.hd hc) (by rw [hs]; rfl) o3 (ld_glob I hg hm ⟨rfl, ?_⟩ hdb)
  rw [hs]
  refine Calls.evalArgs_plain (Calls.spliced_cons (thn (he pins s σ H _ I h) fun v s1 ⟨y, H1, I1, r, q⟩ => Calls.spliced_nil ?_))
  exact ⟨rfl, by show 1 ≤ sizeLine; decide, kp I1 _ _ o1, o2.keeps (kp I1), o4.keeps (kp I1), fun h' e hmk => hx pins σ H1 s1 h' e _ I1 hmk q⟩
end
section
variable {P : Program} {w : World} {K : PySem.W.Frag} {mg : Str → Option Value} {base : Heap}
theorem Fun.okX {x qual : Str} {st : Stmt} {f : Addr} {fd : FuncData} {N ps : List Str} {k : Nat} {sp : Sp} (F : Fun K x qual st f fd) (S : FnScope N ps (defScope st)) (len : ∀ vs H Q E, sp vs H Q E → vs.length = ps.length)
    (hbody : ∀ (cdv : Value) (A : Around) (outer : List Env) (s : Shared) (H : Hp) (vs : List V) (Q : VK) (E : XK), Room k (A.deeper (envOfC qual (defScope st) s.heap.objs.size f cdv)) → sp vs H Q E →
      ∃ t, PSs (cxOf (CXw P w) P w K mg base N qual (defScope st) f cdv A outer s H E) (defBody st) t ∧ t { nx := fun _ H' => Q .non H', rt := Q } (start N vs) H) : FnOk P w K mg base (CXw P w) (k + 1) f fd ps sp := by
  obtain ⟨oc, od, kV, doc, pm, an, cdv, ct, osl, rfl, lk, hcd⟩ := F.ex
  exact fn_of lk hcd S len fun A outer s H vs Q E hr hsp => hbody cdv A outer s H vs Q E hr hsp
end
end L2
set_option Elab.async false
set_option linter.all false
set_option maxRecDepth 100000
set_option maxHeartbeats 4000000
namespace L2
open PySem PySem.Spec PyProof.Rows
theorem ObjOk.get {P : Program} {w : World} {H : Hp} {h : Heap} {a : Addr} {o : HO} (x : ObjOk P w H h a o) : ∃ u, h.get? a = some u := by
  cases o with
  | lst xs => obtain ⟨_, _, _, _, e⟩ := x; exact ⟨_, e⟩
  | tup xs => obtain ⟨_, _, _, ob, e, _⟩ := x; exact ⟨_, e⟩
  | dK kvs => obtain ⟨_, _, _, _, o, _, _, e, _⟩ := x; exact ⟨_, e⟩
  | dT kvs => obtain ⟨_, _, _, _, o, _, _, e, _⟩ := x; exact ⟨_, e⟩
  | set S n => obtain ⟨o, _, _, _, e, _⟩ := x; exact ⟨_, e⟩
  | ins C dx fs => obtain ⟨_, _, _, e, _⟩ := x; exact ⟨_, e⟩
  | own y => exact x
  | xd fs => obtain ⟨_, ⟨_, _, _, e, _⟩, _⟩ := x; exact ⟨_, e⟩
  | rng lo hi => obtain ⟨_, _, _, e⟩ := x; exact ⟨_, e⟩
  | frz ob u => obtain ⟨e, _⟩ := x; exact ⟨_, e⟩
  | tbl ps => exact ⟨_, show h.get? a = some _ from x⟩
  | met f y => exact ⟨_, show h.get? a = some _ from x⟩
  | ext φ => obtain ⟨_, e, _⟩ := x; exact e
def ExAt (x C : Addr) (h : Heap) : Prop := ∃ ob vs, h.get? x = some ob ∧ ob.cls = .ref C ∧ ob.data = .fields vs
theorem ExAt.stay {x C : Addr} {h1 h2 : Heap} (p : ExAt x C h1) (k : ∀ o, h1.get? x = some o → h2.get? x = some o) : ExAt x C h2 := by
  obtain ⟨ob, vs, e, r⟩ := p
  exact ⟨ob, vs, k _ e, r⟩
def Thr (X : Cx) (pins : List (Addr × Obj)) (σ : St) (H' : Hp) (x C : Addr) (s : Shared) : Prop :=
  ∃ (B : Heap) (H1 : Hp) (s1 : Shared) (a0 : Value), Inv X pins σ H1 s1 ∧ s.os = s1.os ∧ AllBare s.gens ∧ Heap.FlyingW B X.stack x (.ref C) a0 s.heap ∧ Un (frs X.stack) [] H1 H' s1.heap s.heap ∧ HOk X.prog X.w H' B ∧
    (∀ b o, s1.heap.get? b = some o → H1 b = none → b ∉ frs X.stack → B.get? b = some o) ∧ (∀ b o, s1.heap.get? b = some o → b ∉ frs X.stack → ∃ o', B.get? b = some o')
section
variable {X : Cx} {pins : List (Addr × Obj)} {σ : St} {H' : Hp} {x C : Addr} {s : Shared}
theorem Thr.of {E : XK} {H : Hp} {s1 : Shared} {e : Value} (I : Inv X pins σ H s1) (cx : CXw X.prog X.w X.stack H s1 E e s) : ∃ x C H', e = .ref x ∧ Thr X pins σ H' x C s ∧ E (.ref C) none H' := by
  obtain ⟨x, C, B, H', a0, rfl, os, bare, fl, un, hokB, kb, tb, q⟩ := cx
  exact ⟨x, C, H', rfl, ⟨B, H, s1, a0, I, os, bare, fl, un, hokB, kb, tb⟩, q⟩
theorem Inv.noRec {H : Hp} {s1 : Shared} (I : Inv X pins σ H s1) {b : Addr} (hb : b ∈ frs X.stack) : ∃ o, s1.heap.get? b = some o ∧ ∀ vs, o.data ≠ .fields vs := by
  obtain ⟨_, o, e, n⟩ := I.stack.mem hb
  exact ⟨o, e, n⟩
theorem Thr.look {Q : Unit → Shared → Prop} {E : Value → Shared → Prop} {A : Around} (t : Thr X pins σ H' x C s) (hst : X.stack = X.env :: X.outer) (hf : X.env.frame = some X.env.locals) (hA : A.frames = some X.stack)
    (h : ∀ h', Thr X pins σ H' x C { s with heap := h' } → Q () { s with heap := h' }) :
    wpAny (model X.prog X.w) A (noteFrame (.ref x) X.env) (fun _ s2 => wpAny (model X.prog X.w) A (setFlight (.ref x) none) Q E s2) E s := by
  obtain ⟨B, H1, s1, a0, I, os, bare, fl, un, hok, kb, tb⟩ := t
  have fl' := fl
  rw [hst] at fl'
  refine wpAny_looks_onW (base := B) (hA.trans (by rw [hst])) hf fl' fun h2 hh u1 => ?_
  refine wpAny_landsW hh fun h3 fl3 u2 => h h3 ?_
  have u := u1.trans u2
  have fr : ∀ b o, s1.heap.get? b = some o → b ∈ frs X.stack → ∃ sl, h3.get? b = some { o with slots := sl } := fun b o e hb => by
    obtain ⟨o2, e2, nr⟩ := I.noRec hb
    rw [e] at e2
    cases e2
    obtain ⟨sl, e4⟩ := un.slot b o e (I.stkFree b hb) hb (by simp)
    obtain ⟨sl2, e5⟩ := u b _ e4 nr
    exact ⟨sl2, e5⟩
  refine ⟨B, H1, s1, a0, I, os, bare, by rw [hst]; exact fl3, ⟨fun b o e1 e2 e3 _ => fl3.1 b o (kb b o e1 e2 e3), fun b o e1 _ e3 _ => fr b o e1 e3, un.free, fun b o e1 _ => ?_, un.tups, un.frzs, un.tbls⟩, hok, kb, tb⟩
  by_cases hb : b ∈ frs X.stack
  · obtain ⟨sl, e5⟩ := fr b o e1 hb
    exact ⟨_, e5⟩
  · obtain ⟨o', e4⟩ := tb b o e1 hb
    exact ⟨o', fl3.1 b o' e4⟩
theorem Thr.again {Q : Unit → Shared → Prop} {E : Value → Shared → Prop} {A : Around} (t : Thr X pins σ H' x C s) (h : ∀ h', Thr X pins σ H' x C { s with heap := h' } → Q () { s with heap := h' }) :
    wpAny (model X.prog X.w) A (setFlight (.ref x) none) Q E s := by
  obtain ⟨B, H1, s1, a0, I, os, bare, fl, un, hok, kb, tb⟩ := t
  refine lands_againW fl fun h3 fl3 u => h h3 ?_
  have fr : ∀ b o, s1.heap.get? b = some o → b ∈ frs X.stack → ∃ sl, h3.get? b = some { o with slots := sl } := fun b o e hb => by
    obtain ⟨o2, e2, nr⟩ := I.noRec hb
    rw [e] at e2
    cases e2
    obtain ⟨sl, e4⟩ := un.slot b o e (I.stkFree b hb) hb (by simp)
    obtain ⟨sl2, e5⟩ := u b _ e4 nr
    exact ⟨sl2, e5⟩
  refine ⟨B, H1, s1, a0, I, os, bare, fl3, ⟨fun b o e1 e2 e3 _ => fl3.1 b o (kb b o e1 e2 e3), fun b o e1 _ e3 _ => fr b o e1 e3, un.free, fun b o e1 _ => ?_, un.tups, un.frzs, un.tbls⟩, hok, kb, tb⟩
  by_cases hb : b ∈ frs X.stack
  · obtain ⟨sl, e5⟩ := fr b o e1 hb
    exact ⟨_, e5⟩
  · obtain ⟨o', e4⟩ := tb b o e1 hb
    exact ⟨o', fl3.1 b o' e4⟩
theorem Thr.inv (t : Thr X pins σ H' x C s) : Inv X pins σ H' s := by
  obtain ⟨B, H1, s1, a0, I, os, bare, fl, un, hok, kb, tb⟩ := t
  exact I.call' (ch := []) os un (hok.kept fl.1) bare (fun b z => absurd z (by simp))
theorem Thr.none (t : Thr X pins σ H' x C s) : H' x = none := by
  obtain ⟨B, H1, s1, a0, I, os, bare, fl, un, hok, kb, tb⟩ := t
  cases e : H' x with
  | none => rfl
  | some u =>
    obtain ⟨o, e1⟩ := (hok x u e).get
    rw [fl.2.1] at e1
    cases e1
theorem Thr.at (t : Thr X pins σ H' x C s) : ExAt x C s.heap := by
  obtain ⟨B, H1, s1, a0, I, os, bare, fl, un, hok, kb, tb⟩ := t
  obtain ⟨oe, vs, he, hc, hd, _⟩ := fl.first
  exact ⟨oe, vs, he, hc, hd⟩
abbrev Cx.mkd (X : Cx) (x : Addr) : Cx := { X with A := X.A.mark (some (.ref x)), calm := false, xe := fun _ _ => False }
theorem Inv.mkd {H : Hp} (I : Inv X pins σ H s) (x : Addr) : Inv (X.mkd x) pins σ H s :=
  ⟨⟨I.ok.mod, I.ok.kind, I.ok.glob, I.ok.blt, I.ok.above, I.ok.inj, I.ok.has, I.ok.cab, (fun z => by cases z), I.ok.frames, I.ok.stk, I.ok.exf, I.ok.bs, I.ok.bsz, I.ok.noex, I.ok.exfs, I.ok.funs, I.ok.frf⟩, I.os, I.bare, I.base, I.loc, I.cell, I.free, I.freeC, I.pin, I.hok, I.len⟩
theorem Inv.unmkd {H : Hp} (ok : X.Ok) (I : Inv (X.mkd x) pins σ H s) : Inv X pins σ H s := ⟨ok, I.os, I.bare, I.base, I.loc, I.cell, I.free, I.freeC, I.pin, I.hok, I.len⟩
end
abbrev XR := Addr → St → Hp → Prop
abbrev TEX := St → Hp → VK → XR → Prop
abbrev TSX := Ends → XR → St → Hp → Prop
def XP (X : Cx) (pins : List (Addr × Obj)) (R : XR) (e : Value) (s : Shared) : Prop := ∃ x C σ H, e = .ref x ∧ Thr X pins σ H x C s ∧ R C σ H
def PEX (X : Cx) (e : Expr) (t : TEX) : Prop :=
  ∀ (pins : List (Addr × Obj)) (s : Shared) (σ : St) (H : Hp) (Q : VK) (R : XR), Inv X pins σ H s → t σ H Q R → wpAny (model X.prog X.w) X.A (eval e X.env) (EP X pins σ Q) (XP X pins R) s
def PSX (X : Cx) (st : Stmt) (t : TSX) : Prop :=
  ∀ (pins : List (Addr × Obj)) (s : Shared) (σ : St) (H : Hp) (D : Ends) (R : XR), Inv X pins σ H s → t D R σ H → wpAny (model X.prog X.w) X.A (exec st X.env) (SP X pins D) (XP X pins R) s
section
variable {X : Cx} {k : Nat} {f : Addr} {fd : FuncData} {ps : List Str} {sp : Sp} {x : Str} {p pos : Pos} {e : Expr} {es : List Expr} {t : TA}
def tCallX (sp : Sp) (t : TA) : TEX := fun σ H Q R => t σ H fun vs H1 => sp vs H1 Q fun c _ H2 => ∃ C, c = .ref C ∧ R C σ H2
theorem pex_call (F : FnOk X.prog X.w X.K X.mg X.base (CXw X.prog X.w) k f fd ps sp) (hr : Room k X.A) (hg : Gl X x) (hm : X.mg x = some (.ref f)) (hk : PySem.W.keepIn X.K (.ref f) = true) (hb : Binds X.K fd ps [])
    (ha : PA X.nox (e :: es) t) (hdb : (x == ("__debug__" : Str)) = false := by decide) (he : starEach (e :: es) X.env = (false, eval e X.env) :: starEach es X.env := by rfl) (hpl : (backTo pos (starEach es X.env)).any (·.1) = false := by rfl) :
    PEX X (.Call (.Name x p) (e :: es) [] pos) (tCallX sp t) := by
  intro pins s σ H Q R I h
  refine wpAny_Call_Name_kw (ld_glob I hg hm ?_ hdb)
  refine PySem.W.callWith_K (h₀ := X.base) I.ok.mod.kin hk (wpAny_mono (ha pos pins s σ H _ (I.wish _) h) (fun us s1 ⟨vs, H1, I1, r, q⟩ => ⟨I1.kIn, ?_⟩) fun _ _ z => False.elim z) he hpl
  have J := I1.unwish
  have hl : (us ++ []).length = ps.length := by rw [List.append_nil, ← r.length]; exact F.len _ _ _ _ q
  have hbb := hb s1 us J.kIn hl
  rw [List.append_nil] at hbb
  refine wpAny_call (codeAny_mono (F.run X.A X.stack s1 H1 ⟨us, []⟩ us vs Q _ hr J.env0 hbb r q) fun r s' hq => ?_)
  cases r with
  | error e =>
    have hq : CXw X.prog X.w X.stack H1 s1 (fun c _ H2 => ∃ C, c = Value.ref C ∧ R C σ H2) e s' := hq
    obtain ⟨x, C, H', rfl, th, C', e1, z⟩ := Thr.of J hq
    cases e1
    exact ⟨x, C, σ, H', rfl, th, z⟩
  | ok fl =>
    cases fl with
    | ret u => exact J.after hq
    | next => exact False.elim hq
    | brk => exact False.elim hq
    | cont => exact False.elim hq
def tSetX (i : Nat) (te : TEX) : TSX := fun D R σ H => te σ H (fun v H1 => D.nx (σ.set i (some v)) H1) R
theorem psx_set {i : Nat} {x : Str} {te : TEX} {pos' : Pos} (hN : X.N.Nodup) (hi : X.N[i]? = some x) (hx : Loc X.env.scope x) (he : PEX X e te) (hs : swapsWith e (some (.Name x pos')) pos.line X.env = pure false := by rfl) (hf : X.fn x = true ∨ X.env.scope.names.lookup x = some .local := by first | exact .inl rfl | exact .inr rfl | assumption) :
    PSX X (.Assign [.Name x pos'] e pos) (tSetX i te) := by
  intro pins s σ H D R I h
  refine wpAny_Assign_Name (thn (he pins s σ H _ R I h) fun v s1 ⟨y, H1, I1, r1, q1⟩ => ?_) hs
  exact store_ok I1 hN hi hx r1 (fun s2 I2 => ⟨_, H1, I2, q1⟩) hf
end
abbrev TH := Ends → Addr → St → Hp → Prop
def PH (X : Cx) (hs : List ExceptHandler) (t : TH) : Prop :=
  ∀ (pins : List (Addr × Obj)) (s : Shared) (σ : St) (H : Hp) (x C : Addr) (D : Ends), Thr X pins σ H x C s → t D C σ H → wpAny (model X.prog X.w) X.A (handleBy (.ref x) X.env hs) (SP X pins D) X.xe s
section
variable {X : Cx} {y n : Str} {Y : Addr} {np pos : Pos} {b₀ : Stmt} {suite : List Stmt} {rest : List ExceptHandler} {tb : TS} {tr : TH} {i : Nat}
theorem ExAt.looks {M : Model} {x C : Addr} {h : Heap} (p : ExAt x C h) : PySem.W.Looks M h (typeOf (.ref x)) (.ref C) := by
  obtain ⟨o, _, h1, h2, _⟩ := p
  exact h2 ▸ (PySem.W.Looks.ld h1).andThen .now
def tHan (K : PySem.W.Frag) (Y : Addr) (tb : TS) (tr : TH) : TH := fun D C σ H => ∃ b, PySem.W.exmOne K (.ref C) (.ref Y) = some b ∧ if b = true then tb D σ H else tr D C σ H
theorem ph_an (hg : Gl X y) (hm : X.mg y = some (.ref Y)) (hb : ∀ x, PSs (X.mkd x) (b₀ :: suite) tb) (hr : PH X rest tr) (hdb : (y == ("__debug__" : Str)) = false := by decide) :
    PH X (.ExceptHandler (some (.Name y np)) none (b₀ :: suite) pos :: rest) (tHan X.K Y tb tr) := by
  intro pins s σ H x C D th h
  obtain ⟨b, hb1, h⟩ := h
  have I := th.inv
  refine wpAny_handleBy_cons (codeAny_handlers_test ?_) (by intro q; cases q)
  refine ld_glob (X := X.mkd x) (I.mkd x) hg hm ?_ hdb
  refine PySem.W.exm_one I.kIn th.at.looks hb1 _ _ _ _ (fun _ _ e => e) ?_
  cases b with
  | false => exact hr pins s σ H x C D th h
  | true =>
    refine codeAny_handlers_suite (th.again fun h' th' => ?_)
    have J := th'.inv
    refine wpAny_mono (hb x pins _ _ _ D (J.mkd x) h) (fun fl s3 q => ?_) fun _ _ z => False.elim z
    show SP X pins D fl s3
    cases fl with
    | next => obtain ⟨σ', H', I3, q⟩ := q; exact ⟨_, _, I3.unmkd I.ok, q⟩
    | brk => obtain ⟨σ', H', I3, q⟩ := q; exact ⟨_, _, I3.unmkd I.ok, q⟩
    | cont => obtain ⟨σ', H', I3, q⟩ := q; exact ⟨_, _, I3.unmkd I.ok, q⟩
    | ret u => obtain ⟨v, σ', H', I3, r, q⟩ := q; exact ⟨v, _, _, I3.unmkd I.ok, r, q⟩
def tHno : TH := fun _ _ _ _ => False
theorem ph_no : PH X rest tHno := fun _ _ _ _ _ _ _ _ h => h.elim
def tTry (t : TSX) (th : TH) : TS := fun D σ H => t D (fun C σ1 H1 => th D C σ1 H1) σ H
theorem ps_try {st : Stmt} {t : TSX} {h₀ : ExceptHandler} {hs : List ExceptHandler} {th : TH} (hst : X.stack = X.env :: X.outer) (hf : X.env.frame = some X.env.locals) (hb : PSX X st t) (hh : PH X (h₀ :: hs) th) :
    PS X (.Try [st] (h₀ :: hs) [] [] pos) (tTry t th) := by
  intro pins s σ H D I h
  refine wpAny_Try_except (wpAny_execs_cons (wpAny_mono (hb pins s σ H D _ I h) (fun fl s1 q => ?_) fun e s1 q => ?_))
  · cases fl with
    | next => exact wpAny_execs_nil (wpAny_execs_nil q)
    | ret v => exact q
    | brk => exact q
    | cont => exact q
  · obtain ⟨x, C, σ1, H1, rfl, th, q⟩ := q
    exact th.look hst hf I.ok.frames fun h' th' => hh pins _ σ1 H1 x C D th' q
end
end L2
set_option Elab.async false
set_option linter.all false
set_option maxRecDepth 100000
set_option maxHeartbeats 4000000
namespace L2
open PySem PySem.Spec PyProof.Rows PySem.Calls PySem.W Builtin Builtin.ObjectAttr Builtin.Getset_descriptor
structure ExcI (K : PySem.W.Frag) (C : Addr) : Prop where
  ga : findIn K (.ref C) "__getattribute__" = some (some (.builtin "BaseException.__getattribute__"))
  gt : findIn K (.ref C) "__getattr__" = some none
  cl : isClsIn K C = true
  at_ : findIn K (.ref C) "__class__" = some (some (.builtin "object.__class__"))
  gs : specialIn K (.builtin "object.__class__") "__get__" = some (some (.builtin "getset_descriptor.__get__"))
  tk : takesIn K (.builtin "object.__class__") = some true
  mo : mroIn K C (.type "object") = some true
  be : subIn K (.ref C) (.type "BaseException") = some true
section
variable {prog : Program} {w : World} {A : Around} {E : Value → Shared → Prop} {s : Shared} {K : PySem.W.Frag} {x C : Addr}
end
section
variable {X : Cx}
end
end L2
set_option Elab.async false
set_option linter.all false
set_option maxRecDepth 100000
set_option maxHeartbeats 4000000
namespace L2
open PySem PySem.Spec PyProof.Rows
theorem passF {P : Program} {w : World} {X : Cx} : Passes (CXw P w) X (fun _ _ _ => False) := fun _ _ _ _ _ _ _ h => by
  obtain ⟨x, C, B, H', a0, _, _, _, _, _, _, _, _, q⟩ := h
  exact q.elim
theorem noCX {P : Program} {w : World} {outer : List Env} {H : Hp} {s s' : Shared} {e : Value} (h : CXw P w outer H s (fun _ _ _ => False) e s') : False := by
  obtain ⟨x, C, B, H', a0, _, _, _, _, _, _, _, _, q⟩ := h
  exact q
section
variable {P : Program} {w : World} {K : PySem.W.Frag} {mg : Str → Option Value} {base : Heap}
theorem Fun.okN {CX : CXT} {x qual : Str} {st : Stmt} {f : Addr} {fd : FuncData} {N ps : List Str} {k : Nat} {sp : Sp} (F : Fun K x qual st f fd) (S : FnScope N ps (defScope st)) (len : ∀ vs H Q E, sp vs H Q E → vs.length = ps.length)
    (hbody : ∀ (cdv : Value) (A : Around) (outer : List Env) (s : Shared) (H : Hp) (vs : List V) (Q : VK) (E : XK), Room k (A.deeper (envOfC qual (defScope st) s.heap.objs.size f cdv)) → sp vs H Q E →
      ∃ t, PSs (cxOf CX P w K mg base N qual (defScope st) f cdv A outer s H E).nox (defBody st) t ∧ t { nx := fun _ H' => Q .non H', rt := Q } (start N vs) H) : FnOk P w K mg base CX (k + 1) f fd ps sp := by
  obtain ⟨oc, od, kV, doc, pm, an, cdv, ct, osl, rfl, lk, hcd⟩ := F.ex
  refine fn_of lk hcd S len fun A outer s H vs Q E hr hsp => ?_
  obtain ⟨t, h1, h2⟩ := hbody cdv A outer s H vs Q E hr hsp
  exact ⟨t, h1.nox, h2⟩
end
end L2
set_option Elab.async false
set_option linter.all false
set_option maxRecDepth 100000
set_option maxHeartbeats 4000000
namespace L2
open PySem PySem.Spec PyProof.Rows
section
variable {X : Cx}
theorem mul_one : ∀ n : Nat, n ≤ 64 → ∀ c ∈ [40, 41], Txt.mul (tx [c]) (n : Int) = tx (List.replicate n c) := by decide +kernel
end
end L2
set_option Elab.async false
set_option linter.all false
set_option maxRecDepth 100000
set_option maxHeartbeats 4000000
namespace L2
open PySem PySem.Spec PyProof.Rows
section
variable {prog : Program} {w : World} {A : Around} {R : Result → Shared → Prop} {s : Shared}
theorem compLoopIf_go {elt target iter c : Expr} {scope : Scope} {pos : Pos} {it acc : Value} {env : Env} (I : Nat → Shared → Prop)
    (turn : ∀ n s, I n s → wpAny (model prog w) A (pyNext it) (fun r s₁ => match r with
      | none => R (.ok .next) s₁
      | some v => wpAny (model prog w) A (letOwnedTupleGo target it v) (fun _ s₀ => wpAny (model prog w) A (assign target env v) (fun _ s₂ => wpAny (model prog w) A (isTrue c env (eval c env)) (fun b s₅ =>
          match b with
          | true => wpAny (model prog w) A (eval elt env) (fun x s₃ => wpAny (model prog w) A (call (.builtin "list.append") [acc, x]) (fun _ s₄ => ∃ m, m < n ∧ I m s₄) (fun _ _ => False) s₃) (fun _ _ => False) s₅
          | false => ∃ m, m < n ∧ I m s₅) (fun _ _ => False) s₂) (fun _ _ => False) s₀) (fun _ _ => False) s₁) (fun _ _ => False) s)
    (n : Nat) (h : I n s) : codeAny (model prog w) A (.compLoop (.ListComp elt [⟨target, iter, [c], 0⟩] scope pos) 0 it acc env) R s := by
  refine codeAny_loop rfl I (fun n s hI => ?_) n h
  show wpAny _ _ ((compTurn (.ListComp elt [⟨target, iter, [c], 0⟩] scope pos) 0 it acc env).onRaise (fun x => do noteFrame x env; theTreesLotGoes x)) _ _ s
  refine wpAny_noted ?_
  rw [compTurn_list]
  refine wpAny_bind (wpAny_standAt (wpAny_bind (wpAny_mono (turn n s hI) (fun r s₁ h₁ => ?_) fun _ _ h' => h'.elim)))
  cases r with
  | none => exact wpAny_pure h₁
  | some v =>
    refine wpAny_bind (wpAny_mono h₁ (fun _ s₀ h₀ => ?_) fun _ _ h' => h'.elim)
    refine wpAny_bind (wpAny_mono h₀ (fun _ s₂ h₂ => wpAny_bind (wpAny_tests_one (wpAny_mono h₂ (fun ok s₃ h₃ => ?_) fun _ _ h' => h'.elim))) fun _ _ h' => h'.elim)
    cases ok with
    | false => exact wpAny_pure ⟨rfl, h₃⟩
    | true =>
      exact wpAny_bind (wpAny_bind (wpAny_mono h₃ (fun x s₄ h₄ => wpAny_bind (wpAny_mono h₄ (fun _ s₅ h₅ => wpAny_pure (wpAny_pure ⟨rfl, h₅⟩)) fun _ _ h' => h'.elim)) fun _ _ h' => h'.elim))
end
def CompGoIf (tt : TT) (te : TE) (fv : St) (Q : VK) (J : It) (H1 : Hp) : Prop := ∃ W : Nat → Nat → List V → Hp → Prop, (∃ m, W 0 m [] H1) ∧ ∀ i m ys H2, W i m ys H2 →
  (J.stop i H2 ∧ ys.length ≤ sizeLine ∧ ∀ D, H2 D = none → Q (.ref D) (upd H2 D (.lst ys))) ∨
  (J.go i H2 ∧ ys.length < sizeLine ∧ ∀ x H3, J.yld i H2 x H3 → tt (some x :: fv) H3 fun b H4 => match b with
    | true => te (some x :: fv) H4 fun y H5 => ∃ m', m' < m ∧ W (i + 1) m' (ys ++ [y]) H5
    | false => ∃ m', m' < m ∧ W (i + 1) m' ys H4)
def tCompIf (wi : TI) (fv : St → St) (tt : TT) (te : TE) : TE := fun σ H Q => wi σ H (CompGoIf tt te (fv σ) Q)
section
variable {X : Cx} {elt iter cnd : Expr} {x : Str} {px pos : Pos} {scope : Scope} {cl : List (Str × Addr)} {fns : List Str} {ixs : List Nat} {wi : TI} {tt : TT} {te : TE}
theorem pe_compIf (hc : X.calm = true) (hi : PI X (.Name x px) iter wi) (S : CompScope X x fns ixs scope cl)
    (ht : ∀ (C : Addr) (s : Shared) (H : Hp) (ex : List Addr), PT (cxComp X (x :: fns) scope cl C s H ex) cnd tt) (he : ∀ (C : Addr) (s : Shared) (H : Hp) (ex : List Addr), PE (cxComp X (x :: fns) scope cl C s H ex) elt te)
    (hs : ∀ x, foldedSetIterable iter X.env x = pure x := by intro _; rfl) :
    PE X (.ListComp elt [⟨.Name x px, iter, [cnd], 0⟩] scope pos) (tCompIf wi (fvOf ixs) tt te) := by
  intro pins s σ H Q I h
  rw [eval_ListComp]
  refine wpAny_comprehension_free (use := none) rfl hs S.clos S.kind S.names (thn (hi pins s σ H _ I h) fun v s1 h1 => thn h1 fun itv s2 h2 => ?_)
  obtain ⟨it, fp, tn, J, H2, e, I2, T, st2, f2, W, ⟨m0, w0⟩, turn⟩ := h2
  subst e
  have hfpLt : ∀ b ∈ fp, b < s2.heap.objs.size := fun b hb => by
    obtain ⟨o, ho, _⟩ := T.obj _ _ st2 b hb
    exact Heap.lt_size ho
  refine wpAny_newObj_type (wpAny_newFunctionEnv S.cell (by intro y hy; simp at hy) (fun h₁ hns₁ hsb₁ => ?_) S.kind)
  dsimp only at hns₁ hsb₁ ⊢
  generalize hH3 : s2.heap.push { cls := .type "list", dict := none, data := .seq ([] : List Value).toArray } = hp3 at hns₁ hsb₁ ⊢
  generalize hD : s2.heap.objs.size = D at hfpLt ⊢
  have hC : hp3.objs.size = D + 1 := by rw [← hH3, Heap.size_push, hD]
  generalize hCe : hp3.objs.size = C at hC hns₁ hsb₁ ⊢
  have hDltC : D < C := by omega
  have hDC : D ≠ C := Nat.ne_of_lt hDltC
  have k23 : ∀ b u, s2.heap.get? b = some u → hp3.get? b = some u := fun b u q => by rw [← hH3]; exact Heap.get?_push_of_some _ q
  have ltD : ∀ {b u}, s2.heap.get? b = some u → b < D := fun q => by rw [← hD]; exact Heap.lt_size q
  have k34 : ∀ b u, hp3.get? b = some u → h₁.get? b = some u := fun b u q =>
    hsb₁.extBut b u (Nat.ne_of_lt (Nat.lt_of_lt_of_le (Heap.lt_size q) (Nat.le_of_eq hCe))) (Heap.get?_push_of_some _ q)
  have hDo : hp3.get? D = some { cls := .type "list", dict := none, data := .seq ([] : List Value).toArray } := by rw [← hH3, ← hD]; exact Heap.get?_push_size _ rfl
  have I3 : Inv X pins σ H2 { s2 with heap := hp3 } := I2.kept (t' := s2.toks) k23
  have hnD : H2 D = none := I2.hok.fresh (by omega)
  have hnC : H2 C = none := I2.hok.fresh (by omega)
  have nstk : ∀ b ∈ D :: fp, b ∉ frs X.stack := fun b hb z => by
    rcases List.mem_cons.mp (I2.stkSub b z) with e | z
    · rcases List.mem_cons.mp hb with e2 | hb
      · exact absurd I2.lt (by rw [← e, e2, ← hD]; exact Nat.lt_irrefl _)
      · exact (f2 b hb).2.1 e
    · rcases List.mem_cons.mp hb with e2 | hb
      · exact I2.nofs (by rw [e2, ← hD]; exact Nat.le_refl _) z
      · exact (f2 b hb).2.2.1 z
  have cne : ∀ y c, cl.lookup y = some c → ∀ b ∈ D :: fp, c ≠ b := fun y c q b hb z => by
    obtain ⟨v, hv⟩ := I2.cell y c (S.sub y c q)
    rcases List.mem_cons.mp hb with e2 | hb
    · exact absurd hv.lt (by rw [z, e2, ← hD]; exact Nat.lt_irrefl _)
    · exact (f2 b hb).2.2.2.2.1 y c (S.sub y c q) z
  -- the block's context
  let Xc : Cx := cxComp X (x :: fns) scope cl C { s2 with heap := hp3 } H2 (D :: fp)
  have ok : Xc.Ok := {
    mod := I2.ok.mod
    kind := S.kind
    glob := I2.ok.glob
    blt := I2.ok.blt
    above := by show hp3.objs.size ≤ C; omega
    inj := fun y z c q1 q2 => I2.ok.inj y z c (S.sub _ _ q1) (S.sub _ _ q2)
    has := S.has
    cab := fun y c q => nomatch q
    hd := I2.ok.hd
    frames := I2.ok.frames
    stk := .inl rfl
    exf := fun b hb => ⟨by
      rcases List.mem_cons.mp hb with e2 | hb
      · rw [e2]; exact hDC
      · exact Nat.ne_of_lt (Nat.lt_trans (hfpLt b hb) hDltC), fun y c q => cne y c q b hb⟩
    bs := I3.bs
    bsz := Nat.le_trans I3.ok.bsz I3.sz
    noex := fun b o q hb => by
      rcases List.mem_cons.mp hb with e2 | hb
      · exact absurd (ltD (I2.bs b o q).1) (by rw [e2]; exact Nat.lt_irrefl _)
      · rcases (f2 b hb).2.2.2.1 with z | z
        · exact I2.ok.noex b o q z
        · exact absurd (Heap.lt_size (I2.ok.bs b o q).1) (Nat.not_lt.mpr z)
    exfs := nstk
    funs := I3.stack
    frf := I3.stkFree }
  have start : ∀ (v0 : Option V) , v0 = none → Inv Xc [(D, { cls := .type "list", dict := none, data := .seq ([] : List Value).toArray })] (v0 :: fvOf ixs σ) H2 { s2 with heap := h₁, toks := s2.toks + ([] : List (Str × Value)).length } := fun v0 hv0 => {
    ok := ok
    os := rfl
    bare := I2.bare
    base := Un.kept k34
    loc := ⟨_, hns₁, fun i y v e1 e2 e3 => by
      cases i with
      | zero => rw [hv0] at e2; cases e2
      | succ j =>
        have e1' : fns[j]? = some y := e1
        have e2' : (fvOf ixs σ)[j]? = some (some v) := e2
        obtain ⟨i, hi1, hi2, hk, c, hc1, hc2⟩ := S.at_ j y e1'
        unfold fvOf at e2'
        rw [List.getElem?_map, hi1] at e2'
        have e3' : σ[i]? = some (some v) := by
          have z : (σ[i]?).join = some v := Option.some.inj e2'
          cases q : σ[i]? with
          | none => rw [q] at z; cases z
          | some o => rw [q] at z; rw [show o = some v from z]
        obtain ⟨m, _, hl⟩ := I2.loc
        obtain ⟨u, r, l⟩ := hl i y v hi2 e3' (hk.elim (fun z => .inr (.inl z)) fun z => .inr (.inr z))
        refine ⟨u, r, .inr ⟨hc2, c, hc1, ?_⟩⟩
        rcases l with ⟨z, _⟩ | ⟨_, c', hc', hcell⟩
        · rcases hk with hk | hk <;> (rw [hk] at z; cases z)
        · have : c' = c := Option.some.inj (hc'.symm.trans (S.sub _ _ hc1))
          subst this
          obtain ⟨o, ho, hd⟩ := hcell
          exact ⟨o, k34 _ _ (k23 _ _ ho), hd⟩⟩
    cell := fun y c q => by
      obtain ⟨v, o, ho, hd⟩ := I2.cell y c (S.sub y c q)
      exact ⟨v, o, k34 _ _ (k23 _ _ ho), hd⟩
    free := hnC
    freeC := fun y c q => I2.freeC y c (S.sub y c q)
    pin := fun p hp => by
      have hp' : p = (D, { cls := .type "list", dict := none, data := .seq ([] : List Value).toArray }) := by simpa [Xc, cxComp] using hp
      subst hp'
      exact ⟨k34 _ _ hDo, hnD, hDC, nstk D (List.mem_cons_self ..), fun v z => nomatch z⟩
    hok := (I2.hok.kept k23).kept k34
    len := by show (v0 :: fvOf ixs σ).length = (x :: fns).length; simp [fvOf, S.len] }
  -- what stays true of the iterator's objects
  have fpc : ∀ {H' : Hp} {pins' : List (Addr × Obj)}, (∀ b ∈ fp, H' b = none) → (∀ p ∈ pins', p.1 = D) → ∀ b ∈ fp, FpOk Xc pins' H' b := fun {H' pins'} hn hp b hb =>
    ⟨hn b hb, Nat.ne_of_lt (Nat.lt_trans (hfpLt b hb) hDltC), nstk b (List.mem_cons_of_mem _ hb), .inl (List.mem_cons_of_mem _ hb), fun y c q => cne y c q b (List.mem_cons_of_mem _ hb), fun p q => by
      have q' : p ∈ pins' := by simpa [Xc, cxComp] using q
      rw [hp p q']
      exact Nat.ne_of_gt (hfpLt b hb)⟩
  have loop : codeAny (model X.prog X.w) X.A (.compLoop (.ListComp elt [⟨.Name x px, iter, [cnd], 0⟩] scope pos) 0 (.ref it) (.ref D) (compEnvC scope cl C X.env))
      (compPost (model X.prog X.w) X.A X.xe none (EP X pins σ Q) (.ref D) C) { s2 with heap := h₁, toks := s2.toks + ([] : List (Str × Value)).length } := by
    refine compLoopIf_go (fun n s' => ∃ (i : Nat) (ys : List V) (its : List Value) (nn : Nat) (v0 : Option V) (H' : Hp), Inv Xc [(D, { cls := .type "list", dict := none, data := .seq its.toArray nn })] (v0 :: fvOf ixs σ) H' s' ∧ tn i s'.heap ∧ (∀ b ∈ fp, H' b = none) ∧ Vals ys its ∧ W i n ys H') ?_ m0
      ⟨0, [], [], 0, none, H2, start none rfl, T.keep _ _ _ st2 fun b _ o q => k34 _ _ (k23 _ _ q), fun b hb => (f2 b hb).1, .nil, w0⟩
    rintro n s3 ⟨i, ys, its, nn, v0, H3, J3, tn3, fr3, vv, w3⟩
    have pinD : ∀ p ∈ ([(D, ({ cls := .type "list", dict := none, data := .seq its.toArray nn } : Obj))] : List (Addr × Obj)), p.1 = D := fun p hp => by
      have : p = (D, { cls := .type "list", dict := none, data := .seq its.toArray nn }) := by simpa using hp
      rw [this]
    rcases turn i n ys H3 w3 with ⟨stop, hlen, q⟩ | ⟨go, hlen, step⟩
    · -- the end
      refine thn (T.done Xc rfl rfl rfl hc i _ s3 _ H3 _ J3 (fpc fr3 pinD) tn3 stop) fun r s4 ⟨hr, J4⟩ => ?_
      subst hr
      obtain ⟨m, hn, _⟩ := J4.loc
      refine ⟨m, hn, fun h'' hsb => ?_⟩
      obtain ⟨gD, nD, _, _, _⟩ := J4.pin (D, { cls := .type "list", dict := none, data := .seq its.toArray nn }) (by simp [Xc, cxComp])
      have B := J4.base
      have kC : ∀ b u, b ≠ C → s4.heap.get? b = some u → h''.get? b = some u := fun b u hb q => (hsb.2 b hb).trans q
      have ne : ∀ {b o}, s2.heap.get? b = some o → b ≠ C ∧ b ≠ D := fun q => ⟨Nat.ne_of_lt (Nat.lt_trans (ltD q) hDltC), Nat.ne_of_lt (ltD q)⟩
      have nex : ∀ {b o}, s2.heap.get? b = some o → b ∉ fp → b ∉ D :: fp := fun q hx z => (List.mem_cons.mp z).elim (ne q).2 hx
      have uu : Un (frs X.stack) fp H2 (upd H3 D (.lst ys)) s2.heap h'' := {
        keep := fun b o q n hb hx => kC b o (ne q).1 (B.keep b o (k23 b o q) n hb (nex q hx))
        slot := fun b o q n hb hx => by
          obtain ⟨sl, e⟩ := B.slot b o (k23 b o q) n hb (nex q hx)
          exact ⟨sl, kC b _ (ne q).1 e⟩
        free := fun b o q n hx => by rw [upd_ne (ne q).2]; exact B.free b o (k23 b o q) n (nex q hx)
        there := fun b o q hx => by
          obtain ⟨o', e⟩ := B.there b o (k23 b o q) (nex q hx)
          exact ⟨o', kC b _ (ne q).1 e⟩
        tups := fun b xs q => by rw [upd_ne (ne_of_none q hnD)]; exact B.tups b xs q
        frzs := fun b o xs q => by rw [upd_ne (ne_of_none q hnD)]; exact B.frzs b o xs q
        tbls := fun b ps q => by
          obtain ⟨more, e⟩ := B.tbls b ps q
          exact ⟨more, by rw [upd_ne (ne_of_none q hnD)]; exact e⟩ }
      have hok : HOk X.prog X.w (upd H3 D (.lst ys)) h'' := fun b u e => by
        by_cases hb : b = D
        · subst hb
          rw [upd_same] at e
          cases e
          exact ⟨hlen, its, nn, vv, kC _ _ hDC gD⟩
        · rw [upd_ne hb] at e
          refine (J4.hok b u e).stay (fun c v hc q => kC c v ?_ q) (fun c q => by rw [upd_ne (ne_of_none q nD)]; exact q) fun c xs q => by rw [upd_ne (ne_of_none q nD)]; exact q
          have fC : H3 C = none := J4.free
          rcases hc with rfl | hc
          · exact ne_of_none e fC
          · exact ne_of_none hc fC
      exact ⟨.ref D, _, I2.call' (s' := { s4 with heap := h'' }) J4.os uu hok J4.bare (fun b hb => ⟨(f2 b hb).2.2.2.1, (f2 b hb).2.1, (f2 b hb).2.2.2.2.1, (f2 b hb).2.2.2.2.2⟩), rfl, q D nD⟩
    · -- a turn
      refine thn (T.item Xc rfl rfl rfl hc i _ s3 _ H3 _ J3 (fpc fr3 pinD) tn3 go) fun r s4 ⟨u, hr, h4⟩ => ?_
      subst hr
      refine thn h4 fun _ s5 ⟨xv, H5, J5, r5, y5, tn5, fr5⟩ => ?_
      have J5' := J5.pinned (fpc fr5 pinD) (T.obj _ _ tn5)
      have hg : PG Xc (.Name x px) (gName 0) := pg_name (X := Xc) (i := 0) S.nd rfl (.inl (relabel_own S.own)) (.inr (relabel_own S.own))
      refine thn (hg _ s5 _ H5 xv u (fun σ' H' => σ' = some xv :: fvOf ixs σ ∧ H' = H5) J5' r5 ⟨rfl, rfl⟩) fun _ s6 ⟨σ6, H6, J6, e6, e6'⟩ => ?_
      subst e6 e6'
      refine thn (ht C { s2 with heap := hp3 } H2 (D :: fp) _ s6 _ H6 _ J6 (step xv H6 y5)) fun bt s6b ⟨H6b, J6b, q6⟩ => ?_
      cases bt with
      | true =>
       refine thn (he C { s2 with heap := hp3 } H2 (D :: fp) _ s6b _ H6b _ J6b q6) fun yv s7 ⟨y, H7, J7, r7, m', hm', w7⟩ => ?_
       obtain ⟨gD, nD, _, _, _⟩ := J7.pin (D, { cls := .type "list", dict := none, data := .seq its.toArray nn }) (by simp [Xc, cxComp])
       have tn7 : tn (i + 1) s7.heap := T.keep _ _ _ tn5 fun b hb o e => (J7.pin (b, o) (List.mem_append_right _ (List.mem_append_right _ (mem_pinsAt hb e)))).1
       have fr7 : ∀ b ∈ fp, H7 b = none := fun b hb => by
         obtain ⟨o, e, d⟩ := T.obj _ _ tn5 b hb
         exact (J7.pin (b, o) (List.mem_append_right _ (List.mem_append_right _ (mem_pinsAt hb e)))).2.1
       have J7' : Inv Xc [] (some xv :: fvOf ixs σ) H7 s7 := J7.pins_of fun p hp => nomatch hp
       refine wpAny_list_append_plain (hsz := by rw [List.size_toArray, ← vv.length]; omega) ⟨nn, gD⟩ fun h8 pl8 sb8 => ?_
       obtain ⟨n8, g8⟩ := pl8
       have J8 : Inv Xc [] (some xv :: fvOf ixs σ) H7 { s7 with heap := h8 } := J7'.turned (t' := s7.toks) (it := D) (fun b o hb e => (sb8.2 b hb).trans e) nD (hDC) (.inl (List.mem_cons_self ..))
         (fun y c q => cne y c q D (List.mem_cons_self ..)) (fun p hp => by simp [Xc, cxComp] at hp)
       refine ⟨m', hm', i + 1, ys ++ [y], its ++ [yv], n8, some xv, H7, J8.pins_of fun p hp => ?_, ?_, fr7, vv.append (.cons r7 .nil), w7⟩
       · have : p = (D, { cls := .type "list", dict := none, data := .seq (its ++ [yv]).toArray n8 }) := by simpa using hp
         subst this
         refine ⟨?_, nD, hDC, nstk D (List.mem_cons_self ..), fun v z => nomatch z⟩
         have : its.toArray.push yv = (its ++ [yv]).toArray := by simp
         rw [this] at g8
         exact g8
       · exact T.keep _ _ _ tn7 fun b hb o e => (sb8.2 b (Nat.ne_of_lt (hfpLt b hb))).trans e
      | false =>
       obtain ⟨m', hm', w7⟩ := q6
       obtain ⟨gD, nD, _, _, _⟩ := J6b.pin (D, { cls := .type "list", dict := none, data := .seq its.toArray nn }) (by simp [Xc, cxComp])
       have tn7 : tn (i + 1) s6b.heap := T.keep _ _ _ tn5 fun b hb o e => (J6b.pin (b, o) (List.mem_append_right _ (List.mem_append_right _ (mem_pinsAt hb e)))).1
       have fr7 : ∀ b ∈ fp, H6b b = none := fun b hb => by
         obtain ⟨o, e, d⟩ := T.obj _ _ tn5 b hb
         exact (J6b.pin (b, o) (List.mem_append_right _ (List.mem_append_right _ (mem_pinsAt hb e)))).2.1
       refine ⟨m', hm', i + 1, ys, its, nn, some xv, H6b, J6b.pins_of fun p hp => ?_, tn7, fr7, vv, w7⟩
       have : p = (D, { cls := .type "list", dict := none, data := .seq its.toArray nn }) := by simpa using hp
       subst this
       exact ⟨gD, nD, hDC, nstk D (List.mem_cons_self ..), fun v z => nomatch z⟩
  exact codeAny_compStart_list loop (T.self _ 0 _ _ _ (T.keep _ _ _ st2 fun b _ o q => k34 _ _ (k23 _ _ q)) loop)
end
end L2
set_option Elab.async false
set_option linter.all false
set_option maxRecDepth 10000
set_option maxHeartbeats 400000
namespace L2
open PySem PySem.Spec PyProof.Rows
section
variable {X : Cx}
end
end L2
set_option Elab.async false
set_option linter.all false
set_option maxRecDepth 100000
set_option maxHeartbeats 4000000
namespace L2
open PySem PySem.Spec PyProof.Rows
section
variable {X : Cx}
end
theorem digs_eq (m : Nat) : digs (m : Int) = (Nat.toDigits 10 m).map Char.toNat := PySem.W.KIN.signs_num m
theorem digs_fig {m c : Nat} (h : c ∈ digs (m : Int)) : 48 ≤ c ∧ c ≤ 57 := by
  rw [digs_eq] at h
  obtain ⟨ch, hch, rfl⟩ := List.mem_map.mp h
  have r := digit_range (Nat.isDigit_of_mem_toDigits (by decide) (by decide) hch)
  exact r
end L2
set_option Elab.async false
set_option linter.all false
set_option maxRecDepth 100000
set_option maxHeartbeats 4000000
namespace L2
open PySem PySem.Spec PyProof.Rows
def Itx (l : List Nat) : It := ⟨fun i _ => i < l.length, fun i H x H' => H' = H ∧ ∃ c, l[i]? = some c ∧ x = .str (tx [c]), fun i _ => l.length ≤ i⟩
theorem cps_at (l : List Nat) (i : Nat) : (tx l).cps[i]? = l[i]? := by
  show l.toArray[i]? = l[i]?
  simp
theorem turn_str {P : Program} {w : World} {K : PySem.W.Frag} {tg : Expr} (l : List Nat) (t : Tok) (it : Addr) : Turn P w K tg (Itx l) [it] it (fun i h => h.IsStrIter it "str_ascii_iterator" (tx l) t i) where
  mem := by simp
  obj := fun i h st b hb => by
    have e : b = it := by simpa using hb
    subst e
    obtain ⟨o, e, c, d⟩ := st
    exact ⟨o, e, fun v z => by rw [d] at z; cases z⟩
  keep := fun i h h' st k => by
    obtain ⟨o, e, r⟩ := st
    exact ⟨o, k it (by simp) o e, r⟩
  item := by
    intro X hP hw hK hc i pins s σ H E I hf st hg
    subst hP hw hK
    have hg' : i < l.length := hg
    obtain ⟨f0, f1, f2, f3, f4, f5⟩ := hf it (by simp)
    have hx : l[i]? = some l[i] := List.getElem?_eq_getElem hg'
    refine wpAny_pyNext_ascii_item st (c := l[i]) (by rw [cps_at]; exact hx) fun h' st' sb => ?_
    have I1 : Inv X pins σ H { s with heap := h', toks := s.toks + 1 } := I.turned (t' := s.toks + 1) (fun b o hb e => (sb.2 b hb).trans e) f0 f1 f3 f4 f5
    obtain ⟨o, e, c, d⟩ := id st'
    exact ⟨_, rfl, go_of (s := { s with heap := h', toks := s.toks + 1 }) e c d (by decide) ⟨.str (tx [l[i]]), H, I1, ⟨_, rfl⟩, ⟨rfl, _, hx, rfl⟩, st', fun b hb => (hf b hb).1⟩⟩
  done := by
    intro X hP hw hK hc i pins s σ H E I hf st hg
    subst hP hw hK
    have hg' : l.length ≤ i := hg
    obtain ⟨f0, f1, f2, f3, f4, f5⟩ := hf it (by simp)
    exact wpAny_pyNext_ascii_end (I.ok.hd hc) st (by rw [cps_at]; exact List.getElem?_eq_none hg') fun h' eb => ⟨rfl, I.turned (t' := s.toks) (fun b o hb e => eb b o hb e) f0 f1 f3 f4 f5⟩
  self := fun _ _ _ _ _ st h => wpAny_pyIter_striter_ascii st h
section
variable {X : Cx} {tg : Expr}
def iStr (tl : TE) : TI := fun σ H R => tl σ H fun x H1 => ∃ l, x = .str (tx l) ∧ l.all (· < 128) = true ∧ R (Itx l) H1
theorem pi_str {l : Expr} {tl : TE} (hl : PE X l tl) : PI X tg l (iStr tl) := by
  intro pins s σ H R I h
  refine thn (hl pins s σ H _ I h) fun v s1 ⟨x, H1, I1, r1, q1⟩ => ?_
  obtain ⟨l, e, ha, q⟩ := q1
  subst e
  obtain ⟨t, rfl⟩ := r1
  have ha' : (tx l).cps.all (· < 128) = true := by
    show l.toArray.all _ = true
    rw [List.all_toArray]
    exact ha
  have et : strIterType (tx l) = "str_ascii_iterator" := by unfold strIterType; rw [if_pos ha']
  refine wpAny_pyIter_strU ?_
  rw [et]
  refine ⟨s1.heap.objs.size, [s1.heap.objs.size], _, _, H1, rfl, I1.kept (t' := s1.toks) fun b o e => Heap.get?_push_of_some _ e, turn_str l t _, ⟨_, Heap.get?_push_size _ rfl, rfl, rfl⟩, fun b hb => ?_, q⟩
  have e : b = s1.heap.objs.size := by simpa using hb
  subst e
  exact I1.fpOk (Nat.le_refl _) (I1.hok.fresh (Nat.le_refl _))
end
end L2
set_option Elab.async false
set_option linter.all false
set_option maxRecDepth 100000
set_option maxHeartbeats 4000000
namespace L2
open PySem PySem.Spec PyProof.Rows
section
variable {X : Cx} {elt iter cnd : Expr} {x : Str} {px pos : Pos} {scope : Scope} {cl : List (Str × Addr)} {fns : List Str} {ixs : List Nat} {wi : TI} {tt : TT} {te : TE}
end
end L2
set_option Elab.async false
set_option linter.all false
set_option maxRecDepth 100000
set_option maxHeartbeats 4000000
namespace L2
open PySem PySem.Spec PyProof.Rows
section
variable {X : Cx}
end
end L2
set_option Elab.async false
set_option linter.all false
set_option maxRecDepth 100000
set_option maxHeartbeats 4000000
namespace L2
open PySem PySem.Spec PyProof.Rows
def rng (lo : Int) (n : Nat) : List Int := (List.range n).map fun i : Nat => lo + (i : Int)
section
variable {X : Cx} {a b : Expr} {ta : TA} {p p2 pos pos2 : Pos}
end
end L2
set_option Elab.async false
set_option linter.all false
set_option maxRecDepth 100000
set_option maxHeartbeats 4000000
namespace L2
open PySem PySem.Spec PyProof.Rows
def RowsAt (H : Hp) (rs : List Addr) (rows : List (List Int)) : Prop := rs.length = rows.length ∧ ∀ (i : Nat) (r : Addr) (ns : List Int), rs[i]? = some r → rows[i]? = some ns → H r = some (.lst (intV ns))
def TabAt (H : Hp) (a : Addr) (rows : List (List Int)) : Prop := ∃ rs : List Addr, H a = some (.lst (rs.map V.ref)) ∧ RowsAt H rs rows
theorem RowsAt.same {H H' : Hp} {rs : List Addr} {rows : List (List Int)} (h : RowsAt H rs rows) (s : Same H H') : RowsAt H' rs rows := ⟨h.1, fun i r ns h1 h2 => s _ _ (h.2 i r ns h1 h2)⟩
theorem TabAt.same {H H' : Hp} {a : Addr} {rows : List (List Int)} (h : TabAt H a rows) (s : Same H H') : TabAt H' a rows := by
  obtain ⟨rs, h1, h2⟩ := h
  exact ⟨rs, s _ _ h1, h2.same s⟩
theorem vals_refs {rs : List Addr} : ∀ {us : List Value}, Vals (rs.map V.ref) us → us = rs.map Value.ref := by
  induction rs with
  | nil => intro us r; cases r; rfl
  | cons c rs ih =>
    intro us r
    cases r with
    | cons r0 r1 => cases r0; rw [ih r1]; rfl
theorem all_eqG {α : Type} [DecidableEq α] {ns ms : List α} (h : ns.length = ms.length) : (List.range ns.length).all (fun j => decide (ns[j]? = ms[j]?)) = decide (ns = ms) := by
  rw [Bool.eq_iff_iff, List.all_eq_true, decide_eq_true_iff]
  constructor
  · intro h1
    refine List.ext_getElem? fun i => ?_
    by_cases hi : i < ns.length
    · exact of_decide_eq_true (h1 i (List.mem_range.mpr hi))
    · rw [List.getElem?_eq_none (by omega), List.getElem?_eq_none (by omega)]
  · rintro rfl j _
    exact decide_eq_true rfl
section
variable {X : Cx} {pins : List (Addr × Obj)} {σ : St} {H : Hp} {s : Shared} {A : Around}
end
section
variable {X : Cx}
end
end L2
set_option Elab.async false
set_option linter.all false
set_option maxRecDepth 100000
set_option maxHeartbeats 4000000
namespace L2
open PySem PySem.Spec PyProof.Rows
def TupsAt (H : Hp) (ps : List Addr) (ws : List (List Int)) : Prop := ps.length = ws.length ∧ ∀ (i : Nat) (p : Addr) (w : List Int), ps[i]? = some p → ws[i]? = some w → H p = some (.tup (intV w))
def WordsAt (H : Hp) (a : Addr) (ws : List (List Int)) : Prop := ∃ ps : List Addr, H a = some (.lst (ps.map V.ref)) ∧ TupsAt H ps ws
theorem TupsAt.keep {H H' : Hp} {ps : List Addr} {ws : List (List Int)} (h : TupsAt H ps ws) (s : ∀ p xs, H p = some (.tup xs) → H' p = some (.tup xs)) : TupsAt H' ps ws := ⟨h.1, fun i p w h1 h2 => s _ _ (h.2 i p w h1 h2)⟩
theorem TupsAt.same {H H' : Hp} {ps : List Addr} {ws : List (List Int)} (h : TupsAt H ps ws) (s : Same H H') : TupsAt H' ps ws := h.keep fun p xs e => s _ _ e
theorem WordsAt.same {H H' : Hp} {a : Addr} {ws : List (List Int)} (h : WordsAt H a ws) (s : Same H H') : WordsAt H' a ws := by
  obtain ⟨ps, h1, h2⟩ := h
  exact ⟨ps, s _ _ h1, h2.same s⟩
theorem TupsAt.snoc {H : Hp} {ps : List Addr} {ws : List (List Int)} {p : Addr} {w : List Int} (h : TupsAt H ps ws) (hp : H p = some (.tup (intV w))) : TupsAt H (ps ++ [p]) (ws ++ [w]) := by
  refine ⟨by rw [List.length_append, List.length_append, h.1]; rfl, fun i q u h1 h2 => ?_⟩
  by_cases hi : i < ps.length
  · rw [List.getElem?_append_left hi] at h1
    rw [List.getElem?_append_left (by rw [← h.1]; exact hi)] at h2
    exact h.2 i q u h1 h2
  · rw [List.getElem?_append_right (by omega)] at h1
    rw [List.getElem?_append_right (by rw [← h.1]; omega)] at h2
    rw [List.mem_singleton.mp (List.mem_of_getElem? h1), List.mem_singleton.mp (List.mem_of_getElem? h2)]
    exact hp
section
variable {X : Cx} {pins : List (Addr × Obj)} {σ : St} {H : Hp} {s : Shared} {A : Around}
theorem eq_tups (I : Inv X pins σ H s) {r q : Addr} {ns ms : List Int} (hr : H r = some (.tup (intV ns))) (hq : H q = some (.tup (intV ms))) (hu : A.units < cLine) : SeqAt.EqAt A s (.ref r) (.ref q) (decide (ns = ms)) := by
  by_cases e : r = q
  · subst e
    have : ns = ms := by
      rw [hr] at hq
      injection hq with hq
      injection hq with hq
      unfold intV at hq
      exact (List.map_inj_right (fun a b z => V.int.inj z)).mp hq
    rw [decide_eq_true this]
    exact SeqAt.EqAt.same _
  · refine SeqAt.EqAt.of_refs e ?_
    obtain ⟨its, r1, p1, _⟩ := I.tuple (SqT.of hr)
    obtain ⟨its2, r2, p2, _⟩ := I.tuple (SqT.of hq)
    have l1 := r1.length
    have l2 := r2.length
    rw [ints_len] at l1 l2
    have := SeqAt.RcAt.tuples (A := A) (e := fun j => decide (ns[j]? = ms[j]?)) (show s.heap.IsTuple r its.toArray from p1) (show s.heap.IsTuple q its2.toArray from p2) hu (fun j h1 h2 => eqItems r1 r2 j h1 h2)
    rw [List.size_toArray, List.size_toArray, ← l1, ← l2, all_eq] at this
    exact this
theorem tups_items (I : Inv X pins σ H s) {rs qs : List Addr} {ns ms : List (List Int)} (hr : TupsAt H rs ns) (hq : TupsAt H qs ms) (hu : A.units < cLine) (j : Nat) (h1 : j < (rs.map Value.ref).toArray.size) (h2 : j < (qs.map Value.ref).toArray.size) :
    SeqAt.EqAt A s (rs.map Value.ref).toArray[j] (qs.map Value.ref).toArray[j] (decide (ns[j]? = ms[j]?)) := by
  have g1 : j < rs.length := by simpa using h1
  have g2 : j < qs.length := by simpa using h2
  have k1 : j < ns.length := by rw [← hr.1]; exact g1
  have k2 : j < ms.length := by rw [← hq.1]; exact g2
  have e1 : (rs.map Value.ref).toArray[j] = .ref rs[j] := by simp
  have e2 : (qs.map Value.ref).toArray[j] = .ref qs[j] := by simp
  rw [e1, e2]
  have a1 := hr.2 j rs[j] ns[j] (List.getElem?_eq_getElem g1) (List.getElem?_eq_getElem k1)
  have a2 := hq.2 j qs[j] ms[j] (List.getElem?_eq_getElem g2) (List.getElem?_eq_getElem k2)
  have := eq_tups (A := A) I a1 a2 hu
  rw [List.getElem?_eq_getElem k1, List.getElem?_eq_getElem k2]
  have ed : decide (some ns[j] = some ms[j]) = decide (ns[j] = ms[j]) := by
    rw [Bool.eq_iff_iff, decide_eq_true_iff, decide_eq_true_iff]
    exact ⟨Option.some.inj, congrArg some⟩
  rw [ed]
  exact this
end
section
variable {X : Cx}
def rEqLT : R2 := fun x y H Q => ∃ a b ns ms, x = .ref a ∧ y = .ref b ∧ WordsAt H a ns ∧ WordsAt H b ms ∧ Q (.bl (decide (ns = ms))) H
theorem op_eqLT (hu : X.A.units + 1 < cLine) : OpR X (compareOp .Eq) rEqLT := by
  intro pins s σ H x y v u Q I rx ry h
  obtain ⟨a, b, ns, ms, rfl, rfl, ⟨rs, ha, hra⟩, ⟨qs, hb, hrb⟩, q⟩ := h
  cases rx
  cases ry
  obtain ⟨its, r1, p1, _⟩ := I.list (SqL.of ha)
  obtain ⟨its2, r2, p2, _⟩ := I.list (SqL.of hb)
  have e1 := vals_refs r1
  have e2 := vals_refs r2
  subst e1 e2
  by_cases hl : ns.length = ms.length
  · refine SeqAt.eq_listAt (e := fun j => decide (ns[j]? = ms[j]?)) p1.isList p2.isList (by simp [hra.1, hrb.1, hl]) (by omega) (fun j h1 h2 => tups_items I hra hrb hu j h1 h2) ⟨.bl (decide (ns = ms)), H, I, ?_, q⟩
    show _ = Value.bool (decide (ns = ms))
    rw [List.size_toArray, List.length_map, hra.1, all_eqG hl]
  · have e : decide (ns = ms) = false := decide_eq_false (fun z => hl (by rw [z]))
    rw [e] at q
    refine SeqAt.eq_list_lengthsAt p1.isList p2.isList ?_ (by omega) ⟨.bl false, H, I, rfl, q⟩
    simp [hra.1, hrb.1, hl]
end
end L2
set_option Elab.async false
set_option linter.all false
set_option maxRecDepth 100000
set_option maxHeartbeats 4000000
namespace L2
open PySem PySem.Spec PyProof.Rows
section
variable {X : Cx}
def isInt (k : Int) : Value → Bool
  | .int z _ => z == k
  | _ => false
end
end L2
set_option Elab.async false
set_option linter.all false
set_option maxRecDepth 100000
set_option maxHeartbeats 4000000
namespace L2
open PySem PySem.Spec PyProof.Rows
section
variable {X : Cx} {tg : Expr}
end
end L2
set_option Elab.async false
set_option linter.all false
set_option maxRecDepth 100000
set_option maxHeartbeats 4000000
namespace L2
open PySem PySem.Spec PyProof.Rows
theorem ne_cls {h : Heap} {a b : Addr} {o u : Obj} (ha : h.get? a = some o) (hb : h.get? b = some u) (hc : o.cls ≠ u.cls) : a ≠ b := fun z => by
  subst z
  rw [ha] at hb
  exact hc (by rw [Option.some.inj hb])
section
variable {X : Cx}
end
end L2
set_option Elab.async false
set_option linter.all false
set_option maxRecDepth 100000
set_option maxHeartbeats 4000000
namespace L2
open PySem PySem.Spec PyProof.Rows
section
variable {X : Cx}
theorem truth_of {prog : Program} {w : World} {A : Around} {bs : List Bool} {its : List Value} (r : Vals (bs.map V.bl) its) : TruthOf prog w A (fun i v => its.toArray[i]? = some v) (fun i => bs.getD i false) := by
  intro i v s Q E hP hQ
  have h2 : its[i]? = some v := by simpa using hP
  have hi : i < its.length := (List.getElem?_eq_some_iff.mp h2).1
  have hl := r.length
  rw [List.length_map] at hl
  have hb : bs[i]? = some bs[i] := List.getElem?_eq_getElem (by omega)
  obtain ⟨u, hu, ru⟩ := r.get (i := i) (x := V.bl bs[i]) (by rw [List.getElem?_map, hb]; rfl)
  rw [h2] at hu
  cases hu
  cases ru
  have e : bs.getD i false = bs[i] := by rw [List.getD_eq_getElem?_getD, hb]; rfl
  exact wpAny_truthy_bool (by rw [← e]; exact hQ)
theorem all_getD (bs : List Bool) : (List.range bs.length).all (fun i => bs.getD i false) = bs.all id := by
  conv => rhs; rw [← range_getD bs false]
  rw [List.all_map]
  rfl
def rAll (K : PySem.W.Frag) : List V → Hp → VK → Prop := fun xs H Q => ∃ (p : Addr) (bs : List Bool), xs = [.ref p] ∧ SqL K H p (bs.map V.bl) ∧ Q (.bl (bs.all id)) H
theorem call_all (hc : X.calm = true) : CallR X (.builtin "all") (rAll X.K) := by
  intro pins s σ H xs us Q I r h
  obtain ⟨p, bs, rfl, hq, q⟩ := h
  obtain ⟨u, rfl, rx⟩ := vals1 r
  cases rx
  obtain ⟨its, r', pl, hz⟩ := I.list hq
  have hlen := r'.length
  rw [List.length_map] at hlen
  obtain ⟨ol, hol, hoc, hod⟩ := id pl.isList
  refine call_all_walk ?_
  refine wpAny_pyIter_list pl.isList ?_
  have hne : p ≠ s.heap.objs.size := Nat.ne_of_lt (Heap.lt_size hol)
  refine ⟨s.heap.objs.size, _, _, _, _, _, fun i => bs.getD i false, rfl, Walks.list (A := X.A.in1) (I.ok.hd hc) s.heap.objs.size p hne its.toArray, ⟨⟨_, Heap.get?_push_size _ rfl, rfl, rfl⟩, pl.isList.push _⟩, truth_of r', fun h' tk hk => ?_⟩
  have I1 : Inv X pins σ H { s with heap := h', toks := tk } := I.kept (t' := tk) fun b o e => hk b o (fun z => by
    have := List.mem_singleton.mp z
    subst this
    exact absurd (Heap.lt_size e) (Nat.lt_irrefl _)) (Heap.get?_push_of_some _ e)
  refine ⟨.bl (bs.all id), H, I1, ?_, q⟩
  show Value.bool _ = Value.bool _
  rw [List.size_toArray, ← hlen, all_getD]
theorem fig_repr {q c : Nat} (h : Unicode.isPrintable c = true) (h1 : c ≠ 10) (h2 : c ≠ 13) (h3 : c ≠ 9) : (Builtin.Str.reprChar q c).length ≤ 2 := by
  unfold Builtin.Str.reprChar
  dsimp only
  by_cases hq : (c == q || c == 92) = true
  · rw [if_pos hq]
    exact Nat.le_refl _
  · rw [if_neg hq, if_neg (by simpa using h1), if_neg (by simpa using h2), if_neg (by simpa using h3), if_pos h]
    exact Nat.le_succ _
theorem fig_print : ∀ c : Nat, c < 10 → Unicode.isPrintable (c + 48) = true := by decide +kernel
theorem fold_two (f : Nat → Nat) : ∀ (l : List Nat) (n : Nat), (∀ c ∈ l, f c ≤ 2) → l.foldl (fun n c => n + f c) n ≤ n + 2 * l.length
  | [], n, _ => Nat.le_refl _
  | a :: l, n, h => by
    have h1 := fold_two f l (n + f a) fun c hc => h c (List.mem_cons_of_mem _ hc)
    have h2 := h a (List.mem_cons_self ..)
    rw [List.foldl_cons, List.length_cons]
    omega
theorem figs_repr {l : List Nat} (h : ∀ c ∈ l, 48 ≤ c ∧ c ≤ 57) : (reprText (tx l)).length ≤ 2 + 2 * l.length := by
  rw [← reprLen_eq, ← Array.foldl_toList]
  refine fold_two (fun c => (Builtin.Str.reprChar (reprQuote (tx l)) c).length) l 2 fun c hc => ?_
  obtain ⟨h1, h2⟩ := h c hc
  have hp := fig_print (c - 48) (by omega)
  rw [Nat.sub_add_cancel h1] at hp
  exact fig_repr hp (by omega) (by omega) (by omega)
theorem pe_fmtRL {e : Expr} {te : TE} (he : PE X e te) : PE X (.FormattedValue e 114 none pos) (fun σ H Q => te σ H fun v H1 => ∃ l : List Nat, v = .str (tx l) ∧ (∀ c ∈ l, 48 ≤ c ∧ c ≤ 57) ∧ l.length ≤ 100000 ∧ ∀ r : List Nat, r.length ≤ 200002 → Q (.str (tx r)) H1) := by
  intro pins s σ H Q I h
  refine wpAny_FormattedValue_repr (thn (he pins s σ H _ I h) fun v s1 ⟨x, H1, I1, r, l, e1, hc, hl, q⟩ => ?_)
  subst e1
  obtain ⟨t', rfl⟩ := r
  have h1 := figs_repr hc
  have h3 : (reprText (tx l)).length ≤ 200002 := by omega
  have hz : (reprText (tx l)).length ≤ sizeLine := Nat.le_trans h3 (by decide)
  refine wpAny_pyReprObj_gives (typeIs_str _ _ _) F.slot_str_repr F.entry_str_repr (F.args_str_repr_1 _) (gives_str_repr (tx l) t') ?_ rfl hz
  refine formatField_str (fun t2 tk => ⟨.str (reprText (tx l)), H1, (I1.tok _).tok _, ⟨_, rfl⟩, ?_⟩) hz
  rw [tx_of (reprText (tx l))]
  exact q _ (by
    have : (reprText (tx l)).cps.toList.length = (reprText (tx l)).length := Array.length_toList
    omega)
end
end L2
set_option Elab.async false
set_option linter.all false
set_option maxRecDepth 100000
set_option maxHeartbeats 4000000
namespace L2
open PySem PySem.Spec PyProof.Rows
def Itz (K : PySem.W.Frag) (a b : Addr) : It :=
  ⟨fun i H => ∃ xs x ys y, SqL K H a xs ∧ xs[i]? = some x ∧ SqL K H b ys ∧ ys[i]? = some y,
   fun i H x H' => ∃ p v u, H p = none ∧ (∀ ys, SqL K H a ys → ys[i]? = some v) ∧ (∀ ys, SqL K H b ys → ys[i]? = some u) ∧ x = .ref p ∧ H' = upd H p (.tup [v, u]),
   fun i H => ∃ xs ys, SqL K H a xs ∧ SqL K H b ys ∧ (xs.length ≤ i ∨ ys.length ≤ i)⟩
def ZipSt (z TI TO i1 i2 l1 l2 : Addr) (i : Nat) (h : Heap) : Prop := IsZip h z TI TO .none ∧ IsPair h TI (.ref i1) (.ref i2) ∧ (∃ a b, IsPair h TO a b) ∧ h.IsListIter i1 l1 i ∧ h.IsListIter i2 l2 i
theorem zip_apart {h : Heap} {n l1 l2 : Addr} {o1 o2 : Obj} {i : Nat} (hl1 : h.get? l1 = some o1) (hc1 : o1.cls = .type "list") (hl2 : h.get? l2 = some o2) (hc2 : o2.cls = .type "list") (st : ZipSt (n + 4) (n + 2) (n + 3) n (n + 1) l1 l2 i h) : ZipApart (n + 4) (n + 2) (n + 3) n (n + 1) l1 l2 := by
  obtain ⟨hz, hTI, ⟨a, b, hTO⟩, ⟨p1, g1, k1, _⟩, ⟨p2, g2, k2, _⟩⟩ := st
  exact ⟨(fun zz => by have zz : @Eq Nat _ _ := zz; omega), (fun zz => by have zz : @Eq Nat _ _ := zz; omega), (fun zz => by have zz : @Eq Nat _ _ := zz; omega), (fun zz => by have zz : @Eq Nat _ _ := zz; omega), (fun zz => by have zz : @Eq Nat _ _ := zz; omega), (fun zz => by have zz : @Eq Nat _ _ := zz; omega), (fun zz => by have zz : @Eq Nat _ _ := zz; omega), (fun zz => by have zz : @Eq Nat _ _ := zz; omega), (fun zz => by have zz : @Eq Nat _ _ := zz; omega), (fun zz => by have zz : @Eq Nat _ _ := zz; omega),
    ne_cls hl1 hz (by rw [hc1]; show Value.type "list" ≠ Value.type "zip"; decide), ne_cls hl1 hTO (by rw [hc1]; show Value.type "list" ≠ Value.type "tuple"; decide), ne_cls hl1 g1 (by rw [hc1, k1]; decide), ne_cls hl1 g2 (by rw [hc1, k2]; decide),
    ne_cls hl2 hz (by rw [hc2]; show Value.type "list" ≠ Value.type "zip"; decide), ne_cls hl2 hTO (by rw [hc2]; show Value.type "list" ≠ Value.type "tuple"; decide), ne_cls hl2 g1 (by rw [hc2, k1]; decide), ne_cls hl2 g2 (by rw [hc2, k2]; decide)⟩
theorem turn_zip {P : Program} {w : World} {K : PySem.W.Frag} {elts : List Expr} {x1 : Nat} {tp : Pos} (n a b : Addr) :
    Turn P w K (.Tuple elts x1 tp) (Itz K a b) [n + 4, n + 2, n + 3, n, n + 1] (n + 4) (ZipSt (n + 4) (n + 2) (n + 3) n (n + 1) a b) where
  mem := by simp
  obj := fun i h st c hc => by
    obtain ⟨hz, hTI, ⟨ta, tb, hTO⟩, ⟨p1, g1, k1, d1⟩, ⟨p2, g2, k2, d2⟩⟩ := st
    simp only [List.mem_cons, List.not_mem_nil, or_false] at hc
    rcases hc with rfl | rfl | rfl | rfl | rfl
    · exact ⟨_, hz, fun v z => by cases z⟩
    · exact ⟨_, hTI, fun v z => by cases z⟩
    · exact ⟨_, hTO, fun v z => by cases z⟩
    · exact ⟨_, g1, fun v z => by rw [d1] at z; cases z⟩
    · exact ⟨_, g2, fun v z => by rw [d2] at z; cases z⟩
  keep := fun i h h' st k => by
    obtain ⟨hz, hTI, ⟨ta, tb, hTO⟩, h1, h2⟩ := st
    exact ⟨k _ (by simp) _ hz, k _ (by simp) _ hTI, ⟨ta, tb, k _ (by simp) _ hTO⟩, h1.at fun o e => k _ (by simp) o e, h2.at fun o e => k _ (by simp) o e⟩
  item := by
    intro X hP hw hK hc i pins s σ H E I hf st hg
    subst hP hw hK
    obtain ⟨xs, x, ys, y, hq, hx, hq2, hy⟩ := hg
    obtain ⟨its, rv, p, hz1⟩ := I.list hq
    obtain ⟨u, hu, ru⟩ := rv.get hx
    obtain ⟨its2, rv2, p2, hz2⟩ := I.list hq2
    obtain ⟨u2, hu2, ru2⟩ := rv2.get hy
    obtain ⟨o1, ho1, hc1, hd1⟩ := id p.isList
    obtain ⟨o2, ho2, hc2, hd2⟩ := id p2.isList
    have D := zip_apart ho1 hc1 ho2 hc2 st
    obtain ⟨hz, hTI, ⟨ta, tb, hTO⟩, h1, h2⟩ := st
    refine wpAny_pyNext_zip_item D hz hTI hTO h1 h2 p.isList p2.isList (x := u) (y := u2) (by simpa using hu) (by simpa using hu2) fun h' hz' hTO' h1' h2' hT' hsz hk => ?_
    refine ⟨_, rfl, ?_⟩
    refine wpAny_letOwnedTupleGo_zip hz' fun h'' hz'' hs'' => ?_
    have hnz : n + 4 < s.heap.objs.size := Heap.lt_size hz
    have hT2 : h''.get? s.heap.objs.size = some { cls := .type "tuple", data := .seq #[u, u2] } := (hs''.2 _ (Nat.ne_of_gt hnz)).trans hT'
    have hkk : ∀ b ob, b ∉ [n + 4, n + 2, n + 3, n, n + 1] → s.heap.get? b = some ob → h''.get? b = some ob := fun b ob hb q => by
      simp only [List.mem_cons, List.not_mem_nil, or_false, not_or] at hb
      exact (hs''.2 b hb.1).trans (hk b ob hb.1 hb.2.2.1 hb.2.2.2.1 hb.2.2.2.2 q)
    have hfr := I.hok.fresh (Nat.le_refl s.heap.objs.size)
    have hTI2 : h''.get? (n + 2) = some { cls := .type "tuple", data := .seq #[.ref n, .ref (n + 1)] } := (hs''.2 _ (fun zz => by have zz : @Eq Nat _ _ := zz; omega)).trans (hk _ _ (fun zz => by have zz : @Eq Nat _ _ := zz; omega) (fun zz => by have zz : @Eq Nat _ _ := zz; omega) (fun zz => by have zz : @Eq Nat _ _ := zz; omega) (fun zz => by have zz : @Eq Nat _ _ := zz; omega) hTI)
    refine ⟨.ref s.heap.objs.size, _, I.turnLaid (fp := [n + 4, n + 2, n + 3, n, n + 1]) (a := s.heap.objs.size) (o := .tup [x, y]) (h' := h'') (t' := s.toks) hkk hf (Nat.le_refl _) ?_, rfl, ⟨_, x, y, hfr, fun ys hy => by rw [I.list_inj hy hq]; exact hx, fun zs hzs => by rw [I.list_inj hzs hq2]; exact hy, rfl, rfl⟩, ⟨hz'', hTI2, ⟨_, _, (hs''.2 _ (fun zz => by have zz : @Eq Nat _ _ := zz; omega)).trans hTO'⟩, h1'.at fun o e => (hs''.2 _ (fun zz => by have zz : @Eq Nat _ _ := zz; omega)).trans e, h2'.at fun o e => (hs''.2 _ (fun zz => by have zz : @Eq Nat _ _ := zz; omega)).trans e⟩, fun c hc => ?_⟩
    · exact ⟨by show 2 ≤ sizeLine; decide, [u, u2], .cons ru (.cons ru2 .nil), _, hT2, rfl, _, rfl⟩
    · rw [upd_ne]
      · exact (hf c hc).1
      · intro z
        subst z
        simp only [List.mem_cons, List.not_mem_nil, or_false] at hc
        have key : ∀ a, a ≤ n + 4 → s.heap.objs.size ≠ a := fun a ha z => absurd (Nat.lt_of_le_of_lt ha hnz) (by rw [z]; exact Nat.lt_irrefl _)
        rcases hc with hc | hc | hc | hc | hc
        · exact key _ (Nat.le_refl _) hc
        · exact key _ (Nat.add_le_add_left (by decide) n) hc
        · exact key _ (Nat.add_le_add_left (by decide) n) hc
        · exact key _ (Nat.le_add_right _ _) hc
        · exact key _ (Nat.add_le_add_left (by decide) n) hc
  done := by
    intro X hP hw hK hc i pins s σ H E I hf st hg
    subst hP hw hK
    obtain ⟨xs, ys, hq, hq2, hend⟩ := hg
    obtain ⟨its, rv, p, hz1⟩ := I.list hq
    obtain ⟨its2, rv2, p2, hz2⟩ := I.list hq2
    obtain ⟨o1, ho1, hc1, hd1⟩ := id p.isList
    obtain ⟨o2, ho2, hc2, hd2⟩ := id p2.isList
    have D := zip_apart ho1 hc1 ho2 hc2 st
    obtain ⟨hz, hTI, ⟨ta, tb, hTO⟩, h1, h2⟩ := st
    have hl1 := rv.length
    have hl2 := rv2.length
    refine wpAny_pyNext_zip_end (I.ok.hd hc) D hz hTI hTO h1 h2 p.isList p2.isList ?_ fun h' hk => ⟨rfl, I.turnedL (fp := [n + 4, n + 2, n + 3, n, n + 1]) (t' := s.toks) (fun b o hb q => ?_) hf⟩
    · rcases hend with h | h
      · exact .inl (by rw [List.getElem?_toArray]; exact List.getElem?_eq_none (by omega))
      · exact .inr (by rw [List.getElem?_toArray]; exact List.getElem?_eq_none (by omega))
    · simp only [List.mem_cons, List.not_mem_nil, or_false, not_or] at hb
      exact hk b o hb.1 hb.2.2.1 hb.2.2.2.1 hb.2.2.2.2 q
  self := fun A i s Q E st h => wpAny_pyIter_zip st.1 h
section
variable {X : Cx}
def iZip (K : PySem.W.Frag) (ta : TA) : TI := fun σ H R => ta σ H fun vs H1 => ∃ a b, vs = [.ref a, .ref b] ∧ (∃ xs, SqL K H1 a xs) ∧ (∃ xs, SqL K H1 b xs) ∧ R (Itz K a b) H1
theorem pi_zip {a b : Expr} {ta : TA} {elts : List Expr} {x1 : Nat} {tp p pos : Pos} (hg : Gl X "zip") (hm : X.mg "zip" = none) (ha : PA X [a, b] ta) (hs : starEach [a, b] X.env = (false, eval a X.env) :: starEach [b] X.env := by rfl)
    (hs2 : ((backTo pos (starEach [b] X.env)).any (·.1)) = false := by rfl) : PI X (.Tuple elts x1 tp) (.Call (.Name "zip" p) [a, b] [] pos) (iZip X.K ta) := by
  intro pins s σ H R I h
  refine Call_ (ld_blt I hg hm boot_zip (PyProof.Rows.callWith_type1 (thn (ha pos pins s σ H _ I h) fun us s1 ⟨vs, H1, I1, r1, q1⟩ => ?_) hs hs2))
  obtain ⟨l1, l2, e, ⟨xs, hq⟩, ⟨ys, hq2⟩, q⟩ := q1
  subst e
  cases r1 with
  | cons r rr =>
    cases rr with
    | cons r' rr =>
      cases rr
      cases r
      cases r'
      obtain ⟨its, rv, pl, hz⟩ := I1.list hq
      obtain ⟨its2, rv2, pl2, hz2⟩ := I1.list hq2
      refine call_zip_2 pl.isList pl2.isList fun h' hz' hTI hTO hi1 hi2 hsz hk => ?_
      have I3 : Inv X pins σ H1 { s1 with heap := h' } := I1.kept (t' := s1.toks) hk
      have T := turn_zip (P := X.prog) (w := X.w) (K := X.K) (elts := elts) (x1 := x1) (tp := tp) s1.heap.objs.size l1 l2
      have st : ZipSt (s1.heap.objs.size + 4) (s1.heap.objs.size + 2) (s1.heap.objs.size + 3) s1.heap.objs.size (s1.heap.objs.size + 1) l1 l2 0 h' := ⟨hz', hTI, ⟨_, _, hTO⟩, hi1, hi2⟩
      refine T.self _ 0 { s1 with heap := h' } _ _ st ⟨_, _, _, _, H1, rfl, I3, T, st, fun c hc => ?_, q⟩
      simp only [List.mem_cons, List.not_mem_nil, or_false] at hc
      have hle : s1.heap.objs.size ≤ c := by rcases hc with rfl | rfl | rfl | rfl | rfl <;> first | exact Nat.le_add_right _ _ | exact Nat.le_refl _
      exact I1.fpOk hle (I1.hok.fresh hle)
end
theorem for_zip {K : PySem.W.Frag} {a b : Addr} {xs ys : List V} {g : TG} {tb : TS} {D : Ends} {σ : St} {H : Hp} (Pv : Nat → St → Hp → Prop) (hxy : xs.length = ys.length) (h0 : Pv 0 σ H) (hl : ∀ i σ H, i ≤ xs.length → Pv i σ H → SqL K H a xs ∧ SqL K H b ys)
    (hs : ∀ i v u σ H p, xs[i]? = some v → ys[i]? = some u → H p = none → Pv i σ H → g (.ref p) σ (upd H p (.tup [v, u])) fun σ2 H2 => tb { D with nx := Pv (i + 1), ct := Pv (i + 1), bk := D.nx } σ2 H2) (hd : ∀ σ H, Pv xs.length σ H → D.nx σ H) :
    ∃ W : Nat → Nat → St → Hp → Prop, (∃ m, W 0 m σ H) ∧ ∀ i m σ H, W i m σ H →
      ((Itz K a b).stop i H ∧ D.nx σ H) ∨ ((Itz K a b).go i H ∧ ∃ N : St → Hp → Prop, (∀ σ' H', N σ' H' → ∃ m', m' < m ∧ W (i + 1) m' σ' H') ∧ ∀ x H', (Itz K a b).yld i H x H' → g x σ H' fun σ2 H2 => tb { D with nx := N, ct := N, bk := D.nx } σ2 H2) := by
  refine ⟨fun i m σ H => m = xs.length - i ∧ i ≤ xs.length ∧ Pv i σ H, ⟨xs.length, by simp, Nat.zero_le _, h0⟩, ?_⟩
  rintro i m σ H ⟨rfl, hi, p⟩
  obtain ⟨q, q2⟩ := hl i σ H hi p
  by_cases hlt : i < xs.length
  · refine .inr ⟨⟨xs, _, ys, _, q, List.getElem?_eq_getElem hlt, q2, List.getElem?_eq_getElem (show i < ys.length by omega)⟩, Pv (i + 1), fun σ' H' p' => ⟨xs.length - (i + 1), by omega, rfl, hlt, p'⟩, fun x H' y => ?_⟩
    obtain ⟨r, v, u, hr, hv, hu, rfl, rfl⟩ := y
    exact hs i v u σ H r (hv xs q) (hu ys q2) hr p
  · have e : i = xs.length := by omega
    subst e
    exact .inl ⟨⟨xs, ys, q, q2, .inl (Nat.le_refl _)⟩, hd σ H p⟩
end L2
set_option Elab.async false
set_option linter.all false
set_option maxRecDepth 100000
set_option maxHeartbeats 4000000
namespace L2
open PySem PySem.Spec PyProof.Rows
abbrev ZipG (h : Heap) (z TI TO : Addr) (u : Value) (b : Bool) : Prop :=
  h.get? z = some { cls := .type "zip", dict := none, data := .fields #[u, .bool b, .bool false, .ref TI, .ref TO], slots := #[] }
namespace En
section
variable {prog : Program} {w : World} {A : Around} {E : Value → Shared → Prop} {s : Shared}
theorem alive_or {a : Addr} {Q : Option Obj → Shared → Prop} (h : Q (s.heap.get? a) s) : wpAny (model prog w) A (loadIfAlive a) Q E s := fun _ _ _ => h
theorem held {z TI TO T : Addr} {o : Obj} {b : Bool} {Q : Bool → Shared → Prop} (hz : ZipG s.heap z TI TO (rawInt T) b) (ho : s.heap.get? T = some o)
    (hQ : ∀ g1, ZipG g1 z TI TO (rawInt T) true → Heap.SameBut z s.heap g1 → Q false { s with heap := g1 }) :
    wpAny (model prog w) A (Builtin.SmallTypes.ownedTupleIsFree (.ref z)) Q E s := by
  unfold Builtin.SmallTypes.ownedTupleIsFree
  refine wpAny_bind (wpAny_field hz rfl (x := rawInt T) rfl ?_)
  show wpAny _ _ (loadIfAlive ((T : Int)).toNat >>= _) _ _ _
  rw [Int.toNat_natCast]
  refine wpAny_bind (alive_or ?_)
  rw [ho]
  simp only [Option.isNone_some, Bool.false_eq_true, if_false]
  refine wpAny_bind (wpAny_field hz rfl (x := .bool b) rfl ?_)
  cases b with
  | true =>
    rw [if_neg (by simp)]
    exact wpAny_pure (hQ _ hz (Heap.SameBut.refl ..))
  | false =>
    rw [if_pos (by simp)]
    refine wpAny_bind (wpAny_setField_rec hz (by simp) fun g1 z1 b1 => ?_)
    exact wpAny_pure (hQ g1 z1 b1)
end
end En
end L2
set_option Elab.async false
set_option linter.all false
set_option maxRecDepth 100000
set_option maxHeartbeats 4000000
namespace L2
open PySem PySem.Spec PyProof.Rows
namespace En
open AutoSeq1 (wpAny_loadPart')
section
variable {prog : Program} {w : World} {A : Around} {E : Value → Shared → Prop} {s : Shared}
end
end En
section
variable {X : Cx}
end
end L2
set_option Elab.async false
set_option linter.all false
set_option maxRecDepth 100000
set_option maxHeartbeats 4000000
namespace L2
open PySem PySem.Spec PyProof.Rows
namespace En
open AutoSeq1 (wpAny_loadPart')
section
variable {prog : Program} {w : World} {A : Around} {E : Value → Shared → Prop} {s : Shared}
end
end En
section
variable {X : Cx}
end
end L2
set_option Elab.async false
set_option linter.all false
set_option maxRecDepth 100000
set_option maxHeartbeats 4000000
namespace L2
open PySem PySem.Spec PyProof.Rows
section
variable {X : Cx}
end
section
variable {X : Cx} {tg : Expr}
end
section
variable {X : Cx} {pins : List (Addr × Obj)} {σ : St} {H : Hp} {s : Shared} {A : Around}
end
section
variable {X : Cx}
end
end L2
set_option Elab.async false
set_option linter.all false
set_option maxRecDepth 100000
set_option maxHeartbeats 4000000
namespace L2
open PySem PySem.Spec PyProof.Rows
def RawD (h : Heap) (d : Addr) (es : Array DictEntry) (ep : Nat) : Prop := ∃ o, h.get? d = some o ∧ o.ExactDict ∧ o.data = .dict es ep
namespace Dk
section
variable {prog : Program} {w : World} {A : Around} {E : Value → Shared → Prop} {s : Shared} {d : Addr} {es : Array DictEntry} {ep : Nat}
theorem typ (hm : RawD s.heap d es ep) : s.TypeIs (.ref d) "dict" := let ⟨o, ho, hc, _⟩ := hm; ⟨o, ho, hc.1⟩
theorem iter {Q : Value → Shared → Prop} (hd : (d == sysModules) = false) (hm : RawD s.heap d es ep)
    (hQ : Q (.ref s.heap.objs.size) { s with heap := s.heap.push { cls := .type "dict_keyiterator", data := .fields #[.ref d, .int 0 0, .int es.size 0, .int ep 0] } }) : wpAny (model prog w) A (pyIter (.ref d)) Q E s := by
  have hT := typ hm
  obtain ⟨o, ho, hc, hdat⟩ := hm
  refine wpAny_pyIter_slot hT F.slot_dict_iter (wpAny_call_entry F.slot_dict_iter hT F.entry_dict_iter ?_ (F.args_dict_iter_1 _))
  unfold Builtin.«dict.__iter__»
  refine wpAny_bind ?_
  unfold Builtin.Dict.dictSlotNone
  refine wpAny_bind (wpAny_notOrdered_dict hT ?_)
  show wpAny _ _ (pure (Value.ref d)) _ _ s
  refine wpAny_pure ?_
  show wpAny _ _ (Builtin.Dict.showsAll d >>= _) _ _ s
  unfold Builtin.Dict.showsAll
  rw [if_neg (by rw [hd]; exact Bool.false_ne_true)]
  refine wpAny_bind (wpAny_pure (wpAny_bind (wpAny_dictEntries ho hdat (wpAny_bind (wpAny_dictEpoch ho hdat ?_)))))
  exact wpAny_bind (wpAny_newObj_type (wpAny_pure ⟨_, rfl, "dict_keyiterator", _, ⟨_, Heap.get?_push_size _ rfl, rfl⟩, F.slot_dict_keyiterator_next.lookup, by simpa [rawInt] using hQ⟩))
theorem item {it : Addr} {i : Nat} {en : DictEntry} {Q : Option Value → Shared → Prop} (hit : s.heap.IsKeyIter it d i es.size ep) (hm : RawD s.heap d es ep) (hx : es[i]? = some en)
    (hQ : ∀ g1, g1.IsKeyIter it d (i + 1) es.size ep → Heap.SameBut it s.heap g1 → Q (some en.key) { s with heap := g1 }) : wpAny (model prog w) A (pyNext (.ref it)) Q E s := by
  obtain ⟨o, ho, hc, hd⟩ := id hit
  obtain ⟨od, hod, hcd, hdd⟩ := id hm
  unfold pyNext
  refine wpAny_bind (wpAny_attempt (wpAny_callSpecial?_slot (name := Str.ofString "__next__") hit.typeIs F.slot_dict_keyiterator_next (wpAny_call_entry F.slot_dict_keyiterator_next hit.typeIs F.entry_dict_keyiterator_next ?_ (F.args_dict_keyiterator_next_1 _))))
  refine wpAny_bind (wpAny_pure (wpAny_bind (wpAny_bind ?_)))
  first | refine wpAny_bind (wpAny_typeNameOfWhole_keyiter hit.typeIs (wpAny_pure ?_)) | refine wpAny_bind (wpAny_typeNameOf_keyiter hit.typeIs (wpAny_pure ?_))
  refine wpAny_bind (wpAny_fieldsOf ho hd ?_)
  have own : Builtin.Dict_items.ownsTuple "dict_keyiterator" = false := by decide
  simp only [own, Bool.false_eq_true, if_false]
  show wpAny _ _ (if (Value.ref d == Value.none) = true then _ else _) _ _ s
  rw [if_neg (show ¬ ((Value.ref d == Value.none) = true) from Bool.false_ne_true)]
  refine wpAny_bind (wpAny_pure (wpAny_bind (wpAny_dictEntries hod hdd ?_)))
  rw [if_neg (by simp)]
  refine wpAny_bind (wpAny_pure (wpAny_bind (wpAny_dictEpoch hod hdd ?_)))
  rw [if_neg (by simp)]
  refine wpAny_pure ?_
  simp only [show ¬ ((i : Int) < 0) from by omega, if_false, Int.toNat_natCast, hx]
  refine wpAny_bind ?_
  first | refine wpAny_bind (wpAny_typeNameOfWhole_keyiter hit.typeIs (wpAny_pure ?_)) | refine wpAny_bind (wpAny_typeNameOf_keyiter hit.typeIs (wpAny_pure ?_))
  refine wpAny_bind (wpAny_isOneOf_keyiter hit.typeIs ?_)
  show wpAny _ _ (setField (.ref it) 1 (rawInt ((i : Int) + 1)) >>= _) _ _ s
  refine wpAny_bind (wpAny_setField ho hd (by simp) ?_)
  have j1 : (s.heap.update it (Obj.mapFields (·.setIfInBounds 1 (rawInt ((i : Int) + 1))))).IsKeyIter it d (i + 1) es.size ep :=
    ⟨_, Heap.get?_update_self _ ho (Obj.isFreed_of_fields (Obj.data_mapFields hd _)), (Obj.cls_mapFields ..).trans hc, by rw [Obj.data_mapFields hd]; simp [rawInt]⟩
  refine wpAny_bind (wpAny_holding ?_)
  refine wpAny_bind (wpAny_isOneOf_keyiter (s := { s with heap := s.heap.update it (Obj.mapFields (·.setIfInBounds 1 (rawInt ((i : Int) + 1)))) }) j1.typeIs ?_)
  show wpAny _ _ (pure en.key) _ _ _
  exact wpAny_pure (wpAny_pure ⟨_, rfl, wpAny_pure (hQ _ j1 (Heap.SameBut.update ..))⟩)
theorem fin {it : Addr} {i : Nat} {Q : Option Value → Shared → Prop} (hh : A.handled = none) (hit : s.heap.IsKeyIter it d i es.size ep) (hm : RawD s.heap d es ep) (hx : es[i]? = none)
    (hQ : ∀ g1, Heap.ExtBut it s.heap g1 → Q none { s with heap := g1 }) : wpAny (model prog w) A (pyNext (.ref it)) Q E s := by
  obtain ⟨o, ho, hc, hd⟩ := id hit
  obtain ⟨od, hod, hcd, hdd⟩ := id hm
  unfold pyNext
  refine wpAny_bind (wpAny_attempt (wpAny_callSpecial?_slot (name := Str.ofString "__next__") hit.typeIs F.slot_dict_keyiterator_next (wpAny_call_entry F.slot_dict_keyiterator_next hit.typeIs F.entry_dict_keyiterator_next ?_ (F.args_dict_keyiterator_next_1 _))))
  refine wpAny_bind (wpAny_pure (wpAny_bind (wpAny_bind ?_)))
  first | refine wpAny_bind (wpAny_typeNameOfWhole_keyiter hit.typeIs (wpAny_pure ?_)) | refine wpAny_bind (wpAny_typeNameOf_keyiter hit.typeIs (wpAny_pure ?_))
  refine wpAny_bind (wpAny_fieldsOf ho hd ?_)
  have own : Builtin.Dict_items.ownsTuple "dict_keyiterator" = false := by decide
  simp only [own, Bool.false_eq_true, if_false]
  show wpAny _ _ (if (Value.ref d == Value.none) = true then _ else _) _ _ s
  rw [if_neg (show ¬ ((Value.ref d == Value.none) = true) from Bool.false_ne_true)]
  refine wpAny_bind (wpAny_pure (wpAny_bind (wpAny_dictEntries hod hdd ?_)))
  rw [if_neg (by simp)]
  refine wpAny_bind (wpAny_pure (wpAny_bind (wpAny_dictEpoch hod hdd ?_)))
  rw [if_neg (by simp)]
  refine wpAny_pure ?_
  simp only [show ¬ ((i : Int) < 0) from by omega, if_false, Int.toNat_natCast, hx]
  refine wpAny_bind ?_
  first | refine wpAny_bind (wpAny_typeNameOfWhole_keyiter hit.typeIs (wpAny_pure ?_)) | refine wpAny_bind (wpAny_typeNameOf_keyiter hit.typeIs (wpAny_pure ?_))
  show wpAny _ _ (setField (.ref it) 0 .none >>= _) _ _ s
  refine wpAny_bind (wpAny_setField ho hd (by simp) ?_)
  show wpAny _ _ (newExc (.type "StopIteration") [] >>= _) _ _ _
  refine wpAny_bind ?_
  simp only [newExc, newTuple]
  refine wpAny_bind (wpAny_newObj_type ?_ (by size_fits))
  refine wpAny_bind (m := firstArgMember _ _) (wpAny_of_eq (a := Value.none) (by first | rfl | (simp only [firstArgMember]; rfl)) ?_)
  refine wpAny_newObj_type ?_ (by size_fits)
  simp only [raiseNew]
  refine wpAny_bind (wpAny_handled ?_)
  rw [show A.in1.handled = none from hh]
  refine wpAny_bind (wpAny_pure (wpAny_throw ?_))
  refine wpAny_bind (wpAny_isInstance (T := "StopIteration") (b := true) ⟨_, Heap.get?_push_size _ rfl, rfl⟩ isSubtype_stop ?_)
  exact wpAny_pure (hQ _ (((Heap.SameBut.update ..).extBut.push _).push _))
theorem RawD.at {h h' : Heap} (x : RawD h d es ep) (e : ∀ o, h.get? d = some o → h'.get? d = some o) : RawD h' d es ep := let ⟨o, ho, r⟩ := x; ⟨o, e _ ho, r⟩
theorem walks (hh : A.handled = none) (I : Addr) (hne : d ≠ I) : Walks prog w A I [I, d] [I] es.size (fun i v => ∃ en, es[i]? = some en ∧ v = en.key) (fun i h => h.IsKeyIter I d i es.size ep ∧ RawD h d es ep) where
  sub := fun b hb => by simp at hb; simp [hb]
  frame := fun _ _ _ st hk => ⟨st.1.at fun o e => hk I (by simp) o e, RawD.at st.2 fun o e => hk d (by simp) o e⟩
  item := fun i s Q E hi st hQ => by
    refine item (en := es[i]) st.1 st.2 (by simp [hi]) fun g1 j1 b1 => ?_
    exact hQ _ g1 s.toks ⟨_, by simp [hi], rfl⟩ ⟨j1, RawD.at st.2 fun o e => b1.extBut _ _ hne e⟩ fun b o hb e => b1.extBut b o (fun h => hb (by simp [h])) e
  done := fun s Q E st hQ => fin hh st.1 st.2 (by simp) fun g1 b1 => hQ g1 s.toks fun b o hb e => b1 b o (fun h => hb (by simp [h])) e
  self := fun _ _ _ _ st hQ => wpAny_pyIter_keyiter st.1 hQ
theorem hint {Q : Bool → Shared → Prop} (hm : RawD s.heap d es ep) (h : Q false s) : wpAny (model prog w) A (Builtin.List.listLengthHint (.ref d)) Q E s := by
  unfold Builtin.List.listLengthHint
  refine wpAny_bind (wpAny_specialOf (typ hm) F.slot_dict_len.lookup ?_)
  generalize hid : ("dict.__len__" : String) = id0
  wp_delta
  rw [show splitId id0 = some ("dict", "__len__") from by subst hid; decide +kernel]
  subst hid
  refine wpAny_bind (wpAny_isInstance (T := "dict") (b := true) (typ hm) (by rw [isSubtype_type]; kernel_rfl) ?_)
  refine wpAny_ite_split (fun hab => absurd hab (by decide)) (fun _ => ?_)
  refine wpAny_ite_split (fun _ => ?_) (fun hab => absurd (by decide +kernel) hab)
  exact wpAny_bind (wpAny_typeOf (T := "dict") (typ hm) (wpAny_pure h))
theorem extend {R : Result → Shared → Prop} (hh : A.handled = none) (hd : (d == sysModules) = false) (hm : RawD s.heap d es ep) (hlen : es.size ≤ sizeLine) (S : Addr) (res : Value) (c₀ : Nat) (hS : s.heap.get? S = some { cls := .type "list", data := .seq #[] c₀ })
    (hR : ∀ g1 tk acc' c', (∀ b o, b ≠ S → s.heap.get? b = some o → g1.get? b = some o) → g1.get? S = some { cls := .type "list", dict := none, data := .seq acc' c', slots := #[] } →
      ItemsOf (fun i v => ∃ en, es[i]? = some en ∧ v = en.key) acc' es.size → R (.ok (.ret res)) { s with heap := g1, toks := tk }) :
    wpAny (model prog w) A.in1 (Builtin.List.listExtendWith (.ref S) (.ref d) res)
      (fun fin s' => match fin with | .done f => R (.ok f) s' | .again c' => c'.quiet = true ∧ codeAny (model prog w) A c' R s') (fun e s' => R (.error e) s') s := by
  have hSd : S ≠ d := fun e => by
    obtain ⟨o, ho, hc, hdat⟩ := hm
    rw [← e, hS] at ho
    rw [← Option.some.inj ho] at hdat
    cases hdat
  have hdl : d < s.heap.objs.size := by obtain ⟨o, ho, _⟩ := hm; exact Heap.lt_size ho
  have hSI : S ≠ s.heap.objs.size := Nat.ne_of_lt (Heap.lt_size hS)
  have hdI : d ≠ s.heap.objs.size := Nat.ne_of_lt hdl
  unfold Builtin.List.listExtendWith
  refine wpAny_bind (wpAny_typeOf (T := "dict") (typ hm) ?_)
  have h1 : Builtin.List.listSameRef (.ref S) (.ref d) = false := by simp [Builtin.List.listSameRef, hSd]
  have h2 : (Value.type "dict" == Value.type "list") = false := by decide
  have h3 : (Value.type "dict" == Value.type "tuple") = false := by decide
  simp only [h1, h2, h3, Bool.or_false, Bool.false_eq_true, if_false]
  refine wpAny_bind (iter hd hm ?_)
  have hm1 : RawD (s.heap.push { cls := .type "dict_keyiterator", data := .fields #[.ref d, .int 0 0, .int es.size 0, .int ep 0] }) d es ep := RawD.at hm fun o e => Heap.get?_push_of_some _ e
  refine wpAny_bind (wpAny_holding (hint (s := { s with heap := s.heap.push { cls := .type "dict_keyiterator", data := .fields #[.ref d, .int 0 0, .int es.size 0, .int ep 0] } }) hm1 ?_))
  have hS1 := Heap.get?_push_of_some { cls := .type "dict_keyiterator", data := .fields #[.ref d, .int 0 0, .int es.size 0, .int ep 0] } hS
  have hI1 : (s.heap.push { cls := .type "dict_keyiterator", data := .fields #[.ref d, .int 0 0, .int es.size 0, .int ep 0] }).IsKeyIter s.heap.objs.size d 0 es.size ep := ⟨_, Heap.get?_push_size _ rfl, rfl, rfl⟩
  have kp : ∀ b o, s.heap.get? b = some o → (s.heap.push { cls := .type "dict_keyiterator", data := .fields #[.ref d, .int 0 0, .int es.size 0, .int ep 0] }).get? b = some o := fun b o e => Heap.get?_push_of_some _ e
  generalize s.heap.push { cls := .type "dict_keyiterator", data := .fields #[.ref d, .int 0 0, .int es.size 0, .int ep 0] } = h1' at hS1 hI1 kp hm1 ⊢
  refine wpAny_ite_split (fun _ => ?_) (fun hab => absurd (by decide +kernel) hab)
  refine wpAny_bind (wpAny_rule ?_)
  refine wpAny_bind ?_
  show wpAny _ _ (updateSeq S (·.push .none) >>= fun _ => updateSeq S (·.pop)) _ _ _
  refine wpAny_bind (wpAny_updateSeq hS1 rfl ?_)
  have hS2 := Heap.get?_update_self (Obj.mapSeq (·.push Value.none)) hS1 rfl
  refine wpAny_updateSeq (hz := by seq_fits) hS2 rfl ?_
  have hS3 := Heap.get?_update_self (Obj.mapSeq (·.pop)) hS2 rfl
  have oth : ∀ b o, b ≠ S → h1'.get? b = some o → ((h1'.update S (Obj.mapSeq (·.push Value.none))).update S (Obj.mapSeq (·.pop))).get? b = some o := fun b o hb e => (Heap.get?_update_other _ _ (Ne.symm hb)).trans ((Heap.get?_update_other _ _ (Ne.symm hb)).trans e)
  have W := (walks (prog := prog) (w := w) (A := A.in1) (d := d) (es := es) (ep := ep) hh s.heap.objs.size hdI).toS
  have hSf : S ∉ [s.heap.objs.size, d] := fun hmem => by
    rcases List.mem_cons.mp hmem with e | hmem
    · exact hSI e
    · exact hSd (List.mem_singleton.mp hmem)
  refine wpAny_pure ⟨plainId_quiet F.plain_extend_loop _, ?_⟩
  refine codeAny_extend_loopS W hlen S hSf res es.size 0 _ #[] _ rfl (Nat.zero_le _) ⟨hI1.at fun o e => oth _ o (Ne.symm hSI) e, RawD.at hm1 fun o e => oth _ o (Ne.symm hSd) e⟩ hS3 (ItemsOf.nil _) fun s' acc' c' hmv hS' hacc => ?_
  rw [Moved.eq_with hmv]
  refine hR s'.heap s'.toks acc' c' (fun b o hb e => hmv.heap b o (fun hmem => ?_) (oth b o hb (kp b o e))) hS' hacc
  rcases List.mem_cons.mp hmem with e' | hmem
  · exact hb e'
  · exact absurd (Heap.lt_size e) (by rw [List.mem_singleton.mp hmem]; exact Nat.lt_irrefl _)
theorem init {R : Result → Shared → Prop} (hh : A.handled = none) (hd : (d == sysModules) = false) (hm : RawD s.heap d es ep) (hlen : es.size ≤ sizeLine) (S : Addr) (hS : s.heap.get? S = some { cls := .type "list", data := .seq #[] })
    (hR : ∀ g1 tk acc' c', (∀ b o, b ≠ S → s.heap.get? b = some o → g1.get? b = some o) → g1.get? S = some { cls := .type "list", dict := none, data := .seq acc' c', slots := #[] } →
      ItemsOf (fun i v => ∃ en, es[i]? = some en ∧ v = en.key) acc' es.size → R (.ok (.ret .none)) { s with heap := g1, toks := tk }) :
    wpAny (model prog w) A.in1 (Builtin.«list.__init__» ⟨[.ref S, .ref d], []⟩)
      (fun fin s' => match fin with | .done f => R (.ok f) s' | .again c' => c'.quiet = true ∧ codeAny (model prog w) A c' R s') (fun e s' => R (.error e) s') s := by
  have hSd : d ≠ S := fun e => by
    obtain ⟨o, ho, hc, hdat⟩ := hm
    rw [e, hS] at ho
    rw [← Option.some.inj ho] at hdat
    cases hdat
  show wpAny _ _ (do let old ← Builtin.List.listItems (.ref S); Builtin.List.listUpdate (.ref S) (fun _ => #[]); letGo old.toList.reverse; Builtin.List.listExtendWith (.ref S) (.ref d) .none) _ _ s
  refine wpAny_bind ?_
  unfold Builtin.List.listItems
  refine wpAny_bind (wpAny_seqItems hS rfl (wpAny_pure ?_))
  show wpAny _ _ (updateSeq S (fun _ => #[]) >>= fun _ => letGo (#[] : Array Value).toList.reverse >>= fun _ => Builtin.List.listExtendWith (.ref S) (.ref d) .none) _ _ s
  refine wpAny_bind (wpAny_updateSeq hS rfl ?_)
  have hS2 := Heap.get?_update_self (Obj.mapSeq (fun _ => (#[] : Array Value))) hS rfl
  have oth : ∀ b o, b ≠ S → s.heap.get? b = some o → (s.heap.update S (Obj.mapSeq (fun _ => (#[] : Array Value)))).get? b = some o := fun b o hb e => (Heap.get?_update_other _ _ (Ne.symm hb)).trans e
  refine wpAny_bind (wpAny_letGo ?_)
  refine extend (s := { s with heap := s.heap.update S (Obj.mapSeq (fun _ => (#[] : Array Value))) }) hh hd (RawD.at hm fun o e => oth _ o hSd e) hlen S .none _ hS2 fun g1 tk acc' c' hk hS' hacc => ?_
  exact hR g1 tk acc' c' (fun b o hb e => hk b o hb (oth b o hb e)) hS' hacc
end
end Dk
section
variable {X : Cx}
end
end L2
set_option Elab.async false
set_option linter.all false
set_option maxRecDepth 100000
set_option maxHeartbeats 4000000
namespace L2
open PySem PySem.Spec PyProof.Rows
open Sem (wp)
open AutoSeq1 (wpAny_loadPart')
section
variable {prog : Program} {w : World} {A : Around} {E : Value → Shared → Prop} {s : Shared}
end
section
variable {X : Cx} {a b : Expr} {ta : TA} {p p2 pos pos2 : Pos}
end
section
variable {X : Cx}
end
end L2
set_option Elab.async false
set_option linter.all false
set_option maxRecDepth 100000
set_option maxHeartbeats 4000000
namespace L2
open PySem PySem.Spec PyProof.Rows
structure MDef (K : PySem.W.Frag) (C : Addr) (x q : Str) (st : Stmt) (ps : List Str) (f : Addr) (fd : FuncData) : Prop where
  F : Fun K x q st f fd
  m : Meth K C x f
  b : Binds K fd ps []
section
variable {X : Cx}
end
section
variable {X : Cx} {o e : Expr} {es : List Expr} {to : TE} {t : TA} {name : Str} {apos cpos : Pos} {T id : String} {r : V → List V → Hp → VK → Prop}
theorem pe_bmK {K : PySem.W.Frag} (hK : X.K = K) (pa : PlainAttrs T) (slot : Slot T name id) (hty : typeOf (.builtin id) = pure (.type "method_descriptor")) (hm : MtR X id r) (ho : PE X o to) (ha : PA X (e :: es) t)
    (hbase : attributeBase o name X.env (eval o X.env) = eval o X.env := by rfl)
    (hfew : ((backTo cpos (starEach (e :: es) X.env)).all (fun x => !x.1) && (backToKw cpos (keywordEach [] X.env)).all (fun x => x.1.isSome)
      && decide ((e :: es).length + ([] : List Keyword).length + (if ([] : List Keyword).isEmpty then 0 else 1) < 30)) = true := by rfl)
    (hline : (apos.endLine == cpos.line) = true := by rfl) (hs : starEach (e :: es) X.env = (false, eval e X.env) :: starEach es X.env := by rfl) (hplain : (backTo cpos (starEach es X.env)).any (·.1) = false := by rfl) :
    PE X (.Call (.Attribute o name apos) (e :: es) [] cpos) (tBM K T r to t) := by
  subst hK
  exact pe_bm pa slot hty hm ho ha hbase hfew hline hs hplain
end
end L2
set_option Elab.async false
set_option linter.all false
set_option maxRecDepth 100000
set_option maxHeartbeats 4000000
namespace L2
open PySem PySem.Spec PyProof.Rows
section
variable {prog : Program} {w : World} {A : Around} {E : Value → Shared → Prop}
end
section
variable {X : Cx}
end
end L2
set_option Elab.async false
set_option linter.all false
set_option maxRecDepth 100000
set_option maxHeartbeats 4000000
namespace L2
open PySem PySem.Spec PyProof.Rows
open PySem.W (KasT kas_rev kas_asc kas_desc kas_tail3 kas_descPart kas_count kas_place kas_bin kas_sort kas_ask kas_ask_eq kas_runs kas_st kas_range kas_item kas_item_eq)
namespace Srt
def Gd {α : Type} (P : Nat → Nat → Prop) (f : Nat → Nat → Bool) : KasT α → (α → Prop) → Prop
  | .ret a, Q => Q a
  | .ask i j k, Q => P i j ∧ Gd P f (k (f i j)) Q
theorem Gd.bind {α β : Type} {P : Nat → Nat → Prop} {f : Nat → Nat → Bool} {g : α → KasT β} {Q : β → Prop} : ∀ {t : KasT α}, Gd P f t (fun a => Gd P f (g a) Q) → Gd P f (t.bind g) Q
  | .ret _, h => h
  | .ask i j k, h => ⟨h.1, Gd.bind (t := k (f i j)) h.2⟩
theorem Gd.wp {α : Type} {P : Nat → Nat → Prop} {f : Nat → Nat → Bool} {cmp : Nat → Nat → (Bool → Shared → Prop) → Shared → Prop} {s : Shared} (hc : ∀ i j C, P i j → C (f i j) s → cmp i j C s) {Q : α → Prop} {G : α → Shared → Prop} (hQ : ∀ a, Q a → G a s) : ∀ {t : KasT α}, Gd P f t Q → t.kasWp cmp G s
  | .ret _, h => hQ _ h
  | .ask i j k, h => hc i j _ h.1 (Gd.wp hc hQ (t := k (f i j)) h.2)
section
variable {n : Nat} {key : Nat → Int}
structure Pr (n : Nat) (p : Array Nat) : Prop where
  sz : p.size = n
  lt : ∀ i, i < n → p.getD i 0 < n
  inj : ∀ i j, i < n → j < n → p.getD i 0 = p.getD j 0 → i = j
def Up (key : Nat → Int) (p : Array Nat) (m : Nat) : Prop := ∀ i j, i < j → j < m → key (p.getD i 0) < key (p.getD j 0)
def Dn (key : Nat → Int) (p : Array Nat) (m : Nat) : Prop := ∀ i j, i < j → j < m → key (p.getD j 0) < key (p.getD i 0)
def Ok (n : Nat) (key : Nat → Int) (i j : Nat) : Prop := i < n ∧ j < n ∧ key i ≠ key j
def Inj (n : Nat) (key : Nat → Int) : Prop := ∀ i j, i < n → j < n → key i = key j → i = j
abbrev ask (key : Nat → Int) (i j : Nat) : Bool := decide (key i < key j)
theorem Pr.ok {p : Array Nat} (h : Pr n p) (hk : Inj n key) {i j : Nat} (hi : i < n) (hj : j < n) (hij : i ≠ j) : Ok n key (p.getD i 0) (p.getD j 0) :=
  ⟨h.lt i hi, h.lt j hj, fun e => hij (h.inj i j hi hj (hk _ _ (h.lt i hi) (h.lt j hj) e))⟩
theorem Up.more {p : Array Nat} {m : Nat} (h : Up key p m) (hm : 1 ≤ m) (hl : key (p.getD (m - 1) 0) < key (p.getD m 0)) : Up key p (m + 1) := fun i j hij hj => by
  by_cases e : j = m
  · subst e
    by_cases e2 : i = j - 1
    · rw [e2]; exact hl
    · exact Int.lt_trans (h i (j - 1) (by omega) (by omega)) hl
  · exact h i j hij (by omega)
theorem Dn.more {p : Array Nat} {m : Nat} (h : Dn key p m) (hm : 1 ≤ m) (hl : key (p.getD m 0) < key (p.getD (m - 1) 0)) : Dn key p (m + 1) := fun i j hij hj => by
  by_cases e : j = m
  · subst e
    by_cases e2 : i = j - 1
    · rw [e2]; exact hl
    · exact Int.lt_trans hl (h i (j - 1) (by omega) (by omega))
  · exact h i j hij (by omega)
end
end Srt
end L2
set_option Elab.async false
set_option linter.all false
set_option maxRecDepth 100000
set_option maxHeartbeats 4000000
namespace L2
open PySem PySem.Spec PyProof.Rows
open AutoSeq1 (wpAny_loadPart')
open PySem.W (KasT kas_sort kas_ask kas_ask_eq kas_runs kas_st kas_range kas_item kas_item_eq)
namespace Srt
section
variable {prog : Program} {w : World} {A : Around} {E : Value → Shared → Prop} {s : Shared}
end
end Srt
end L2
set_option Elab.async false
set_option linter.all false
set_option maxRecDepth 100000
set_option maxHeartbeats 4000000
namespace L2
open PySem PySem.Spec PyProof.Rows
section
variable {X : Cx}
end
end L2
set_option Elab.async false
set_option linter.all false
set_option maxRecDepth 100000
set_option maxHeartbeats 4000000
namespace L2
open PySem PySem.Spec PyProof.Rows
section
variable {prog : Program} {w : World} {K : Type} [DecidableEq K] {knd : KeyKind prog w K} {A : Around} {E : Value → Shared → Prop}
end
section
variable {X : Cx}
end
end L2
set_option Elab.async false
set_option linter.all false
set_option maxRecDepth 100000
set_option maxHeartbeats 4000000
namespace L2
open PySem PySem.Spec PyProof.Rows
section
variable {X : Cx} {pins : List (Addr × Obj)} {σ : St} {H : Hp} {s : Shared} {d : Addr} {u : HO} {o : Obj}
end
section
variable {X : Cx} {tg : Expr}
end
end L2
set_option Elab.async false
set_option linter.all false
set_option maxRecDepth 100000
set_option maxHeartbeats 4000000
namespace L2
open PySem PySem.Spec PyProof.Rows
inductive Dt where
  | i (n : Int) | s (l : List Nat) | n | b (k : Bool) | t (xs : List Dt) | l (xs : List Dt)
inductive DtAt (H : Hp) : Nat → V → Dt → Prop where
  | i {k : Nat} {n : Int} : DtAt H k (.int n) (.i n)
  | s {k : Nat} {l : List Nat} : DtAt H k (.str (tx l)) (.s l)
  | n {k : Nat} : DtAt H k .non .n
  | b {k : Nat} {c : Bool} : DtAt H k (.bl c) (.b c)
  | t {k : Nat} {a : Addr} {vs : List V} {ds : List Dt} : H a = some (.tup vs) → vs.length = ds.length → (∀ (j : Nat) (v : V) (d : Dt), vs[j]? = some v → ds[j]? = some d → DtAt H k v d) → DtAt H (k + 1) (.ref a) (.t ds)
  | l {k : Nat} {a : Addr} {vs : List V} {ds : List Dt} : H a = some (.lst vs) → vs.length = ds.length → (∀ (j : Nat) (v : V) (d : Dt), vs[j]? = some v → ds[j]? = some d → DtAt H k v d) → DtAt H (k + 1) (.ref a) (.l ds)
theorem DtAt.keep {H H' : Hp} (ht : ∀ a xs, H a = some (.tup xs) → H' a = some (.tup xs)) (hl : ∀ a xs, H a = some (.lst xs) → H' a = some (.lst xs)) {k : Nat} {v : V} {d : Dt} (h : DtAt H k v d) : DtAt H' k v d := by
  induction h with
  | i => exact .i
  | s => exact .s
  | n => exact .n
  | b => exact .b
  | t a b c ih => exact .t (ht _ _ a) b ih
  | l a b c ih => exact .l (hl _ _ a) b ih
theorem DtAt.same {H H' : Hp} (s : Same H H') {k : Nat} {v : V} {d : Dt} (h : DtAt H k v d) : DtAt H' k v d := h.keep (fun _ _ e => s _ _ e) (fun _ _ e => s _ _ e)
theorem DtAt.up {H : Hp} {k : Nat} {v : V} {d : Dt} (h : DtAt H k v d) : DtAt H (k + 1) v d := by
  induction h with
  | i => exact .i
  | s => exact .s
  | n => exact .n
  | b => exact .b
  | t a b c ih => exact .t a b ih
  | l a b c ih => exact .l a b ih
theorem DtAt.le {H : Hp} {k m : Nat} {v : V} {d : Dt} (h : DtAt H k v d) (hm : k ≤ m) : DtAt H m v d := by
  obtain ⟨j, rfl⟩ := Nat.exists_eq_add_of_le hm
  clear hm
  induction j with
  | zero => exact h
  | succ j ih => exact ih.up
section
variable {X : Cx} {pins : List (Addr × Obj)} {σ : St} {H : Hp} {s : Shared}
end
section
variable {X : Cx}
end
end L2
set_option Elab.async false
set_option linter.all false
set_option maxRecDepth 100000
set_option maxHeartbeats 4000000
namespace L2
open PySem PySem.Spec PyProof.Rows
def nI (l : List Nat) : List Int := l.map fun n : Nat => (n : Int)
structure RS where
  L : Nat
  made : Nat
  rows : List Dt
  ways : List (List (Int × Nat))
  gaps : List (List Int)
  elders : List Nat
  called : List (List Nat)
  went : List Nat
def wK (l : List (Int × Nat)) : List (Key × V) := l.map fun p => (Sum.inl p.1, V.int p.2)
def gK (l : List Int) : List (Key × V) := l.map fun s => (Sum.inl s, V.bl true)
def getW (l : List (Int × Nat)) (s : Int) : Option Nat := (l.find? fun p => decide (p.1 = s)).map (·.2)
def putW (l : List (Int × Nat)) (s : Int) (r : Nat) : List (Int × Nat) := if (l.any fun p => decide (p.1 = s)) = true then l.map fun p => if p.1 = s then (p.1, r) else p else l ++ [(s, r)]
theorem key_eq (a b : Int) : decide ((Sum.inl a : Key) = Sum.inl b) = decide (a = b) := by
  rw [Bool.eq_iff_iff, decide_eq_true_iff, decide_eq_true_iff]
  exact ⟨Sum.inl.inj, congrArg Sum.inl⟩
theorem wK_val (s : Int) : ∀ l : List (Int × Nat), valV (wK l) (Sum.inl s) = (getW l s).map fun r : Nat => V.int (r : Int)
  | [] => rfl
  | p :: l => by
    have ih := wK_val s l
    by_cases h : p.1 = s
    · have e : valV (wK (p :: l)) (Sum.inl s) = some (V.int p.2) := valV_pos (p := (Sum.inl p.1, V.int p.2)) (by rw [h])
      have e2 : getW (p :: l) s = some p.2 := by unfold getW; rw [List.find?_cons_of_pos (by exact decide_eq_true h)]; rfl
      rw [e, e2]; rfl
    · have e : valV (wK (p :: l)) (Sum.inl s) = valV (wK l) (Sum.inl s) := valV_neg (p := (Sum.inl p.1, V.int p.2)) (fun z => h (Sum.inl.inj z))
      have e2 : getW (p :: l) s = getW l s := by unfold getW; rw [List.find?_cons_of_neg (by simpa using h)]
      rw [e, e2, ih]
theorem wK_put (l : List (Int × Nat)) (s : Int) (r : Nat) : putK (wK l) (Sum.inl s) (.int r) = wK (putW l s r) := by
  unfold putK putW
  have ha : ((wK l).any fun kv => decide (kv.1 = Sum.inl s)) = l.any fun p => decide (p.1 = s) := by
    unfold wK
    rw [List.any_map]
    congr 1
    funext p
    exact key_eq _ _
  rw [ha]
  split
  · unfold wK
    rw [List.map_map, List.map_map]
    refine List.map_congr_left fun p _ => ?_
    show (if (Sum.inl p.1 : Key) = Sum.inl s then _ else _) = _
    by_cases h : p.1 = s
    · simp only [Function.comp, h, if_true]
    · have : ¬ (Sum.inl p.1 : Key) = Sum.inl s := fun z => h (Sum.inl.inj z)
      simp only [Function.comp, h, this, if_false]
  · unfold wK
    rw [List.map_append]
    rfl
theorem getW_put (l : List (Int × Nat)) (s t : Int) (r : Nat) : getW (putW l s r) t = if t = s then some r else getW l t := by
  have h1 := wK_val t (putW l s r)
  rw [← wK_put, valV_put, wK_val] at h1
  have inj : ∀ a b : Option Nat, (a.map fun r : Nat => V.int (r : Int)) = (b.map fun r : Nat => V.int (r : Int)) → a = b := fun a b h => by
    cases a <;> cases b <;> simp at h ⊢
    omega
  apply inj
  rw [← h1]
  by_cases e : t = s
  · rw [if_pos e, if_pos (by rw [e])]; rfl
  · rw [if_neg e, if_neg (fun z => e (Sum.inl.inj z))]
structure RA where
  dx : Addr
  aR : Addr
  aW : Addr
  aG : Addr
  aE : Addr
  aC : Addr
  aN : Addr
  rs : List Addr
  ws : List Addr
  gs : List Addr
  cs : List Addr
def flds (L made : Int) (a : RA) : List (Str × V) := [("letters", .int L), ("made", .int made), ("rows", .ref a.aR), ("ways", .ref a.aW), ("gaps", .ref a.aG), ("elders", .ref a.aE), ("called", .ref a.aC), ("went", .ref a.aN)]
inductive NoL : Dt → Prop where
  | i {n : Int} : NoL (.i n)
  | s {l : List Nat} : NoL (.s l)
  | t {ds : List Dt} : ds.length ≤ 100000 → (∀ d ∈ ds, NoL d) → NoL (.t ds)
theorem DtAt.keepT {H H' : Hp} (ht : ∀ a xs, H a = some (.tup xs) → H' a = some (.tup xs)) {k : Nat} {v : V} {d : Dt} (h : DtAt H k v d) (hn : NoL d) : DtAt H' k v d := by
  induction h with
  | i => exact .i
  | s => exact .s
  | n => exact .n
  | b => exact .b
  | t a b c ih =>
    cases hn with
    | t _ hh => exact .t (ht _ _ a) b fun j v d h1 h2 => ih j v d h1 h2 (hh d (List.mem_of_getElem? h2))
  | l a b c ih => cases hn
def Each {α : Type} (R : Addr → α → Prop) (ps : List Addr) (xs : List α) : Prop := ps.length = xs.length ∧ ∀ (i : Nat) (p : Addr) (x : α), ps[i]? = some p → xs[i]? = some x → R p x
theorem Each.imp {α : Type} {R R' : Addr → α → Prop} {ps : List Addr} {xs : List α} (h : Each R ps xs) (f : ∀ p x, p ∈ ps → x ∈ xs → R p x → R' p x) : Each R' ps xs :=
  ⟨h.1, fun i p x h1 h2 => f p x (List.mem_of_getElem? h1) (List.mem_of_getElem? h2) (h.2 i p x h1 h2)⟩
theorem Each.snoc {α : Type} {R : Addr → α → Prop} {ps : List Addr} {xs : List α} {p : Addr} {x : α} (h : Each R ps xs) (hp : R p x) : Each R (ps ++ [p]) (xs ++ [x]) := by
  refine ⟨by rw [List.length_append, List.length_append, h.1]; rfl, fun i q y h1 h2 => ?_⟩
  by_cases hi : i < ps.length
  · rw [List.getElem?_append_left hi] at h1
    rw [List.getElem?_append_left (by rw [← h.1]; exact hi)] at h2
    exact h.2 i q y h1 h2
  · rw [List.getElem?_append_right (by omega)] at h1
    rw [List.getElem?_append_right (by rw [← h.1]; omega)] at h2
    rw [List.mem_singleton.mp (List.mem_of_getElem? h1), List.mem_singleton.mp (List.mem_of_getElem? h2)]
    exact hp
theorem Each.at {α : Type} {R : Addr → α → Prop} {ps : List Addr} {xs : List α} (h : Each R ps xs) {i : Nat} {x : α} (hx : xs[i]? = some x) : ∃ p, ps[i]? = some p ∧ R p x := by
  have hi : i < ps.length := by rw [h.1]; exact (List.getElem?_eq_some_iff.mp hx).1
  exact ⟨_, List.getElem?_eq_getElem hi, h.2 i _ x (List.getElem?_eq_getElem hi) hx⟩
theorem Each.mem {α : Type} {R : Addr → α → Prop} {ps : List Addr} {xs : List α} (h : Each R ps xs) {p : Addr} (hp : p ∈ ps) : ∃ x, x ∈ xs ∧ R p x := by
  obtain ⟨i, hi⟩ := List.getElem?_of_mem hp
  have hl : i < xs.length := by rw [← h.1]; exact (List.getElem?_eq_some_iff.mp hi).1
  exact ⟨_, List.mem_of_getElem? (List.getElem?_eq_getElem hl), h.2 i p _ hi (List.getElem?_eq_getElem hl)⟩
theorem Each.set {α : Type} {R R' : Addr → α → Prop} {ps : List Addr} {xs : List α} {i : Nat} {p : Addr} {x : α} (h : Each R ps xs) (hp : ps[i]? = some p) (hx : R' p x) (hn : ps.Nodup) (f : ∀ q y, q ∈ ps → q ≠ p → R q y → R' q y) : Each R' ps (xs.set i x) := by
  refine ⟨by rw [List.length_set]; exact h.1, fun j q y h1 h2 => ?_⟩
  by_cases e : i = j
  · subst e
    rw [hp] at h1
    obtain rfl := Option.some.inj h1
    have hi : i < xs.length := by rw [← h.1]; exact (List.getElem?_eq_some_iff.mp hp).1
    rw [List.getElem?_set_self hi] at h2
    obtain rfl := Option.some.inj h2
    exact hx
  · rw [List.getElem?_set_ne e] at h2
    refine f q y (List.mem_of_getElem? h1) (fun z => ?_) (h.2 j q y h1 h2)
    subst z
    exact e ((List.getElem?_inj (List.getElem?_eq_some_iff.mp hp).1 hn).mp (hp.trans h1.symm))
def RA.lists (a : RA) : List Addr := a.aR :: a.aW :: a.aG :: a.aE :: a.aC :: a.aN :: a.cs
def RA.dicts (a : RA) : List Addr := a.ws ++ a.gs
def RA.own (a : RA) (r b : Addr) : Prop := b = r ∨ b ∈ a.lists ∨ b ∈ a.dicts
structure RoomsAt (C : Addr) (H : Hp) (r : Addr) (S : RS) (a : RA) : Prop where
  ins : H r = some (.ins C a.dx (flds S.L S.made a))
  hR : H a.aR = some (.lst (a.rs.map V.ref))
  hW : H a.aW = some (.lst (a.ws.map V.ref))
  hG : H a.aG = some (.lst (a.gs.map V.ref))
  hE : H a.aE = some (.lst (intV (nI S.elders)))
  hC : H a.aC = some (.lst (a.cs.map V.ref))
  hN : H a.aN = some (.lst (intV (nI S.went)))
  rR : Each (fun p d => DtAt H 4 (.ref p) d) a.rs S.rows
  rW : Each (fun p l => H p = some (.dK (wK l))) a.ws S.ways
  rG : Each (fun p l => H p = some (.dK (gK l))) a.gs S.gaps
  rC : Each (fun p l => H p = some (.lst (intV (nI l)))) a.cs S.called
  flat : ∀ d ∈ S.rows, NoL d
  ndL : a.lists.Nodup
  ndD : a.dicts.Nodup
section
variable {C : Addr} {H H' : Hp} {r : Addr} {S : RS} {a : RA}
theorem RoomsAt.keep (h : RoomsAt C H r S a) (k : ∀ b o, a.own r b → H b = some o → H' b = some o) (kt : ∀ b xs, H b = some (.tup xs) → H' b = some (.tup xs)) : RoomsAt C H' r S a := by
  have kl : ∀ b o, b ∈ a.lists → H b = some o → H' b = some o := fun b o hb => k b o (.inr (.inl hb))
  have kd : ∀ b o, b ∈ a.dicts → H b = some o → H' b = some o := fun b o hb => k b o (.inr (.inr hb))
  exact ⟨k _ _ (.inl rfl) h.ins, kl _ _ (by simp [RA.lists]) h.hR, kl _ _ (by simp [RA.lists]) h.hW, kl _ _ (by simp [RA.lists]) h.hG, kl _ _ (by simp [RA.lists]) h.hE, kl _ _ (by simp [RA.lists]) h.hC, kl _ _ (by simp [RA.lists]) h.hN,
    h.rR.imp fun p x _ hx e => e.keepT kt (h.flat x hx), h.rW.imp fun p x hp _ e => kd _ _ (List.mem_append_left _ hp) e, h.rG.imp fun p x hp _ e => kd _ _ (List.mem_append_right _ hp) e,
    h.rC.imp fun p x hp _ e => kl _ _ (by simp [RA.lists, hp]) e, h.flat, h.ndL, h.ndD⟩
theorem RoomsAt.same (h : RoomsAt C H r S a) (s : Same H H') : RoomsAt C H' r S a := h.keep (fun _ _ _ e => s _ _ e) (fun _ _ e => s _ _ e)
theorem RoomsAt.there (h : RoomsAt C H r S a) {b : Addr} (hb : a.own r b) : ∃ o, H b = some o := by
  rcases hb with rfl | hb | hb
  · exact ⟨_, h.ins⟩
  · unfold RA.lists at hb
    simp only [List.mem_cons] at hb
    rcases hb with rfl | rfl | rfl | rfl | rfl | rfl | hb
    · exact ⟨_, h.hR⟩
    · exact ⟨_, h.hW⟩
    · exact ⟨_, h.hG⟩
    · exact ⟨_, h.hE⟩
    · exact ⟨_, h.hC⟩
    · exact ⟨_, h.hN⟩
    · obtain ⟨x, _, e⟩ := h.rC.mem hb; exact ⟨_, e⟩
  · rcases List.mem_append.mp hb with hb | hb
    · obtain ⟨x, _, e⟩ := h.rW.mem hb; exact ⟨_, e⟩
    · obtain ⟨x, _, e⟩ := h.rG.mem hb; exact ⟨_, e⟩
theorem RoomsAt.notup (h : RoomsAt C H r S a) {b : Addr} {xs : List V} (e : H b = some (.tup xs)) : ¬ a.own r b := fun hb => by
  rcases hb with rfl | hb | hb
  · rw [h.ins] at e; cases e
  · unfold RA.lists at hb
    simp only [List.mem_cons] at hb
    rcases hb with rfl | rfl | rfl | rfl | rfl | rfl | hb
    · rw [h.hR] at e; cases e
    · rw [h.hW] at e; cases e
    · rw [h.hG] at e; cases e
    · rw [h.hE] at e; cases e
    · rw [h.hC] at e; cases e
    · rw [h.hN] at e; cases e
    · obtain ⟨x, _, e'⟩ := h.rC.mem hb; rw [e'] at e; cases e
  · rcases List.mem_append.mp hb with hb | hb
    · obtain ⟨x, _, e'⟩ := h.rW.mem hb; rw [e'] at e; cases e
    · obtain ⟨x, _, e'⟩ := h.rG.mem hb; rw [e'] at e; cases e
end
end L2
set_option Elab.async false
set_option linter.all false
set_option maxRecDepth 100000
set_option maxHeartbeats 4000000
namespace L2
open PySem PySem.Spec PyProof.Rows
section
variable {C : Addr} {H H' : Hp} {r : Addr} {S : RS} {a : RA}
theorem RoomsAt.isL (h : RoomsAt C H r S a) {b : Addr} (hb : b ∈ a.lists) : ∃ xs, H b = some (.lst xs) := by
  unfold RA.lists at hb
  simp only [List.mem_cons] at hb
  rcases hb with rfl | rfl | rfl | rfl | rfl | rfl | hb
  · exact ⟨_, h.hR⟩
  · exact ⟨_, h.hW⟩
  · exact ⟨_, h.hG⟩
  · exact ⟨_, h.hE⟩
  · exact ⟨_, h.hC⟩
  · exact ⟨_, h.hN⟩
  · obtain ⟨x, _, e⟩ := h.rC.mem hb; exact ⟨_, e⟩
theorem RoomsAt.isD (h : RoomsAt C H r S a) {b : Addr} (hb : b ∈ a.dicts) : ∃ kvs, H b = some (.dK kvs) := by
  rcases List.mem_append.mp hb with hb | hb
  · obtain ⟨x, _, e⟩ := h.rW.mem hb; exact ⟨_, e⟩
  · obtain ⟨x, _, e⟩ := h.rG.mem hb; exact ⟨_, e⟩
theorem RoomsAt.rl (h : RoomsAt C H r S a) {b : Addr} (hb : b ∈ a.lists) : r ≠ b := by obtain ⟨xs, e⟩ := h.isL hb; exact ne_of h.ins e (by intro z; cases z)
theorem RoomsAt.rd (h : RoomsAt C H r S a) {b : Addr} (hb : b ∈ a.dicts) : r ≠ b := by obtain ⟨xs, e⟩ := h.isD hb; exact ne_of h.ins e (by intro z; cases z)
theorem RoomsAt.ld (h : RoomsAt C H r S a) {b c : Addr} (hb : b ∈ a.lists) (hc : c ∈ a.dicts) : b ≠ c := by
  obtain ⟨xs, e⟩ := h.isL hb
  obtain ⟨ys, e'⟩ := h.isD hc
  exact ne_of e e' (by intro z; cases z)
theorem RoomsAt.tl (h : RoomsAt C H r S a) {b c : Addr} {xs : List V} (hb : H b = some (.tup xs)) (hc : c ∈ a.lists) : b ≠ c := fun z => h.notup hb (.inr (.inl (by rw [z]; exact hc)))
theorem RoomsAt.td (h : RoomsAt C H r S a) {b c : Addr} {xs : List V} (hb : H b = some (.tup xs)) (hc : c ∈ a.dicts) : b ≠ c := fun z => h.notup hb (.inr (.inr (by rw [z]; exact hc)))
theorem RoomsAt.tr (h : RoomsAt C H r S a) {b : Addr} {xs : List V} (hb : H b = some (.tup xs)) : b ≠ r := fun z => h.notup hb (.inl z)
end
def RS.setW (S : RS) (i : Nat) (l : List (Int × Nat)) : RS := { S with ways := S.ways.set i l }
def RS.setG (S : RS) (i : Nat) (l : List Int) : RS := { S with gaps := S.gaps.set i l }
def RS.way (S : RS) (c : Nat) : List (Int × Nat) := S.ways.getD c []
def RS.gap (S : RS) (c : Nat) : List Int := S.gaps.getD c []
def RS.by (S : RS) (c : Nat) (z : Int) : Option Nat := getW (S.way c) z
def RS.putWay (S : RS) (c : Nat) (z : Int) (d : Nat) : RS := S.setW c (putW (S.way c) z d)
def RS.noGap (S : RS) (c : Nat) (z : Int) : RS := S.setG c ((S.gap c).filter fun x => decide (x ≠ z))
def RS.keep (S : RS) (c : Nat) (z : Int) (d : Nat) : RS := (((S.putWay c z d).putWay d (-z) c).noGap c z).noGap d (-z)
def RS.new (L : Nat) (gaps : List Int) : RS := ⟨L, 1, [], [[]], [gaps], [0], [[0]], []⟩
structure RS.Wf (S : RS) : Prop where
  w : S.ways.length = S.made
  g : S.gaps.length = S.made
  e : S.elders.length = S.made
  c : S.called.length = S.made
end L2
set_option Elab.async false
set_option linter.all false
set_option maxRecDepth 100000
set_option maxHeartbeats 4000000
namespace L2
open PySem PySem.Spec PyProof.Rows
section
variable {X : Cx} {e : Expr} {f : Str} {ta : TE} {pos : Pos}
end
end L2
namespace L2
open PySem PySem.Spec PyProof.Rows
end L2
set_option Elab.async false
set_option linter.all false
set_option maxRecDepth 100000
set_option maxHeartbeats 4000000
namespace L2
open PySem PySem.Spec PyProof.Rows
section
variable {X : Cx}
end
end L2
set_option Elab.async false
set_option linter.all false
set_option maxRecDepth 100000
set_option maxHeartbeats 4000000
namespace L2
open PySem PySem.Spec PyProof.Rows
section
variable {C : Addr} {H H' : Hp} {r : Addr} {S : RS} {a : RA}
end
theorem getW_drop (l : List (Int × Nat)) (s t : Int) : getW (l.filter fun p => decide (p.1 ≠ s)) t = if t = s then none else getW l t := by
  induction l with
  | nil => unfold getW; split <;> rfl
  | cons p l ih =>
    have hc : ∀ (q : Int × Nat) (m : List (Int × Nat)), getW (q :: m) t = if q.1 = t then some q.2 else getW m t := fun q m => by
      unfold getW
      by_cases h : q.1 = t
      · rw [List.find?_cons_of_pos (by exact decide_eq_true h), if_pos h]; rfl
      · rw [List.find?_cons_of_neg (by simpa using h), if_neg h]
    by_cases h : p.1 = s
    · rw [List.filter_cons_of_neg (by simpa using h), ih, hc]
      by_cases e : t = s
      · rw [if_pos e, if_pos e]
      · rw [if_neg e, if_neg e, if_neg (fun z => e (z.symm.trans h))]
    · rw [List.filter_cons_of_pos (by simpa using h), hc, hc, ih]
      by_cases e : p.1 = t
      · rw [if_pos e, if_pos e, if_neg (fun z => h (e.trans z))]
      · rw [if_neg e, if_neg e]
abbrev Way := Nat × Int × Nat
def RS.eld (S : RS) (c : Nat) : Nat := S.elders.getD c 0
def RS.cal (S : RS) (c : Nat) : List Nat := S.called.getD c []
def rowMeet (c : Nat) (z : Int) (x y : Nat) : Dt := .t [.s [109, 101, 101, 116], .i c, .i z, .i x, .i y]
def RS.joined (S : RS) (c : Nat) (z : Int) (x y : Nat) : RS :=
  { S with rows := S.rows ++ [rowMeet c z x y], went := S.went ++ [y], elders := (S.cal y).foldl (fun es n => es.set n x) S.elders, called := S.called.set x (S.cal x ++ S.cal y) }
def RS.dropWay (S : RS) (c : Nat) (z : Int) : RS := S.setW c ((S.way c).filter fun p => decide (p.1 ≠ z))
def offStep (c : Nat) (st : RS × List Way) (p : Int × Nat) : RS × List Way := (if p.2 ≠ c then st.1.dropWay p.2 (-p.1) else st.1, st.2 ++ [(c, p.1, p.2)])
def RS.putOff (S : RS) (c : Nat) (pend : List Way) : RS × List Way := (S.way c).foldl (offStep c) (S.setW c [], pend)
def RS.meet (S : RS) (c : Nat) (z : Int) (x y : Nat) (pend : List Way) : RS × List Way := (S.joined c z (min x y) (max x y)).putOff (max x y) pend
def RS.takeIn (S : RS) (pend : List Way) (w : Way) : RS × List Way :=
  if (S.by (S.eld w.1) w.2.1).getD (S.eld w.2.2) ≠ S.eld w.2.2 then S.meet (S.eld w.1) w.2.1 ((S.by (S.eld w.1) w.2.1).getD (S.eld w.2.2)) (S.eld w.2.2) pend
  else if (S.by (S.eld w.2.2) (-w.2.1)).getD (S.eld w.1) ≠ S.eld w.1 then S.meet (S.eld w.2.2) (-w.2.1) ((S.by (S.eld w.2.2) (-w.2.1)).getD (S.eld w.1)) (S.eld w.1) pend
  else (S.keep (S.eld w.1) w.2.1 (S.eld w.2.2), pend)
structure OffOk (S : RS) (c : Nat) : Prop where
  nd : ((S.way c).map (·.1)).Nodup
  lt : ∀ q ∈ S.way c, q.2 < S.made
  bk : ∀ q ∈ S.way c, q.2 ≠ c → (S.by q.2 (-q.1)).isSome = true
theorem way_setW {S : RS} {c c' : Nat} {l : List (Int × Nat)} (hc : c < S.ways.length) : (S.setW c l).way c' = if c' = c then l else S.way c' := by
  unfold RS.setW RS.way
  show (S.ways.set c l).getD c' [] = _
  rw [List.getD_eq_getElem?_getD, List.getD_eq_getElem?_getD]
  by_cases h : c = c'
  · subst h; rw [List.getElem?_set_self hc, if_pos rfl]; rfl
  · rw [List.getElem?_set_ne h, if_neg (Ne.symm h)]
theorem by_putWay {S : RS} {c c' d : Nat} {z z' : Int} (hc : c < S.ways.length) : (S.putWay c z d).by c' z' = if c' = c ∧ z' = z then some d else S.by c' z' := by
  unfold RS.putWay RS.by
  rw [way_setW hc]
  by_cases h : c' = c
  · subst h
    rw [if_pos rfl, getW_put]
    by_cases hz : z' = z
    · rw [if_pos hz, if_pos ⟨rfl, hz⟩]
    · rw [if_neg hz, if_neg (fun q => hz q.2)]
  · rw [if_neg h, if_neg (fun q => h q.1)]
theorem by_dropWay {S : RS} {c c' : Nat} {z z' : Int} (hc : c < S.ways.length) : (S.dropWay c z).by c' z' = if c' = c ∧ z' = z then none else S.by c' z' := by
  unfold RS.dropWay RS.by
  rw [way_setW hc]
  by_cases h : c' = c
  · subst h
    rw [if_pos rfl, getW_drop]
    by_cases hz : z' = z
    · rw [if_pos hz, if_pos ⟨rfl, hz⟩]
    · rw [if_neg hz, if_neg (fun q => hz q.2)]
  · rw [if_neg h, if_neg (fun q => h q.1)]
theorem by_setW {S : RS} {c c' : Nat} {l : List (Int × Nat)} {z : Int} (hc : c < S.ways.length) : (S.setW c l).by c' z = if c' = c then getW l z else S.by c' z := by
  unfold RS.by
  rw [way_setW hc]
  split <;> rfl
def offs (c : Nat) (S : RS) (pend : List Way) (ps : List (Int × Nat)) : RS × List Way := ps.foldl (offStep c) (S.setW c [], pend)
theorem offs_snoc (c : Nat) (S : RS) (pend : List Way) (ps : List (Int × Nat)) (p : Int × Nat) : offs c S pend (ps ++ [p]) = offStep c (offs c S pend ps) p := by unfold offs; rw [List.foldl_append]; rfl
theorem snoc_ind {α : Type} {P : List α → Prop} (h0 : P []) (h1 : ∀ l x, P l → P (l ++ [x])) : ∀ l, P l := fun l => by
  have : ∀ n (l : List α), l.length = n → P l := by
    intro n
    induction n with
    | zero => intro l e; rw [List.eq_nil_of_length_eq_zero e]; exact h0
    | succ n ih =>
      intro l e
      have hne : l ≠ [] := fun z => by rw [z] at e; cases e
      rw [← List.dropLast_concat_getLast hne]
      exact h1 _ _ (ih _ (by rw [List.length_dropLast]; omega))
  exact this _ l rfl
theorem offs_pend (c : Nat) (S : RS) (pend : List Way) : ∀ ps : List (Int × Nat), (offs c S pend ps).2 = pend ++ ps.map fun p => (c, p.1, p.2) := by
  refine snoc_ind (by simp [offs]) fun ps p ih => ?_
  rw [offs_snoc]
  show (offs c S pend ps).2 ++ _ = _
  rw [ih, List.map_append, List.append_assoc]; rfl
theorem offs_rest (c : Nat) (S : RS) (pend : List Way) : ∀ ps : List (Int × Nat), (offs c S pend ps).1.ways.length = S.ways.length ∧ (offs c S pend ps).1 = { S with ways := (offs c S pend ps).1.ways } := by
  refine snoc_ind ⟨by simp [offs, RS.setW], rfl⟩ fun ps p ih => ?_
  rw [offs_snoc]
  unfold offStep
  by_cases h : p.2 ≠ c
  · simp only [h, if_true, not_false_eq_true, ne_eq]
    refine ⟨?_, ?_⟩
    · show (List.set _ _ _).length = _
      rw [List.length_set]; exact ih.1
    · unfold RS.dropWay RS.setW
      rw [ih.2]
  · simp only [h, if_false]
    exact ih
theorem offs_by {c : Nat} {S : RS} {pend : List Way} (hc : c < S.ways.length) : ∀ ps : List (Int × Nat), (∀ q ∈ ps, q.2 < S.ways.length) → ∀ d z, (offs c S pend ps).1.by d z = if d = c ∨ ∃ q ∈ ps, q.2 = d ∧ z = -q.1 then none else S.by d z := by
  refine snoc_ind (fun _ d z => ?_) fun ps p ih hl d z => ?_
  · show (S.setW c []).by d z = _
    rw [by_setW hc]
    by_cases h : d = c
    · rw [if_pos h, if_pos (.inl h)]; rfl
    · rw [if_neg h, if_neg (by rintro (q | ⟨q, hq, _⟩); exact h q; cases hq)]
  · have ih' := ih (fun q hq => hl q (List.mem_append_left _ hq)) d z
    have hp := hl p (List.mem_append_right _ List.mem_cons_self)
    rw [offs_snoc]
    unfold offStep
    by_cases h : p.2 ≠ c
    · simp only [h, if_true, not_false_eq_true, ne_eq]
      rw [by_dropWay (by rw [(offs_rest c S pend ps).1]; exact hp), ih']
      by_cases e : d = p.2 ∧ z = -p.1
      · rw [if_pos e, if_pos (.inr ⟨p, List.mem_append_right _ List.mem_cons_self, e.1.symm, e.2⟩)]
      · rw [if_neg e]
        by_cases e2 : d = c ∨ ∃ q ∈ ps, q.2 = d ∧ z = -q.1
        · rw [if_pos e2, if_pos (e2.imp id fun ⟨q, hq, r⟩ => ⟨q, List.mem_append_left _ hq, r⟩)]
        · rw [if_neg e2, if_neg]
          rintro (q | ⟨q, hq, r⟩)
          · exact e2 (.inl q)
          · rcases List.mem_append.mp hq with hq | hq
            · exact e2 (.inr ⟨q, hq, r⟩)
            · rw [List.mem_singleton.mp hq] at r
              exact e ⟨r.1.symm, r.2⟩
    · simp only [h, if_false]
      rw [ih']
      have h' : p.2 = c := Decidable.not_not.mp h
      by_cases e2 : d = c ∨ ∃ q ∈ ps, q.2 = d ∧ z = -q.1
      · rw [if_pos e2, if_pos (e2.imp id fun ⟨q, hq, r⟩ => ⟨q, List.mem_append_left _ hq, r⟩)]
      · rw [if_neg e2, if_neg]
        rintro (q | ⟨q, hq, r⟩)
        · exact e2 (.inl q)
        · rcases List.mem_append.mp hq with hq | hq
          · exact e2 (.inr ⟨q, hq, r⟩)
          · rw [List.mem_singleton.mp hq] at r
            exact e2 (.inl (r.1.symm.trans h'))
end L2
set_option Elab.async false
set_option linter.all false
set_option maxRecDepth 100000
set_option maxHeartbeats 4000000
namespace L2
open PySem PySem.Spec PyProof.Rows
inductive Cg (R : Nat → Int → Nat → Prop) : Nat → Nat → Prop where
  | refl (a : Nat) : Cg R a a
  | symm {a b : Nat} : Cg R a b → Cg R b a
  | trans {a b c : Nat} : Cg R a b → Cg R b c → Cg R a c
  | step {a a' b b' : Nat} {z : Int} : R a z b → R a' z b' → Cg R a a' → Cg R b b'
theorem Cg.mono {R R' : Nat → Int → Nat → Prop} (h : ∀ a z b, R a z b → R' a z b) {a b : Nat} (c : Cg R a b) : Cg R' a b := by
  induction c with
  | refl => exact .refl _
  | symm _ ih => exact .symm ih
  | trans _ _ i1 i2 => exact .trans i1 i2
  | step r1 r2 _ ih => exact .step (h _ _ _ r1) (h _ _ _ r2) ih
def Im (S : RS) (R : Nat → Int → Nat → Prop) (c : Nat) (z : Int) (d : Nat) : Prop := ∃ c' d', R c' z d' ∧ S.eld c' = c ∧ S.eld d' = d
def Cov (S : RS) (pend : List Way) (c : Nat) (z : Int) (d : Nat) : Prop := S.by c z = some d ∨ ∃ w ∈ pend, (S.eld w.1 = c ∧ w.2.1 = z ∧ S.eld w.2.2 = d) ∨ (S.eld w.1 = d ∧ w.2.1 = -z ∧ S.eld w.2.2 = c)
structure Good (S : RS) (pend : List Way) (R : Nat → Int → Nat → Prop) : Prop where
  wf : S.Wf
  el : ∀ c, c < S.made → S.eld c ≤ c ∧ S.eld (S.eld c) = S.eld c
  ca : ∀ e, e < S.made → S.eld e = e → ∀ c, c ∈ S.cal e ↔ c < S.made ∧ S.eld c = e
  cb : ∀ e c, c ∈ S.cal e → c < S.made
  cn : ∀ e, (S.cal e).Nodup
  kn : ∀ c, ((S.way c).map (·.1)).Nodup
  st : ∀ c z d, S.by c z = some d → c < S.made ∧ d < S.made ∧ S.eld c = c ∧ S.eld d = d
  sy : ∀ c z d, S.by c z = some d → S.by d (-z) = some c
  pl : ∀ w ∈ pend, w.1 < S.made ∧ w.2.2 < S.made
  rl : ∀ c z d, R c z d → c < S.made ∧ d < S.made ∧ R d (-z) c
  cv : ∀ c z d, R c z d → Cov S pend (S.eld c) z (S.eld d)
  so : ∀ c z d, S.by c z = some d → Im S R c z d
  sp : ∀ w ∈ pend, Im S R (S.eld w.1) w.2.1 (S.eld w.2.2)
  cg : ∀ c, c < S.made → Cg R c (S.eld c)
section
variable {S : RS} {pend : List Way} {R : Nat → Int → Nat → Prop}
theorem Good.lt (h : Good S pend R) {c : Nat} (hc : c < S.made) : S.eld c < S.made := Nat.lt_of_le_of_lt (h.el c hc).1 hc
theorem Im.back (h : Good S pend R) {c d : Nat} {z : Int} (i : Im S R c z d) : Im S R d (-z) c := by
  obtain ⟨c', d', r, e1, e2⟩ := i
  exact ⟨d', c', (h.rl _ _ _ r).2.2, e2, e1⟩
theorem Good.must (h : Good S pend R) {c x y : Nat} {z : Int} (i : Im S R c z x) (j : Im S R c z y) : Cg R x y := by
  obtain ⟨c1, x1, r1, e1, e2⟩ := i
  obtain ⟨c2, y2, r2, f1, f2⟩ := j
  obtain ⟨l1, l2, _⟩ := h.rl _ _ _ r1
  obtain ⟨m1, m2, _⟩ := h.rl _ _ _ r2
  have a1 := h.cg _ l1
  have a2 := h.cg _ l2
  have b1 := h.cg _ m1
  have b2 := h.cg _ m2
  rw [e1] at a1
  rw [e2] at a2
  rw [f1] at b1
  rw [f2] at b2
  exact a2.symm.trans ((Cg.step r1 r2 (a1.trans b1.symm)).trans b2)
theorem Good.keep (h : Good S pend R) {c d : Nat} {z : Int} (hc : c < S.made) (hd : d < S.made) (ec : S.eld c = c) (ed : S.eld d = d) (i : Im S R c z d) (h1 : S.by c z = none ∨ S.by c z = some d) (h2 : S.by d (-z) = none ∨ S.by d (-z) = some c) {pend' : List Way} (hp : ∀ w ∈ pend', w ∈ pend)
    (hcv : ∀ w ∈ pend, w ∉ pend' → S.eld w.1 = c ∧ w.2.1 = z ∧ S.eld w.2.2 = d) : Good (S.keep c z d) pend' R := by
  have hcw : c < S.ways.length := by rw [h.wf.w]; exact hc
  have hdw : d < S.ways.length := by rw [h.wf.w]; exact hd
  have hby : ∀ a s, (S.keep c z d).by a s = if a = d ∧ s = -z then some c else if a = c ∧ s = z then some d else S.by a s := fun a s => by
    show ((S.putWay c z d).putWay d (-z) c).by a s = _
    rw [by_putWay (by show d < (S.ways.set c _).length; rw [List.length_set]; exact hdw), by_putWay hcw]
  have old : ∀ a s b, S.by a s = some b → (S.keep c z d).by a s = some b := fun a s b e => by
    rw [hby]
    by_cases q1 : a = d ∧ s = -z
    · rw [if_pos q1]
      obtain ⟨rfl, rfl⟩ := q1
      rcases h2 with q | q <;> rw [q] at e <;> cases e
      rfl
    · rw [if_neg q1]
      by_cases q2 : a = c ∧ s = z
      · rw [if_pos q2]
        obtain ⟨rfl, rfl⟩ := q2
        rcases h1 with q | q <;> rw [q] at e <;> cases e
        rfl
      · rw [if_neg q2]; exact e
  have el : ∀ a, (S.keep c z d).eld a = S.eld a := fun a => rfl
  have new : ∀ a s b, (S.keep c z d).by a s = some b → (a = d ∧ s = -z ∧ b = c) ∨ (a = c ∧ s = z ∧ b = d) ∨ S.by a s = some b := fun a s b e => by
    rw [hby] at e
    by_cases q1 : a = d ∧ s = -z
    · rw [if_pos q1] at e; exact .inl ⟨q1.1, q1.2, (Option.some.inj e).symm⟩
    · rw [if_neg q1] at e
      by_cases q2 : a = c ∧ s = z
      · rw [if_pos q2] at e; exact .inr (.inl ⟨q2.1, q2.2, (Option.some.inj e).symm⟩)
      · rw [if_neg q2] at e; exact .inr (.inr e)
  have put1 : (S.keep c z d).by d (-z) = some c := by rw [hby, if_pos ⟨rfl, rfl⟩]
  have put2 : (S.keep c z d).by c z = some d := by
    rw [hby]
    by_cases q1 : c = d ∧ z = -z
    · rw [if_pos q1, q1.1]
    · rw [if_neg q1, if_pos ⟨rfl, rfl⟩]
  have knp : ∀ (l : List (Int × Nat)) (s : Int) (r : Nat), (l.map (·.1)).Nodup → ((putW l s r).map (·.1)).Nodup := fun l s r hl => by
    unfold putW
    split
    · rw [List.map_map]
      have : ((fun x : Int × Nat => x.1) ∘ fun p : Int × Nat => if p.1 = s then (p.1, r) else p) = fun x => x.1 := by
        funext p
        show (if p.1 = s then (p.1, r) else p).1 = p.1
        split <;> rfl
      rw [this]; exact hl
    · rename_i q
      rw [List.map_append]
      refine List.nodup_append.mpr ⟨hl, by simp, fun a ha b hb e => q ?_⟩
      obtain ⟨p, hp, rfl⟩ := List.mem_map.mp ha
      have : b = s := by simpa using hb
      exact List.any_eq_true.mpr ⟨p, hp, decide_eq_true (e.trans this)⟩
  refine ⟨⟨?_, ?_, h.wf.e, h.wf.c⟩, h.el, h.ca, h.cb, h.cn, fun a => ?_, fun a s b e => ?_, fun a s b e => ?_, fun w hw => h.pl w (hp w hw), h.rl, fun a s b r => ?_, fun a s b e => ?_, fun w hw => h.sp w (hp w hw), h.cg⟩
  · show ((List.set _ _ _).set _ _).length = S.made
    rw [List.length_set, List.length_set]; exact h.wf.w
  · show ((List.set _ _ _).set _ _).length = S.made
    rw [List.length_set, List.length_set]; exact h.wf.g
  · show ((((S.putWay c z d).putWay d (-z) c).way a).map (·.1)).Nodup
    unfold RS.putWay
    rw [way_setW (by show d < (S.ways.set c _).length; rw [List.length_set]; exact hdw)]
    have k1 : ∀ a, (((S.setW c (putW (S.way c) z d)).way a).map (·.1)).Nodup := fun a => by
      rw [way_setW hcw]
      split
      · exact knp _ _ _ (h.kn c)
      · exact h.kn a
    split
    · exact knp _ _ _ (k1 d)
    · exact k1 a
  · rcases new a s b e with ⟨rfl, rfl, rfl⟩ | ⟨rfl, rfl, rfl⟩ | e
    · exact ⟨hd, hc, ed, ec⟩
    · exact ⟨hc, hd, ec, ed⟩
    · exact h.st a s b e
  · rcases new a s b e with ⟨rfl, rfl, rfl⟩ | ⟨rfl, rfl, rfl⟩ | e
    · rw [Int.neg_neg]; exact put2
    · exact put1
    · exact old _ _ _ (h.sy _ _ _ e)
  · rcases h.cv a s b r with q | ⟨w, hw, q⟩
    · exact .inl (old _ _ _ q)
    · by_cases hm : w ∈ pend'
      · exact .inr ⟨w, hm, q⟩
      · obtain ⟨f1, f2, f3⟩ := hcv w hw hm
        refine .inl ?_
        show (S.keep c z d).by (S.eld a) s = some (S.eld b)
        rcases q with ⟨q1, q2, q3⟩ | ⟨q1, q2, q3⟩
        · rw [← q1, ← q2, ← q3, f1, f2, f3]; exact put2
        · have es : s = -z := by rw [← f2, q2, Int.neg_neg]
          rw [← q1, ← q3, f1, f3, es]; exact put1
  · rcases new a s b e with ⟨rfl, rfl, rfl⟩ | ⟨rfl, rfl, rfl⟩ | e
    · exact Im.back h i
    · exact i
    · exact h.so a s b e
end
theorem fold_set (x : Nat) : ∀ (l es : List Nat) (a : Nat), (∀ n ∈ l, n < es.length) → (l.foldl (fun es n => es.set n x) es).getD a 0 = if a ∈ l then x else es.getD a 0
  | [], es, a, _ => by simp
  | n :: l, es, a, h => by
    rw [List.foldl_cons, fold_set x l (es.set n x) a (fun m hm => by rw [List.length_set]; exact h m (List.mem_cons_of_mem _ hm))]
    by_cases h1 : a ∈ l
    · rw [if_pos h1, if_pos (List.mem_cons_of_mem _ h1)]
    · rw [if_neg h1]
      by_cases h2 : a = n
      · subst h2
        rw [if_pos List.mem_cons_self, List.getD_eq_getElem?_getD, List.getElem?_set_self (h a List.mem_cons_self)]; rfl
      · rw [if_neg (fun z => (List.mem_cons.mp z).elim h2 h1), List.getD_eq_getElem?_getD, List.getElem?_set_ne (Ne.symm h2), ← List.getD_eq_getElem?_getD]
theorem fold_setL (x : Nat) : ∀ (l es : List Nat), (l.foldl (fun es n => es.set n x) es).length = es.length
  | [], _ => rfl
  | n :: l, es => by rw [List.foldl_cons, fold_setL x l, List.length_set]
theorem getW_some {l : List (Int × Nat)} {s : Int} {r : Nat} (h : getW l s = some r) : (s, r) ∈ l := by
  unfold getW at h
  obtain ⟨q, hq, rfl⟩ := Option.map_eq_some_iff.mp h
  have h1 := List.find?_some hq
  have h2 := List.mem_of_find?_eq_some hq
  have : q.1 = s := of_decide_eq_true h1
  rw [← this]; exact h2
theorem getW_of {l : List (Int × Nat)} (nd : (l.map (·.1)).Nodup) {q : Int × Nat} (h : q ∈ l) : getW l q.1 = some q.2 := by
  induction l with
  | nil => cases h
  | cons p l ih =>
    unfold getW
    rw [List.map_cons, List.nodup_cons] at nd
    by_cases e : p.1 = q.1
    · rw [List.find?_cons_of_pos (by exact decide_eq_true e)]
      rcases List.mem_cons.mp h with rfl | h
      · rfl
      · exact absurd (by rw [e]; exact List.mem_map_of_mem h) nd.1
    · rw [List.find?_cons_of_neg (by simpa using e)]
      rcases List.mem_cons.mp h with rfl | h
      · exact absurd rfl e
      · exact ih nd.2 h
theorem nodup_sub : ∀ (k l : List Int), l.Nodup → (∀ x ∈ l, x ∈ k) → l.length ≤ k.length
  | [], [], _, _ => Nat.le_refl _
  | [], a :: l, _, h => by have := h a List.mem_cons_self; cases this
  | y :: k, l, hn, h => by
    by_cases hm : y ∈ l
    · have := nodup_sub k (l.erase y) (hn.erase y) (fun x hx => by
        have h1 := (hn.mem_erase_iff).mp hx
        rcases List.mem_cons.mp (h x h1.2) with e | e
        · exact absurd e h1.1
        · exact e)
      rw [List.length_erase_of_mem hm] at this
      have : 1 ≤ l.length := List.length_pos_of_mem hm
      rw [List.length_cons]; omega
    · have := nodup_sub k l hn (fun x hx => by
        rcases List.mem_cons.mp (h x hx) with e | e
        · exact absurd (e ▸ hx) hm
        · exact e)
      rw [List.length_cons]; omega
theorem offs_kn {c : Nat} {S : RS} {pend : List Way} (hc : c < S.ways.length) (kn : ∀ a, ((S.way a).map (·.1)).Nodup) : ∀ ps : List (Int × Nat), (∀ q ∈ ps, q.2 < S.ways.length) → ∀ a, (((offs c S pend ps).1.way a).map (·.1)).Nodup := by
  refine snoc_ind (fun _ a => ?_) fun ps p ih hl a => ?_
  · show (((S.setW c []).way a).map (·.1)).Nodup
    rw [way_setW hc]
    split
    · exact List.nodup_nil
    · exact kn a
  · have ih' := ih (fun q hq => hl q (List.mem_append_left _ hq))
    rw [offs_snoc]
    unfold offStep
    by_cases h : p.2 ≠ c
    · simp only [h, if_true, not_false_eq_true, ne_eq]
      unfold RS.dropWay
      rw [way_setW (by rw [(offs_rest c S pend ps).1]; exact hl p (List.mem_append_right _ List.mem_cons_self))]
      split
      · exact List.Nodup.sublist (List.Sublist.map _ List.filter_sublist) (ih' p.2)
      · exact ih' a
    · simp only [h, if_false]
      exact ih' a
section
variable {S : RS} {pend : List Way} {R : Nat → Int → Nat → Prop}
theorem Cov.back (h : Good S pend R) {S' : RS} {pend' : List Way} (sy : ∀ c z d, S'.by c z = some d → S'.by d (-z) = some c) {c d : Nat} {z : Int} (i : Cov S' pend' c z d) : Cov S' pend' d (-z) c := by
  rcases i with q | ⟨w, hw, q⟩
  · exact .inl (sy _ _ _ q)
  · refine .inr ⟨w, hw, ?_⟩
    rcases q with ⟨q1, q2, q3⟩ | ⟨q1, q2, q3⟩
    · exact .inr ⟨q1, by rw [q2, Int.neg_neg], q3⟩
    · exact .inl ⟨q1, q2, q3⟩
theorem Good.meet (h : Good S pend R) {c x y : Nat} {z : Int} (hx : S.by c z = some x) (hy : y < S.made) (ey : S.eld y = y) (hxy : x ≠ y) (iy : Im S R c z y) {pend' : List Way} (hp : ∀ w ∈ pend', w ∈ pend)
    (hcv : ∀ w ∈ pend, w ∉ pend' → (S.eld w.1 = c ∧ w.2.1 = z ∧ S.eld w.2.2 = y) ∨ (S.eld w.1 = y ∧ w.2.1 = -z ∧ S.eld w.2.2 = c)) :
    Good (S.meet c z x y pend').1 (S.meet c z x y pend').2 R ∧ (∀ a, (S.meet c z x y pend').1.eld a = if S.eld a = max x y then min x y else S.eld a) ∧ (S.meet c z x y pend').2 = pend' ++ (S.way (max x y)).map (fun p => (max x y, p.1, p.2)) := by
  obtain ⟨hc, hxm, ec, ex⟩ := h.st _ _ _ hx
  have hcgxy : Cg R x y := h.must (h.so _ _ _ hx) iy
  have hu : min x y < S.made := by omega
  have hv : max x y < S.made := by omega
  have huv : min x y < max x y := by omega
  have eu : S.eld (min x y) = min x y := by rcases Nat.lt_or_ge x y with q | q; rw [Nat.min_eq_left (by omega)]; exact ex; rw [Nat.min_eq_right (by omega)]; exact ey
  have ev : S.eld (max x y) = max x y := by rcases Nat.lt_or_ge x y with q | q; rw [Nat.max_eq_right (by omega)]; exact ey; rw [Nat.max_eq_left (by omega)]; exact ex
  have xuv : x = min x y ∨ x = max x y := by omega
  have yuv : y = min x y ∨ y = max x y := by omega
  have hcguv : Cg R (max x y) (min x y) := by
    rcases Nat.lt_or_ge x y with q | q
    · rw [Nat.max_eq_right (by omega), Nat.min_eq_left (by omega)]; exact hcgxy.symm
    · rw [Nat.max_eq_left (by omega), Nat.min_eq_right (by omega)]; exact hcgxy
  unfold RS.meet
  generalize max x y = v at hv huv ev xuv yuv hcguv ⊢
  generalize min x y = u at hu huv eu xuv yuv hcguv ⊢
  have hvw : v < S.ways.length := by rw [h.wf.w]; exact hv
  have hqs : ∀ q ∈ S.way v, q.2 < S.ways.length := fun q hq => by
    rw [h.wf.w]; exact (h.st v q.1 q.2 (getW_of (h.kn v) hq)).2.1
  have hP : ((S.joined c z u v).putOff v pend') = offs v (S.joined c z u v) pend' (S.way v) := rfl
  rw [hP]
  have rest := offs_rest v (S.joined c z u v) pend' (S.way v)
  have byJ : ∀ a s, (S.joined c z u v).by a s = S.by a s := fun a s => rfl
  have hby : ∀ a s, (offs v (S.joined c z u v) pend' (S.way v)).1.by a s = if a = v ∨ S.by a s = some v then none else S.by a s := fun a s => by
    rw [offs_by (S := S.joined c z u v) hvw _ hqs, byJ]
    have : (a = v ∨ ∃ q ∈ S.way v, q.2 = a ∧ s = -q.1) ↔ (a = v ∨ S.by a s = some v) := by
      refine or_congr Iff.rfl ⟨?_, fun e => ?_⟩
      · rintro ⟨q, hq, rfl, rfl⟩
        exact h.sy _ _ _ (getW_of (h.kn v) hq)
      · have := getW_some (h.sy _ _ _ e)
        exact ⟨_, this, rfl, (Int.neg_neg s).symm⟩
    simp only [this]
  have hpe : (offs v (S.joined c z u v) pend' (S.way v)).2 = pend' ++ (S.way v).map fun p => (v, p.1, p.2) := offs_pend _ _ _ _
  have hkn := offs_kn (S := S.joined c z u v) (pend := pend') hvw h.kn (S.way v) hqs
  have heq : ∀ a, (offs v (S.joined c z u v) pend' (S.way v)).1.eld a = if S.eld a = v then u else S.eld a := fun a => by
    rw [rest.2]
    show ((S.cal v).foldl (fun es n => es.set n u) S.elders).getD a 0 = _
    rw [fold_set u _ _ _ (fun n hn => by rw [h.wf.e]; exact h.cb v n hn)]
    by_cases ha : a < S.made
    · have := h.ca v hv ev a
      by_cases e : S.eld a = v
      · rw [if_pos (this.mpr ⟨ha, e⟩), if_pos e]
      · rw [if_neg (fun q => e (this.mp q).2), if_neg e]; rfl
    · have e0 : S.eld a = 0 := by unfold RS.eld; rw [List.getD_eq_getElem?_getD, List.getElem?_eq_none (by rw [h.wf.e]; omega)]; rfl
      rw [if_neg (fun q => ha (h.cb v a q)), if_neg (by rw [e0]; omega)]; rfl
  have hcal : ∀ e, (offs v (S.joined c z u v) pend' (S.way v)).1.cal e = if e = u then S.cal u ++ S.cal v else S.cal e := fun e => by
    rw [rest.2]
    show (S.called.set u (S.cal u ++ S.cal v)).getD e [] = _
    rw [List.getD_eq_getElem?_getD]
    by_cases q : e = u
    · subst q; rw [List.getElem?_set_self (by rw [h.wf.c]; exact hu), if_pos rfl]; rfl
    · rw [List.getElem?_set_ne (Ne.symm q), if_neg q]; unfold RS.cal; rw [List.getD_eq_getElem?_getD]
  have hmade : (offs v (S.joined c z u v) pend' (S.way v)).1.made = S.made := by rw [rest.2]; rfl
  have hwf : (offs v (S.joined c z u v) pend' (S.way v)).1.Wf := by
    refine ⟨by rw [rest.1, hmade]; exact h.wf.w, ?_, ?_, ?_⟩
    · rw [rest.2]; exact h.wf.g
    · rw [rest.2]; show ((S.cal v).foldl (fun es n => es.set n u) S.elders).length = S.made; rw [fold_setL]; exact h.wf.e
    · rw [rest.2]; show (S.called.set u (S.cal u ++ S.cal v)).length = S.made; rw [List.length_set]; exact h.wf.c
  generalize (offs v (S.joined c z u v) pend' (S.way v)).2 = P2 at hpe ⊢
  generalize (offs v (S.joined c z u v) pend' (S.way v)).1 = S2 at rest hby hkn heq hcal hmade hwf ⊢
  clear rest
  refine ⟨?_, heq, hpe⟩
  have bo : ∀ a s b, S2.by a s = some b ↔ S.by a s = some b ∧ a ≠ v ∧ b ≠ v := fun a s b => by
    rw [hby]
    by_cases q : a = v ∨ S.by a s = some v
    · rw [if_pos q]
      refine ⟨(fun z => by cases z), fun ⟨e, n1, n2⟩ => ?_⟩
      rcases q with q | q
      · exact absurd q n1
      · rw [q] at e; exact absurd (Option.some.inj e).symm n2
    · rw [if_neg q]
      refine ⟨fun e => ⟨e, fun z => q (.inl z), fun z => q (.inr (by rw [e, z]))⟩, fun e => e.1⟩
  have nv2 : ∀ a, S2.eld (S.eld a) = S2.eld a := fun a => by
    rw [heq, heq]
    by_cases ha : a < S.made
    · rw [(h.el a ha).2]
    · have e0 : ∀ a, ¬ a < S.made → S.eld a = 0 := fun a ha => by unfold RS.eld; rw [List.getD_eq_getElem?_getD, List.getElem?_eq_none (by rw [h.wf.e]; omega)]; rfl
      rw [e0 a ha]
      have : S.eld 0 = 0 := by have := (h.el 0 (by omega)).1; omega
      rw [this]
  have eqv : ∀ {a b}, S.eld a = S.eld b → S2.eld a = S2.eld b := fun {a b} e => by rw [heq, heq, e]
  have sy2 : ∀ a s b, S2.by a s = some b → S2.by b (-s) = some a := fun a s b e => by
    rw [bo] at e ⊢
    exact ⟨h.sy _ _ _ e.1, e.2.2, e.2.1⟩
  have std : ∀ {a}, S.eld a = a → S2.eld a = if a = v then u else a := fun {a} e => by rw [heq, e]
  have kept : ∀ p s q, S.by p s = some q → Cov S2 P2 (S2.eld p) s (S2.eld q) := fun p s q e => by
    obtain ⟨lp, lq, ep, eq⟩ := h.st _ _ _ e
    by_cases h1 : p = v
    · refine .inr ⟨(v, s, q), ?_, .inl ⟨by rw [h1], rfl, rfl⟩⟩
      rw [hpe]
      rw [h1] at e
      exact List.mem_append_right _ (List.mem_map.mpr ⟨(s, q), getW_some e, rfl⟩)
    · by_cases h2 : q = v
      · refine .inr ⟨(v, -s, p), ?_, .inr ⟨by rw [h2], rfl, rfl⟩⟩
        rw [hpe]
        have e' := h.sy _ _ _ e
        rw [h2] at e'
        exact List.mem_append_right _ (List.mem_map.mpr ⟨(-s, p), getW_some e', rfl⟩)
      · refine .inl ?_
        rw [std ep, std eq, if_neg h1, if_neg h2]
        exact (bo _ _ _).mpr ⟨e, h1, h2⟩
  have eu2 : S2.eld u = u := by rw [std eu, if_neg (by omega)]
  have ev2 : S2.eld v = u := by rw [std ev, if_pos rfl]
  have exy : S2.eld x = S2.eld y := by
    have q1 : S2.eld x = u := by rcases xuv with q | q <;> rw [q] <;> assumption
    have q2 : S2.eld y = u := by rcases yuv with q | q <;> rw [q] <;> assumption
    rw [q1, q2]
  have imq : ∀ {a b s}, Im S R (S.eld a) s (S.eld b) → Im S2 R (S2.eld a) s (S2.eld b) := fun {a b s} ⟨a', b', r, e1, e2⟩ => ⟨a', b', r, eqv e1, eqv e2⟩
  refine ⟨hwf, fun a ha => ?_, fun e he ee a => ?_, fun e a ha => ?_, fun e => ?_, hkn, fun a s b e => ?_, sy2, fun w hw => ?_, fun a s b r => ?_, fun a s b r => ?_, fun a s b e => ?_, fun w hw => ?_, fun a ha => ?_⟩
  · rw [hmade] at ha
    obtain ⟨l1, l2⟩ := h.el a ha
    rw [heq]
    by_cases q : S.eld a = v
    · rw [if_pos q]
      exact ⟨by omega, eu2⟩
    · rw [if_neg q]
      exact ⟨l1, by rw [heq, l2, if_neg q]⟩
  · rw [hmade] at he ⊢
    rw [hcal]
    have nev : e ≠ v := fun z => by rw [z, ev2] at ee; omega
    by_cases q : e = u
    · subst q
      rw [if_pos rfl, List.mem_append, h.ca _ hu eu, h.ca v hv ev, heq]
      constructor
      · rintro (⟨q1, q2⟩ | ⟨q1, q2⟩)
        · exact ⟨q1, by rw [if_neg (by omega)]; exact q2⟩
        · exact ⟨q1, by rw [if_pos q2]⟩
      · rintro ⟨q1, q2⟩
        by_cases q3 : S.eld a = v
        · exact .inr ⟨q1, q3⟩
        · rw [if_neg q3] at q2; exact .inl ⟨q1, q2⟩
    · rw [if_neg q]
      have e0 : S.eld e = e := by
        rw [heq] at ee
        by_cases q3 : S.eld e = v
        · rw [if_pos q3] at ee; exact absurd ee.symm q
        · rw [if_neg q3] at ee; exact ee
      rw [h.ca e he e0, heq]
      constructor
      · rintro ⟨q1, q2⟩
        exact ⟨q1, by rw [if_neg (by rw [q2]; exact nev)]; exact q2⟩
      · rintro ⟨q1, q2⟩
        by_cases q3 : S.eld a = v
        · rw [if_pos q3] at q2; exact absurd q2.symm q
        · rw [if_neg q3] at q2; exact ⟨q1, q2⟩
  · rw [hmade]
    rw [hcal] at ha
    split at ha
    · rcases List.mem_append.mp ha with ha | ha
      · exact h.cb _ _ ha
      · exact h.cb _ _ ha
    · exact h.cb _ _ ha
  · rw [hcal]
    split
    · refine List.nodup_append.mpr ⟨h.cn _, h.cn _, fun a ha b hb e => ?_⟩
      have q1 := ((h.ca _ hu eu a).mp ha).2
      have q2 := ((h.ca v hv ev b).mp hb).2
      rw [e, q2] at q1
      omega
    · exact h.cn _
  · rw [bo] at e
    obtain ⟨l1, l2, l3, l4⟩ := h.st _ _ _ e.1
    exact ⟨by rw [hmade]; exact l1, by rw [hmade]; exact l2, by rw [std l3, if_neg e.2.1], by rw [std l4, if_neg e.2.2]⟩
  · rw [hmade]
    rw [hpe] at hw
    rcases List.mem_append.mp hw with hw | hw
    · exact h.pl w (hp w hw)
    · obtain ⟨q, hq, rfl⟩ := List.mem_map.mp hw
      exact ⟨hv, (h.st v q.1 q.2 (getW_of (h.kn v) hq)).2.1⟩
  · rw [hmade]; exact h.rl a s b r
  · rcases h.cv a s b r with q | ⟨w, hw, q⟩
    · have := kept _ _ _ q
      rw [nv2, nv2] at this
      exact this
    · by_cases hm : w ∈ pend'
      · refine .inr ⟨w, by rw [hpe]; exact List.mem_append_left _ hm, ?_⟩
        rcases q with ⟨q1, q2, q3⟩ | ⟨q1, q2, q3⟩
        · exact .inl ⟨eqv q1, q2, eqv q3⟩
        · exact .inr ⟨eqv q1, q2, eqv q3⟩
      · have base : Cov S2 P2 (S2.eld c) z (S2.eld y) := by rw [← exy]; exact kept _ _ _ hx
        have one : ∀ {p q : Nat}, S.eld p = c → S.eld q = y → S2.eld p = S2.eld c ∧ S2.eld q = S2.eld y := fun {p q} e1 e2 => ⟨by rw [← nv2 p, e1], by rw [← nv2 q, e2]⟩
        rcases hcv w hw hm with ⟨f1, f2, f3⟩ | ⟨f1, f2, f3⟩
        · rcases q with ⟨q1, q2, q3⟩ | ⟨q1, q2, q3⟩
          · obtain ⟨g1, g2⟩ := one (q1.symm.trans f1) (q3.symm.trans f3)
            rw [g1, g2, ← q2, f2]; exact base
          · obtain ⟨g1, g2⟩ := one (q1.symm.trans f1) (q3.symm.trans f3)
            have es : s = -z := by rw [← f2, q2, Int.neg_neg]
            rw [g1, g2, es]; exact Cov.back h sy2 base
        · rcases q with ⟨q1, q2, q3⟩ | ⟨q1, q2, q3⟩
          · obtain ⟨g1, g2⟩ := one (q3.symm.trans f3) (q1.symm.trans f1)
            have es : s = -z := by rw [← q2, f2]
            rw [g1, g2, es]; exact Cov.back h sy2 base
          · obtain ⟨g1, g2⟩ := one (q3.symm.trans f3) (q1.symm.trans f1)
            have es : s = z := by have := q2.symm.trans f2; omega
            rw [g1, g2, es]; exact base
  · rw [bo] at e
    obtain ⟨l1, l2, l3, l4⟩ := h.st _ _ _ e.1
    have := h.so _ _ _ e.1
    rw [← l3, ← l4] at this
    have q := imq this
    rw [std l3, std l4, if_neg e.2.1, if_neg e.2.2] at q
    exact q
  · rw [hpe] at hw
    rcases List.mem_append.mp hw with hw | hw
    · exact imq (h.sp w (hp w hw))
    · obtain ⟨q, hq, rfl⟩ := List.mem_map.mp hw
      have e := getW_of (h.kn v) hq
      obtain ⟨l1, l2, l3, l4⟩ := h.st v q.1 q.2 e
      have := h.so _ _ _ e
      rw [← l3, ← l4] at this
      exact imq this
  · rw [hmade] at ha
    rw [heq]
    split
    · rename_i q
      have := h.cg a ha
      rw [q] at this
      exact this.trans hcguv
    · exact h.cg a ha
end
def RS.stand (S : RS) : Nat := (List.range S.made).countP fun c => decide (S.eld c = c)
theorem count_less {p p' : Nat → Bool} {v : Nat} (h : ∀ a, p' a = (p a && decide (a ≠ v))) (hv : p v = true) : ∀ n, (List.range n).countP p' + (if v < n then 1 else 0) = (List.range n).countP p
  | 0 => rfl
  | n + 1 => by
    have ih := count_less h hv n
    rw [List.range_succ, List.countP_append, List.countP_append, ← ih]
    rw [List.countP_singleton, List.countP_singleton, h n]
    by_cases e : n = v
    · subst e
      rw [hv, if_neg (Nat.lt_irrefl n), if_pos (Nat.lt_succ_self n)]
      simp
    · have : decide (n ≠ v) = true := decide_eq_true e
      rw [this, Bool.and_true]
      have hh : (v < n + 1) = (v < n) := propext ⟨fun _ => by omega, fun _ => by omega⟩
      simp only [hh]
      omega
def mu (k : Nat) (S : RS) (pend : List Way) : Nat := S.stand * (k + 1) + pend.length
section
variable {S : RS} {pend : List Way} {R : Nat → Int → Nat → Prop} {w : Way} {ks : List Int}
theorem Good.wayLen (h : Good S pend R) (hk : ∀ c z d, R c z d → z ∈ ks) (c : Nat) : (S.way c).length ≤ ks.length := by
  have := nodup_sub ks ((S.way c).map (·.1)) (h.kn c) (fun x hx => by
    obtain ⟨q, hq, rfl⟩ := List.mem_map.mp hx
    obtain ⟨a, b, r, _⟩ := h.so c q.1 q.2 (getW_of (h.kn c) hq)
    exact hk _ _ _ r)
  rw [List.length_map] at this
  exact this
theorem Good.take (h : Good S (pend ++ [w]) R) (hk : ∀ c z d, R c z d → z ∈ ks) : Good (S.takeIn pend w).1 (S.takeIn pend w).2 R ∧ mu ks.length (S.takeIn pend w).1 (S.takeIn pend w).2 < mu ks.length S (pend ++ [w]) ∧ (S.takeIn pend w).1.made = S.made ∧ (S.takeIn pend w).1.L = S.L ∧
    ((S.takeIn pend w).1.stand = S.stand ∧ (S.takeIn pend w).1.rows = S.rows ∧ (S.takeIn pend w).1.went = S.went ∨ (S.takeIn pend w).1.stand + 1 = S.stand ∧ ∃ c z x y, S.by c z = some x ∧ Im S R c z y ∧ y < S.made ∧ S.eld y = y ∧ x ≠ y ∧ (S.takeIn pend w).1.rows = S.rows ++ [rowMeet c z (min x y) (max x y)] ∧ (S.takeIn pend w).1.went = S.went ++ [max x y] ∧ ∀ a, (S.takeIn pend w).1.eld a = if S.eld a = max x y then min x y else S.eld a) := by
  have hw := h.pl w (List.mem_append_right _ List.mem_cons_self)
  have iw := h.sp w (List.mem_append_right _ List.mem_cons_self)
  have hc := h.lt hw.1
  have hd := h.lt hw.2
  have ec := (h.el _ hw.1).2
  have ed := (h.el _ hw.2).2
  have hp : ∀ x ∈ pend, x ∈ pend ++ [w] := fun x hx => List.mem_append_left _ hx
  have last : ∀ x ∈ pend ++ [w], x ∉ pend → x = w := fun x hx nx => by
    rcases List.mem_append.mp hx with q | q
    · exact absurd q nx
    · exact List.mem_singleton.mp q
  have met : ∀ {c x y : Nat} {z : Int}, S.by c z = some x → y < S.made → S.eld y = y → x ≠ y → Im S R c z y → ((S.eld w.1 = c ∧ w.2.1 = z ∧ S.eld w.2.2 = y) ∨ (S.eld w.1 = y ∧ w.2.1 = -z ∧ S.eld w.2.2 = c)) →
      Good (S.meet c z x y pend).1 (S.meet c z x y pend).2 R ∧ mu ks.length (S.meet c z x y pend).1 (S.meet c z x y pend).2 < mu ks.length S (pend ++ [w]) ∧ (S.meet c z x y pend).1.made = S.made ∧ (S.meet c z x y pend).1.L = S.L ∧ (S.meet c z x y pend).1.stand + 1 = S.stand ∧ (S.meet c z x y pend).1.rows = S.rows ++ [rowMeet c z (min x y) (max x y)] ∧ (S.meet c z x y pend).1.went = S.went ++ [max x y] ∧ ∀ a, (S.meet c z x y pend).1.eld a = if S.eld a = max x y then min x y else S.eld a := by
    intro c x y z hx hy ey hxy iy hcv
    obtain ⟨g, g1, g2⟩ := h.meet hx hy ey hxy iy hp (fun x hx nx => by rw [last x hx nx]; exact hcv)
    obtain ⟨hc, hxm, ec, ex⟩ := h.st _ _ _ hx
    have rest := (offs_rest (max x y) (S.joined c z (min x y) (max x y)) pend ((S.joined c z (min x y) (max x y)).way (max x y))).2
    have hm : (S.meet c z x y pend).1.made = S.made := by
      show (offs (max x y) (S.joined c z (min x y) (max x y)) pend ((S.joined c z (min x y) (max x y)).way (max x y))).1.made = _
      rw [rest]; rfl
    have hL : (S.meet c z x y pend).1.L = S.L := by
      show (offs (max x y) (S.joined c z (min x y) (max x y)) pend ((S.joined c z (min x y) (max x y)).way (max x y))).1.L = _
      rw [rest]; rfl
    have hr : (S.meet c z x y pend).1.rows = S.rows ++ [rowMeet c z (min x y) (max x y)] := by
      show (offs (max x y) (S.joined c z (min x y) (max x y)) pend ((S.joined c z (min x y) (max x y)).way (max x y))).1.rows = _
      rw [rest]; rfl
    have hn : (S.meet c z x y pend).1.went = S.went ++ [max x y] := by
      show (offs (max x y) (S.joined c z (min x y) (max x y)) pend ((S.joined c z (min x y) (max x y)).way (max x y))).1.went = _
      rw [rest]; rfl
    have huv : min x y < max x y := by omega
    have ev : S.eld (max x y) = max x y := by rcases Nat.lt_or_ge x y with q | q; rw [Nat.max_eq_right (by omega)]; exact ey; rw [Nat.max_eq_left (by omega)]; exact ex
    have hs : (S.meet c z x y pend).1.stand + 1 = S.stand := by
      unfold RS.stand
      rw [hm]
      have := count_less (p := fun c => decide (S.eld c = c)) (p' := fun a => decide ((S.meet c z x y pend).1.eld a = a)) (v := max x y) (fun a => by
        rw [g1, Bool.eq_iff_iff, Bool.and_eq_true, decide_eq_true_iff, decide_eq_true_iff, decide_eq_true_iff]
        by_cases q : S.eld a = max x y
        · rw [if_pos q]
          constructor
          · intro e
            have e2 : S.eld (min x y) = min x y := by rcases Nat.lt_or_ge x y with q | q; rw [Nat.min_eq_left (by omega)]; exact ex; rw [Nat.min_eq_right (by omega)]; exact ey
            rw [e] at e2; rw [e2] at q; omega
          · rintro ⟨e1, e2⟩
            exact absurd (e1.symm.trans q) e2
        · rw [if_neg q]
          exact ⟨fun e => ⟨e, fun e2 => q (by rw [e2]; exact ev)⟩, fun e => e.1⟩) (decide_eq_true ev) S.made
      rw [if_pos (by omega)] at this
      exact this
    have hl := h.wayLen hk (max x y)
    refine ⟨g, ?_, hm, hL, hs, hr, hn, g1⟩
    unfold mu
    rw [g2, ← hs, List.length_append, List.length_append, List.length_map, Nat.add_mul, Nat.one_mul]
    have : ([w] : List Way).length = 1 := rfl
    omega
  unfold RS.takeIn
  by_cases h1 : (S.by (S.eld w.1) w.2.1).getD (S.eld w.2.2) ≠ S.eld w.2.2
  · rw [if_pos h1]
    cases e : S.by (S.eld w.1) w.2.1 with
    | none => rw [e] at h1; exact absurd rfl h1
    | some x =>
      rw [e] at h1
      obtain ⟨a1, a2, a3, a4, a5, a6, a7, a8⟩ := met e hd ed h1 iw (.inl ⟨rfl, rfl, rfl⟩)
      exact ⟨a1, a2, a3, a4, .inr ⟨a5, _, _, x, _, e, iw, hd, ed, h1, a6, a7, a8⟩⟩
  · rw [if_neg h1]
    by_cases h2 : (S.by (S.eld w.2.2) (-w.2.1)).getD (S.eld w.1) ≠ S.eld w.1
    · rw [if_pos h2]
      cases e : S.by (S.eld w.2.2) (-w.2.1) with
      | none => rw [e] at h2; exact absurd rfl h2
      | some x =>
        rw [e] at h2
        have ib := Im.back h iw
        obtain ⟨a1, a2, a3, a4, a5, a6, a7, a8⟩ := met e hc ec h2 ib (.inr ⟨rfl, (Int.neg_neg _).symm, rfl⟩)
        exact ⟨a1, a2, a3, a4, .inr ⟨a5, _, _, x, _, e, ib, hc, ec, h2, a6, a7, a8⟩⟩
    · rw [if_neg h2]
      have k1 : S.by (S.eld w.1) w.2.1 = none ∨ S.by (S.eld w.1) w.2.1 = some (S.eld w.2.2) := by
        cases e : S.by (S.eld w.1) w.2.1 with
        | none => exact .inl rfl
        | some x => rw [e] at h1; exact .inr (congrArg some (Decidable.not_not.mp h1))
      have k2 : S.by (S.eld w.2.2) (-w.2.1) = none ∨ S.by (S.eld w.2.2) (-w.2.1) = some (S.eld w.1) := by
        cases e : S.by (S.eld w.2.2) (-w.2.1) with
        | none => exact .inl rfl
        | some x => rw [e] at h2; exact .inr (congrArg some (Decidable.not_not.mp h2))
      refine ⟨h.keep hc hd ec ed iw k1 k2 hp (fun x hx nx => by rw [last x hx nx]; exact ⟨rfl, rfl, rfl⟩), ?_, rfl, rfl, .inl ⟨rfl, rfl, rfl⟩⟩
      unfold mu
      show S.stand * _ + pend.length < S.stand * _ + (pend ++ [w]).length
      rw [List.length_append]
      have : ([w] : List Way).length = 1 := rfl
      omega
theorem Good.fin (h : Good S [] R) {a b : Nat} (ha : a < S.made) (hb : b < S.made) : S.eld a = S.eld b ↔ Cg R a b := by
  have det : ∀ {a a' b b' : Nat} {z : Int}, R a z b → R a' z b' → S.eld a = S.eld a' → S.eld b = S.eld b' := fun {a a' b b' z} r1 r2 e => by
    rcases h.cv _ _ _ r1 with q1 | ⟨w, hw, _⟩
    · rcases h.cv _ _ _ r2 with q2 | ⟨w, hw, _⟩
      · rw [e, q2] at q1; exact (Option.some.inj q1).symm
      · cases hw
    · cases hw
  constructor
  · intro e
    have h1 := h.cg a ha
    have h2 := h.cg b hb
    rw [e] at h1
    exact h1.trans h2.symm
  · intro c
    clear ha hb
    induction c with
    | refl => rfl
    | symm _ ih => exact ih.symm
    | trans _ _ i1 i2 => exact i1.trans i2
    | step r1 r2 _ ih => exact det r1 r2 ih
theorem Good.by_iff (h : Good S [] R) {c d : Nat} {z : Int} : S.by c z = some d ↔ Im S R c z d := by
  constructor
  · exact h.so c z d
  · rintro ⟨c', d', r, rfl, rfl⟩
    rcases h.cv _ _ _ r with q | ⟨w, hw, _⟩
    · exact q
    · cases hw
end
end L2
set_option Elab.async false
set_option linter.all false
set_option maxRecDepth 100000
set_option maxHeartbeats 4000000
namespace L2
open PySem PySem.Spec PyProof.Rows
section
variable {X : Cx}
end
def RAdd (R : Nat → Int → Nat → Prop) (c : Nat) (z : Int) (d : Nat) : Nat → Int → Nat → Prop := fun a s b => R a s b ∨ (a = c ∧ s = z ∧ b = d) ∨ (a = d ∧ s = -z ∧ b = c)
section
variable {S : RS} {R : Nat → Int → Nat → Prop}
end
end L2
set_option Elab.async false
set_option linter.all false
set_option maxRecDepth 100000
set_option maxHeartbeats 4000000
namespace L2
open PySem PySem.Spec PyProof.Rows
def RowR (n : Nat) (s : Int) : Nat → Int → Nat → Prop := fun a z b => (z = s ∧ b = a + 1 ∧ b < n) ∨ (z = -s ∧ a = b + 1 ∧ a < n)
section
variable {n one other : Nat} {s : Int}
variable (hs : s = 1 ∨ s = -1) (h1 : one < n) (h2 : other < n) {S : RS} (g : Good S [] (RAdd (RowR n s) one s other)) (hm : S.made = n)
include hs h1 h2 g hm
end
end L2
set_option Elab.async false
set_option linter.all false
set_option maxRecDepth 100000
set_option maxHeartbeats 4000000
namespace L2
open PySem PySem.Spec PyProof.Rows
section
variable {X : Cx}
end
end L2
set_option Elab.async false
set_option linter.all false
set_option maxRecDepth 100000
set_option maxHeartbeats 4000000
namespace L2
open PySem PySem.Spec PyProof.Rows
section
variable {X : Cx}
end
end L2
set_option Elab.async false
set_option linter.all false
set_option maxRecDepth 100000
namespace L2
section
open PySem PySem.Spec PyProof.Rows
variable {C : CXT} {P : Program} {w : World} {K : PySem.W.Frag} {mg : Str → Option Value} {base : Heap} {N : List Str} {q : Str} {sc : Scope} {f : Addr} {cd : Value} {A : Around} {outer : List Env} {s : Shared} {H : Hp} {E : XK}
end
end L2
set_option Elab.async false
set_option linter.all false
set_option maxRecDepth 100000
set_option maxHeartbeats 4000000
namespace L2
open PySem PySem.Spec PyProof.Rows PySem.Builtin PySem.Builtin.Str
section
variable {X : Cx}
def joinL (sep : List Nat) : List (List Nat) → List Nat
  | [] => []
  | [l] => l
  | l :: m :: ls => l ++ sep ++ joinL sep (m :: ls)
theorem join_sep (sep : List Nat) (ls : List (List Nat)) : Txt.join (tx sep) (ls.map tx) = tx (joinL sep ls) := by
  have e : ∀ ls : List (List Nat), Str.join (tx sep) (ls.map tx) = tx (joinL sep ls) := by
    intro ls
    induction ls with
    | nil => rfl
    | cons l ls ih =>
      cases ls with
      | nil => rfl
      | cons m ls =>
        show tx l ++ tx sep ++ Str.join (tx sep) ((m :: ls).map tx) = _
        rw [ih, tx_app, tx_app]
        rfl
  rw [← e]
  exact StrLaws.glued_eq_join _ _
def rJoinS (K : PySem.W.Frag) : V → List V → Hp → VK → Prop := fun x vs H Q => ∃ a sep ls, x = .str (tx sep) ∧ vs = [.ref a] ∧ SqL K H a (strV ls) ∧ ls.flatten.length + ls.length * sep.length ≤ 1000000 ∧ Q (.str (tx (joinL sep ls))) H
theorem mt_joinS : MtM X "str.join" (rJoinS X.K) := by
  intro pins s σ H x vs v us Q I rx rv h
  obtain ⟨a, sep, ls, rfl, rfl, hq, hz, q⟩ := h
  obtain ⟨t, rfl⟩ := rx
  obtain ⟨u, rfl, ru⟩ := rv.one
  cases ru
  obtain ⟨its, r, p, _⟩ := I.list hq
  refine join_list p.isList (ys := ls.map tx) (strs_of r) ?_ fun t' k => ?_
  · rw [tx_len, List.map_map, List.length_map]
    have : ((List.map (Str.length ∘ tx) ls).sum) = ls.flatten.length := by
      rw [List.length_flatten]
      congr 1
    rw [this]
    omega
  · rw [join_sep]
    exact ⟨.str (tx (joinL sep ls)), H, I.tok _, ⟨_, rfl⟩, q⟩
def Bare (m : List Nat) : Prop := m = [] ∨ (m.head? ≠ some 32 ∧ m.getLast? ≠ some 32)
theorem strip_tx (l : List Nat) : ∃ m a b, Txt.stripChars (tx l) (tx [32]) = tx m ∧ l = List.replicate a 32 ++ m ++ List.replicate b 32 ∧ Bare m := by
  have g : ∀ c, (tx [32]).cps.contains c = true ↔ c = 32 := fun c => by
    show (#[32] : Array Nat).contains c = true ↔ c = 32
    simp [eq_comm]
  have gd : ∀ k, (tx l).cps.getD k 0 = l.getD k 0 := fun k => by rw [← getD_list]; rfl
  have hl : (tx l).length = l.length := by rw [tx_len]
  obtain ⟨a1, a2, a3⟩ := lo_facts (tx [32]).cps.contains (tx l)
  obtain ⟨b1, b2, b3, b4⟩ := hi_facts (tx [32]).cps.contains (tx l) (stripLo (tx [32]).cps.contains true (tx l)) a1
  have e := stripBy_eq (tx [32]).cps.contains true true (tx l)
  generalize stripLo (tx [32]).cps.contains true (tx l) = lo at a1 a2 a3 b1 b2 b3 b4 e
  generalize stripHi (tx [32]).cps.contains true (tx l) lo = hi at b1 b2 b3 b4 e
  rw [hl] at a1 a3 b2 b3
  have es : strSub (tx l) lo hi = tx ((l.drop lo).take (hi - lo)) := by
    refine str_ext ?_
    show (l.toArray.extract lo hi).toList = (l.drop lo).take (hi - lo)
    simp
  have n32 : ∀ c, (tx [32]).cps.contains c = false ↔ c ≠ 32 := fun c => by
    rw [← Bool.not_eq_true, g c]
  have hat : ∀ k, k < l.length → l[k]? = some (l.getD k 0) := fun k hk => by rw [List.getD_eq_getElem?_getD, List.getElem?_eq_getElem hk]; rfl
  refine ⟨(l.drop lo).take (hi - lo), lo, l.length - hi, e.trans es, ?_, ?_⟩
  · have e1 : l.take lo = List.replicate lo 32 := by
      refine List.eq_replicate_iff.mpr ⟨by rw [List.length_take]; omega, fun c hc => ?_⟩
      obtain ⟨k, hk⟩ := List.getElem?_of_mem hc
      have hkl : k < lo := by have := (List.getElem?_eq_some_iff.mp hk).1; rw [List.length_take] at this; omega
      rw [List.getElem?_take_of_lt hkl, hat k (by omega)] at hk
      rw [← Option.some.inj hk, ← gd k]
      exact (g _).mp (a2 k hkl)
    have e2 : l.drop hi = List.replicate (l.length - hi) 32 := by
      refine List.eq_replicate_iff.mpr ⟨by rw [List.length_drop], fun c hc => ?_⟩
      obtain ⟨k, hk⟩ := List.getElem?_of_mem hc
      have hkl : hi + k < l.length := by have := (List.getElem?_eq_some_iff.mp hk).1; rw [List.length_drop] at this; omega
      rw [List.getElem?_drop, hat (hi + k) hkl] at hk
      rw [← Option.some.inj hk, ← gd (hi + k)]
      exact (g _).mp (b3 (hi + k) (by omega) hkl)
    rw [← e1, ← e2]
    have e3 : (l.drop lo).take (hi - lo) ++ l.drop hi = l.drop lo := by
      have := List.take_append_drop (hi - lo) (l.drop lo)
      rw [List.drop_drop, show lo + (hi - lo) = hi by omega] at this
      exact this
    rw [List.append_assoc, e3, List.take_append_drop]
  · by_cases hh : hi = lo
    · left
      rw [hh, Nat.sub_self, List.take_zero]
    · right
      have hlo : lo < l.length := by omega
      have hm : ((l.drop lo).take (hi - lo)).length = hi - lo := by rw [List.length_take, List.length_drop]; omega
      constructor
      · rw [List.head?_eq_getElem?, List.getElem?_take_of_lt (by omega), List.getElem?_drop, Nat.add_zero, hat lo hlo]
        intro z
        rcases a3 with q | q
        · omega
        · rw [gd lo] at q
          exact (n32 _).mp q (Option.some.inj z)
      · rw [List.getLast?_eq_getElem?, hm, List.getElem?_take_of_lt (by omega), List.getElem?_drop, show lo + (hi - lo - 1) = hi - 1 by omega, hat (hi - 1) (by omega)]
        intro z
        rcases b4 with q | q
        · exact hh q
        · rw [gd (hi - 1)] at q
          exact (n32 _).mp q (Option.some.inj z)
theorem bare_one {m m' : List Nat} {a b a' b' : Nat} (h : List.replicate a 32 ++ m ++ List.replicate b 32 = List.replicate a' 32 ++ m' ++ List.replicate b' 32) (hm : Bare m) (hm' : Bare m') : m = m' := by
  have key : ∀ {m : List Nat} {a b : Nat}, Bare m → (((List.replicate a 32 ++ m ++ List.replicate b 32).dropWhile (· == 32)).reverse.dropWhile (· == 32)).reverse = m := fun {m a b} hm => by
    have drp : ∀ (n : Nat) (t : List Nat), (List.replicate n 32 ++ t).dropWhile (· == 32) = t.dropWhile (· == 32) := fun n t => by
      induction n with
      | zero => rfl
      | succ n ih => rw [List.replicate_succ, List.cons_append, List.dropWhile_cons_of_pos (by rfl), ih]
    have stay : ∀ (t : List Nat), t.head? ≠ some 32 → t.dropWhile (· == 32) = t := fun t ht => by
      cases t with
      | nil => rfl
      | cons c t => rw [List.dropWhile_cons_of_neg (by intro z; exact ht (by rw [beq_iff_eq.mp z]; rfl))]
    by_cases hne : m = []
    · subst hne
      rw [List.append_nil, drp]
      have : (List.replicate b 32).dropWhile (· == 32) = [] := by
        have := drp b []
        rw [List.append_nil] at this
        rw [this]; rfl
      rw [this]; rfl
    · rcases hm with hm | ⟨h1, h2⟩
      · exact absurd hm hne
      · have e1 : (m ++ List.replicate b 32).dropWhile (· == 32) = m ++ List.replicate b 32 := stay _ (by
          cases m with
          | nil => exact absurd rfl hne
          | cons c t => exact h1)
        have e2 : m.reverse.dropWhile (· == 32) = m.reverse := stay _ (by rw [List.head?_reverse]; exact h2)
        rw [List.append_assoc, drp, e1, List.reverse_append, List.reverse_replicate, drp, e2, List.reverse_reverse]
  rw [← key (a := a) (b := b) hm, h, key hm']
def rStripX : V → List V → Hp → VK → Prop := fun x vs H Q => ∃ l, x = .str (tx l) ∧ vs = [.str (tx [32])] ∧ l.length ≤ 1000000 ∧ ∀ m a b, l = List.replicate a 32 ++ m ++ List.replicate b 32 → Bare m → Q (.str (tx m)) H
theorem mt_str_strip : MtM X "str.strip" rStripX := by
  intro pins s σ H x vs v us Q I rx rv h
  obtain ⟨l, rfl, rfl, hz, q⟩ := h
  obtain ⟨t, rfl⟩ := rx
  obtain ⟨u, rfl, ru⟩ := rv.one
  obtain ⟨t2, rfl⟩ := ru
  obtain ⟨m, a, b, e1, e2, e3⟩ := strip_tx l
  refine PySem.SC.stripChars (fun t' k => ?_) (by rw [tx_len]; exact Nat.le_trans hz (by decide))
  rw [e1]
  exact ⟨.str (tx m), H, I.tok _, ⟨_, rfl⟩, q m a b e2 e3⟩
theorem split_new {P : Program} {W : World} {A : Around} {E : Value → Shared → Prop} {s : Shared} {x y : Str} {t u : Tok} {Q : Value → Shared → Prop} (hy : (y.length == 0) = false)
    (hq : ∀ (l : List (Str × Tok)) (k : Nat), l.map (·.1) = Txt.split x y → Q (.ref s.heap.objs.size) { s with heap := s.heap.push { cls := .type "list", data := .seq (strValues l).toArray }, toks := k })
    (hsz : x.length ≤ sizeLine) (hsz2 : (partsBetween x (occurrences x y 0 x.length (x.length + 1)) y.length).length ≤ sizeLine) :
    wpAny (model P W) A (call (.builtin "str.split") [.str x t, .str y u]) Q E s := by
  by_cases k1 : (decide (x.length < y.length) || decide (strKind x < strKind y)) = true
  · have e : [x] = Txt.split x y := by unfold Txt.split; rw [if_pos k1]
    exact call_meets F.slot_str_split (typeIs_str _ _ _) F.entry_str_split (F.args_str_split_2 _ _) (meets_str_split_cannot_occur x y t u k1) (hq [(x, t)] s.toks e)
  have k1 := eq_false_of_ne_true k1
  by_cases k2 : (occurrences x y 0 x.length (x.length + 1)).isEmpty = true
  · have e : [x] = Txt.split x y := by unfold Txt.split; rw [k1, if_neg Bool.false_ne_true, if_pos k2]
    exact call_meets F.slot_str_split (typeIs_str _ _ _) F.entry_str_split (F.args_str_split_2 _ _) (meets_str_split_not_found x y t u k1 hy k2) (hq [(x, t)] s.toks e)
  have k2 := eq_false_of_ne_true k2
  have e : partsBetween x (occurrences x y 0 x.length (x.length + 1)) y.length = Txt.split x y := by unfold Txt.split; rw [k1, k2, if_neg Bool.false_ne_true, if_neg Bool.false_ne_true]
  refine call_meets F.slot_str_split (typeIs_str _ _ _) F.entry_str_split (F.args_str_split_2 _ _) (meets_str_split_sep x y t u k1 hy k2 hsz hsz2) ?_
  have q := hq (numbered s.toks (partsBetween x (occurrences x y 0 x.length (x.length + 1)) y.length)) (s.toks + (partsBetween x (occurrences x y 0 x.length (x.length + 1)) y.length).length) ((numbered_texts _ _).trans e)
  rw [← strsFrom_eq] at q
  exact q
theorem txt_of (x : Str) : tx x.cps.toList = x := str_ext rfl
theorem join_inj {c : Nat} : ∀ {ls ms : List (List Nat)}, ls ≠ [] → ms ≠ [] → (∀ l ∈ ls, c ∉ l) → (∀ m ∈ ms, c ∉ m) → joinL [c] ls = joinL [c] ms → ls = ms := by
  have cut : ∀ {l m r t : List Nat}, c ∉ l → c ∉ m → l ++ c :: r = m ++ c :: t → l = m ∧ r = t := fun {l m r t} => by
    induction l generalizing m with
    | nil =>
      intro _ hm e
      cases m with
      | nil => exact ⟨rfl, (List.cons.inj e).2⟩
      | cons a m => exact absurd (by rw [(List.cons.inj e).1]; exact List.mem_cons_self) hm
    | cons a l ih =>
      intro hl hm e
      cases m with
      | nil => exact absurd (by rw [← (List.cons.inj e).1]; exact List.mem_cons_self) hl
      | cons b m =>
        obtain ⟨e1, e2⟩ := List.cons.inj e
        obtain ⟨q1, q2⟩ := ih (fun z => hl (List.mem_cons_of_mem _ z)) (fun z => hm (List.mem_cons_of_mem _ z)) e2
        exact ⟨by rw [e1, q1], q2⟩
  intro ls
  induction ls with
  | nil => intro ms h; exact absurd rfl h
  | cons l ls ih =>
    intro ms _ hne hl hm e
    cases ms with
    | nil => exact absurd rfl hne
    | cons m ms =>
      have h1 := hl l List.mem_cons_self
      have h2 := hm m List.mem_cons_self
      cases ls with
      | nil =>
        cases ms with
        | nil => rw [show l = m from e]
        | cons m2 ms =>
          have e : l = m ++ [c] ++ joinL [c] (m2 :: ms) := e
          exact absurd (by rw [e]; simp) h1
      | cons l2 ls =>
        cases ms with
        | nil =>
          have e : l ++ [c] ++ joinL [c] (l2 :: ls) = m := e
          exact absurd (by rw [← e]; simp) h2
        | cons m2 ms =>
          have e : l ++ [c] ++ joinL [c] (l2 :: ls) = m ++ [c] ++ joinL [c] (m2 :: ms) := e
          rw [List.append_assoc, List.append_assoc] at e
          obtain ⟨q1, q2⟩ := cut h1 h2 e
          rw [q1, ih (by simp) (by simp) (fun x hx => hl x (List.mem_cons_of_mem _ hx)) (fun x hx => hm x (List.mem_cons_of_mem _ hx)) q2]
theorem join_str (sep : List Nat) (ls : List (List Nat)) : Str.join (tx sep) (ls.map tx) = tx (joinL sep ls) := by
  rw [← join_sep]
  exact (StrLaws.glued_eq_join _ _).symm
theorem split_tx {c : Nat} {ls : List (List Nat)} (hne : ls ≠ []) (h : ∀ l ∈ ls, c ∉ l) : Txt.split (tx (joinL [c] ls)) (tx [c]) = ls.map tx := by
  have hf := StrLaws.split_free (tx (joinL [c] ls)) c
  have hj := StrLaws.join_split (tx (joinL [c] ls)) (tx [c])
  have hp := split_pos (tx (joinL [c] ls)) (tx [c])
  have e0 : (⟨#[c]⟩ : Str) = tx [c] := rfl
  rw [e0] at hf
  generalize Txt.split (tx (joinL [c] ls)) (tx [c]) = P at hf hj hp
  have eP : P = (P.map fun x => x.cps.toList).map tx := by
    rw [List.map_map]
    conv => lhs; rw [← List.map_id P]
    exact List.map_congr_left fun x _ => (txt_of x).symm
  rw [eP, join_str] at hj
  have hj' : joinL [c] (P.map fun x => x.cps.toList) = joinL [c] ls := by
    have := congrArg (fun z : Str => z.cps.toList) hj
    exact this
  have hms : (P.map fun x => x.cps.toList) = ls := join_inj (fun z => by
      rw [List.map_eq_nil_iff] at z
      rw [z] at hp
      exact absurd hp (by decide)) hne (fun m hm => by
      obtain ⟨x, hx, rfl⟩ := List.mem_map.mp hm
      exact hf x hx) h hj'
  rw [eP, hms]
def rSplitX : V → List V → Hp → VK → Prop := fun x vs H Q => ∃ (c : Nat) (ls : List (List Nat)), x = .str (tx (joinL [c] ls)) ∧ vs = [.str (tx [c])] ∧ ls ≠ [] ∧ (∀ l ∈ ls, c ∉ l) ∧ (joinL [c] ls).length ≤ 1000000 ∧ ls.length ≤ 1000000 ∧ ∀ p, H p = none → Q (.ref p) (upd H p (.lst (strV ls)))
theorem vals_strs : ∀ {l : List (Str × Tok)} {ls : List (List Nat)}, l.map (·.1) = ls.map tx → Vals (strV ls) (strValues l)
  | [], [], _ => .nil
  | [], _ :: _, h => by cases h
  | _ :: _, [], h => by cases h
  | (x, t) :: l, m :: ls, h => by
    obtain ⟨h1, h2⟩ := List.cons.inj h
    have h1 : x = tx m := h1
    subst h1
    exact .cons ⟨_, rfl⟩ (vals_strs h2)
theorem mt_str_split : MtM X "str.split" rSplitX := by
  intro pins s σ H x vs v us Q I rx rv h
  obtain ⟨c, ls, rfl, rfl, hne, hc, hz, hz2, q⟩ := h
  obtain ⟨t, rfl⟩ := rx
  obtain ⟨u, rfl, ru⟩ := rv.one
  obtain ⟨t2, rfl⟩ := ru
  have hs := split_tx hne hc
  refine split_new rfl (fun l k hl => ?_) (by rw [tx_len]; exact Nat.le_trans hz (by decide)) ?_
  · rw [hs] at hl
    exact ⟨.ref s.heap.objs.size, _, I.laid (t' := k) (fun b o e => Heap.get?_push_of_some _ e) (Nat.le_refl _) (show ObjOk X.prog X.w _ _ _ (.lst (strV ls)) from ⟨by unfold strV; rw [List.length_map]; exact Nat.le_trans hz2 (by decide), _, _, vals_strs hl, Heap.get?_push_size _ rfl⟩), rfl, q _ (I.hok.fresh (Nat.le_refl _))⟩
  · have := len_partsBetween (tx (joinL [c] ls)) (occurrences (tx (joinL [c] ls)) (tx [c]) 0 (tx (joinL [c] ls)).length ((tx (joinL [c] ls)).length + 1)) (tx [c]).length
    have h2 := StrLaws.occ_length_le (tx (joinL [c] ls)) (tx [c]) 0 (tx (joinL [c] ls)).length ((tx (joinL [c] ls)).length + 1)
    rw [this]
    rw [tx_len] at h2 ⊢
    exact Nat.le_trans (show _ ≤ 1000002 by omega) (by decide)
end
end L2
set_option Elab.async false
set_option linter.all false
set_option maxRecDepth 100000
set_option maxHeartbeats 4000000
namespace L2
structure GapI (S : RS) (R : Nat → Int → Nat → Prop) (ks : List Int) : Prop where
  sub : ∀ c, c < S.made → (S.gap c).Sublist ks
  im : ∀ c, c < S.made → S.eld c = c → ∀ z ∈ ks, z ∉ S.gap c → ∃ d, Im S R c z d
  by_ : ∀ c z d, S.by c z = some d → z ∉ S.gap c
section
variable {S : RS} {pend : List Way} {R : Nat → Int → Nat → Prop} {ks : List Int}
theorem gap_noGap {c x : Nat} {z : Int} (hc : c < S.gaps.length) : (S.noGap c z).gap x = if x = c then (S.gap c).filter (fun y => decide (y ≠ z)) else S.gap x := by
  unfold RS.noGap RS.setG RS.gap
  show (S.gaps.set c _).getD x [] = _
  rw [List.getD_eq_getElem?_getD]
  by_cases h : x = c
  · subst h
    rw [if_pos rfl, List.getElem?_set_self hc]; rfl
  · rw [if_neg h, List.getElem?_set_ne (fun e => h e.symm), List.getD_eq_getElem?_getD]
theorem noGap_len {c : Nat} {z : Int} : (S.noGap c z).gaps.length = S.gaps.length := by
  unfold RS.noGap RS.setG
  exact List.length_set ..
theorem gap_keep {c d x : Nat} {z y : Int} (hc : c < S.gaps.length) (hd : d < S.gaps.length) : y ∈ (S.keep c z d).gap x ↔ y ∈ S.gap x ∧ ¬ (x = c ∧ y = z) ∧ ¬ (x = d ∧ y = -z) := by
  unfold RS.keep
  have h1 : ∀ x, ((S.putWay c z d).putWay d (-z) c).gap x = S.gap x := fun x => rfl
  have l1 : ((S.putWay c z d).putWay d (-z) c).gaps.length = S.gaps.length := rfl
  rw [gap_noGap (by rw [noGap_len]; exact hd), gap_noGap (by exact hc), gap_noGap (by exact hc), h1, h1, h1]
  by_cases e1 : x = d
  · subst e1
    rw [if_pos rfl]
    by_cases e2 : x = c
    · subst e2
      rw [if_pos rfl, List.mem_filter, List.mem_filter]
      simp
      constructor
      · rintro ⟨⟨a, b⟩, e⟩; exact ⟨a, b, e⟩
      · rintro ⟨a, b, e⟩; exact ⟨⟨a, b⟩, e⟩
    · rw [if_neg e2, List.mem_filter]
      simp [e2]
  · rw [if_neg e1]
    by_cases e2 : x = c
    · subst e2
      rw [if_pos rfl, List.mem_filter]
      simp [e1]
    · rw [if_neg e2]
      simp [e1, e2]
theorem gap_keep_sub {c d x : Nat} {z : Int} (hc : c < S.gaps.length) (hd : d < S.gaps.length) : ((S.keep c z d).gap x).Sublist (S.gap x) := by
  unfold RS.keep
  have h1 : ∀ x, ((S.putWay c z d).putWay d (-z) c).gap x = S.gap x := fun x => rfl
  rw [gap_noGap (by rw [noGap_len]; exact hd), gap_noGap (by exact hc), gap_noGap (by exact hc), h1, h1, h1]
  by_cases e1 : x = d
  · subst e1
    rw [if_pos rfl]
    by_cases e2 : x = c
    · subst e2
      rw [if_pos rfl]
      exact List.Sublist.trans List.filter_sublist List.filter_sublist
    · rw [if_neg e2]; exact List.filter_sublist
  · rw [if_neg e1]
    by_cases e2 : x = c
    · subst e2
      rw [if_pos rfl]; exact List.filter_sublist
    · rw [if_neg e2]; exact List.Sublist.refl _
theorem by_keep {c d x : Nat} {z y : Int} (hc : c < S.ways.length) (hd : d < S.ways.length) : (S.keep c z d).by x y = if x = d ∧ y = -z then some c else if x = c ∧ y = z then some d else S.by x y := by
  unfold RS.keep
  show (((S.putWay c z d).putWay d (-z) c)).by x y = _
  rw [by_putWay (by unfold RS.putWay RS.setW; rw [List.length_set]; exact hd), by_putWay hc]
theorem GapI.keep (h : GapI S R ks) (g : Good S pend R) {c d : Nat} {z : Int} (hc : c < S.made) (hd : d < S.made) (i : Im S R c z d) : GapI (S.keep c z d) R ks := by
  have gc : c < S.gaps.length := by rw [g.wf.g]; exact hc
  have gd : d < S.gaps.length := by rw [g.wf.g]; exact hd
  refine ⟨fun x hx => (gap_keep_sub gc gd).trans (h.sub x hx), fun x hx ex y hy hn => ?_, fun x y e he => ?_⟩
  · rw [gap_keep gc gd] at hn
    by_cases h1 : x = c ∧ y = z
    · rw [h1.1, h1.2]; exact ⟨d, i⟩
    · by_cases h2 : x = d ∧ y = -z
      · rw [h2.1, h2.2]; exact ⟨c, i.back g⟩
      · exact h.im x hx ex y hy fun q => hn ⟨q, h1, h2⟩
  · rw [by_keep (by rw [g.wf.w]; exact hc) (by rw [g.wf.w]; exact hd)] at he
    rw [gap_keep gc gd]
    rintro ⟨q, q1, q2⟩
    rw [if_neg q2, if_neg q1] at he
    exact h.by_ x y e he q
theorem meet_gap {c x y : Nat} {z : Int} : (S.meet c z x y pend).1.gaps = S.gaps := by
  have := (offs_rest (max x y) (S.joined c z (min x y) (max x y)) pend ((S.joined c z (min x y) (max x y)).way (max x y))).2
  have := congrArg RS.gaps this
  exact this
theorem GapI.meet (h : GapI S R ks) (g : Good S pend R) {c x y : Nat} {z : Int} (hx : S.by c z = some x) (hy : y < S.made) (ey : S.eld y = y) (hxy : x ≠ y) {pend' : List Way}
    (made : (S.meet c z x y pend').1.made = S.made) (eld : ∀ a, (S.meet c z x y pend').1.eld a = if S.eld a = max x y then min x y else S.eld a) : GapI (S.meet c z x y pend').1 R ks := by
  have hg : ∀ a, (S.meet c z x y pend').1.gap a = S.gap a := fun a => by unfold RS.gap; rw [meet_gap]
  obtain ⟨_, hxm, _, ex⟩ := g.st _ _ _ hx
  have hmx : max x y < S.made := by rcases Nat.le_total x y with q | q <;> omega
  have hmm : min x y < max x y := by rcases Nat.lt_or_gt_of_ne hxy with q | q <;> omega
  have stay : ∀ a, a < S.made → (S.meet c z x y pend').1.eld a = a → S.eld a = a ∧ a ≠ max x y := fun a ha e => by
    rw [eld] at e
    have hle := (g.el a ha).1
    by_cases q : S.eld a = max x y
    · rw [if_pos q] at e; omega
    · rw [if_neg q] at e
      exact ⟨e, fun z => q (by rw [e, z])⟩
  refine ⟨fun a ha => by rw [hg]; exact h.sub a (by rw [← made]; exact ha), fun a ha ea s hs hn => ?_, fun a s b hb => ?_⟩
  · rw [hg] at hn
    obtain ⟨e1, e2⟩ := stay a (by rw [← made]; exact ha) ea
    obtain ⟨b, c', d', r, q1, q2⟩ := h.im a (by rw [← made]; exact ha) e1 s hs hn
    exact ⟨_, c', d', r, by rw [eld, if_neg (by rw [q1]; exact e2)]; exact q1, rfl⟩
  · rw [hg]
    have hlt : ∀ q ∈ (S.joined c z (min x y) (max x y)).way (max x y), q.2 < (S.joined c z (min x y) (max x y)).ways.length := fun q hq => by
      show q.2 < S.ways.length
      rw [g.wf.w]
      exact (g.st _ _ _ (getW_of (g.kn (max x y)) hq)).2.1
    have hb' : (offs (max x y) (S.joined c z (min x y) (max x y)) pend' ((S.joined c z (min x y) (max x y)).way (max x y))).1.by a s = some b := hb
    rw [offs_by (by show max x y < S.ways.length; rw [g.wf.w]; exact hmx) _ hlt] at hb'
    split at hb'
    · cases hb'
    · exact h.by_ a s b hb'
theorem meet_made {c x y : Nat} {z : Int} : (S.meet c z x y pend).1.made = S.made := by
  have := (offs_rest (max x y) (S.joined c z (min x y) (max x y)) pend ((S.joined c z (min x y) (max x y)).way (max x y))).2
  have := congrArg RS.made this
  exact this
theorem GapI.take {w : Way} (hG : GapI S R ks) (h : Good S (pend ++ [w]) R) : GapI (S.takeIn pend w).1 R ks := by
  have hw := h.pl w (List.mem_append_right _ List.mem_cons_self)
  have iw := h.sp w (List.mem_append_right _ List.mem_cons_self)
  have hc := h.lt hw.1
  have hd := h.lt hw.2
  have ec := (h.el _ hw.1).2
  have ed := (h.el _ hw.2).2
  have hp : ∀ x ∈ pend, x ∈ pend ++ [w] := fun x hx => List.mem_append_left _ hx
  have last : ∀ x ∈ pend ++ [w], x ∉ pend → x = w := fun x hx nx => by
    rcases List.mem_append.mp hx with q | q
    · exact absurd q nx
    · exact List.mem_singleton.mp q
  unfold RS.takeIn
  by_cases h1 : (S.by (S.eld w.1) w.2.1).getD (S.eld w.2.2) ≠ S.eld w.2.2
  · rw [if_pos h1]
    cases e : S.by (S.eld w.1) w.2.1 with
    | none => rw [e] at h1; exact absurd rfl h1
    | some x =>
      rw [e] at h1
      have h1 : x ≠ S.eld w.2.2 := h1
      obtain ⟨_, e1, _⟩ := h.meet e hd ed h1 iw hp (fun x hx nx => by rw [last x hx nx]; exact .inl ⟨rfl, rfl, rfl⟩)
      exact hG.meet h e hd ed h1 meet_made e1
  · rw [if_neg h1]
    by_cases h2 : (S.by (S.eld w.2.2) (-w.2.1)).getD (S.eld w.1) ≠ S.eld w.1
    · rw [if_pos h2]
      cases e : S.by (S.eld w.2.2) (-w.2.1) with
      | none => rw [e] at h2; exact absurd rfl h2
      | some x =>
        rw [e] at h2
        have h2 : x ≠ S.eld w.1 := h2
        obtain ⟨_, e1, _⟩ := h.meet e hc ec h2 (iw.back h) hp (fun x hx nx => by rw [last x hx nx]; exact .inr ⟨rfl, (Int.neg_neg _).symm, rfl⟩)
        exact hG.meet h e hc ec h2 meet_made e1
    · rw [if_neg h2]
      exact hG.keep h hc hd iw
theorem GapI.more {R' : Nat → Int → Nat → Prop} (h : GapI S R ks) (hr : ∀ a z b, R a z b → R' a z b) : GapI S R' ks := ⟨h.sub, fun c hc ec z hz hn => by
  obtain ⟨d, c', d', r, e1, e2⟩ := h.im c hc ec z hz hn
  exact ⟨d, c', d', hr _ _ _ r, e1, e2⟩, h.by_⟩
theorem GapI.rows (h : GapI S R ks) (rows : List Dt) : GapI { S with rows := rows } R ks := ⟨h.sub, h.im, h.by_⟩
theorem GapI.fin (h : GapI S R ks) (g : Good S [] R) (nd : ks.Nodup) {c : Nat} (hc : c < S.made) (ec : S.eld c = c) : S.gap c = ks.filter fun z => (S.by c z).isNone := by
  have sl : ∀ {l k : List Int}, l.Sublist k → k.Nodup → l = k.filter fun z => decide (z ∈ l) := fun {l k} s => by
    induction s with
    | slnil => intro _; rfl
    | cons a s ih =>
      rename_i l k
      intro hn
      have h1 := List.nodup_cons.mp hn
      rw [List.filter_cons_of_neg (by simpa using fun q => h1.1 (s.subset q))]
      exact ih h1.2
    | cons_cons a s ih =>
      rename_i l k
      intro hn
      have h1 := List.nodup_cons.mp hn
      rw [List.filter_cons_of_pos (by simp)]
      congr 1
      conv => lhs; rw [ih h1.2]
      refine List.filter_congr fun z hz => ?_
      have : z ≠ a := fun e => h1.1 (by rw [← e]; exact hz)
      simp [this]
  rw [sl (h.sub c hc) nd]
  refine List.filter_congr fun z hz => ?_
  cases e : S.by c z with
  | some d =>
    have := h.by_ c z d e
    simp [this]
  | none =>
    by_cases q : z ∈ S.gap c
    · simp [q]
    · obtain ⟨d, i⟩ := h.im c hc ec z hz q
      have := g.by_iff.mpr i
      rw [e] at this; cases this
end
end L2
set_option Elab.async false
set_option linter.all false
set_option maxRecDepth 100000
set_option maxHeartbeats 4000000
namespace L2
open PySem PySem.Spec PyProof.Rows
section
variable {M : Model} {A : Around} {E : Value → Shared → Prop} {s : Shared}
structure Fly (B : Heap) (l : List Env) (x : Addr) (cls a0 : Value) (h : Heap) : Prop where
  stays : B.StaysIn h
  new : B.get? x = none
  fun_ : h.FunFrames B l
  tr : ∃ fl, h.TracedAtW B x cls a0 fl
theorem not_rec {h : Heap} {T b : Addr} {oT o : Obj} {ts : Array Value} (hT : h.get? T = some oT) (hd : oT.data = .fields ts) (hb : h.get? b = some o) (hn : ∀ vs, o.data ≠ .fields vs) : T ≠ b := by
  rintro rfl
  rw [hT] at hb
  cases hb
  exact hn ts hd
theorem Fly.mark {B : Heap} {l : List Env} {x T : Addr} {cls a0 : Value} {oe oT : Obj} {vs ts : Array Value} {fl v : Value} {h : Heap} (k1 : B.StaysIn h) (k3 : h.FunFrames B l) (he : h.get? x = some oe) (hc : oe.cls = cls ∧ vs[0]? = some a0) (hd : oe.data = .fields vs)
    (h1 : vs[1]? = some (.ref T)) (hnT : B.get? T = none) (hTx : T ≠ x) (hT : h.get? T = some oT) (hdT : oT.data = .fields ts) (h3 : ts[3]? = some fl) :
    B.StaysIn (h.update T (Obj.mapFields (·.setIfInBounds 3 v))) ∧ (h.update T (Obj.mapFields (·.setIfInBounds 3 v))).FunFrames B l ∧ (h.update T (Obj.mapFields (·.setIfInBounds 3 v))).TracedAtW B x cls a0 v ∧ h.UpToSlots (h.update T (Obj.mapFields (·.setIfInBounds 3 v))) ∧
      (h.update T (Obj.mapFields (·.setIfInBounds 3 v))).get? x = some oe := by
  have lt : 3 < ts.size := (Array.getElem?_eq_some_iff.mp h3).1
  have oth : ∀ b, T ≠ b → (h.update T (Obj.mapFields (·.setIfInBounds 3 v))).get? b = h.get? b := fun b hb => Heap.get?_update_other _ _ hb
  have hx := (oth x hTx).trans he
  refine ⟨?_, ?_, ?_, ?_, hx⟩
  · intro b o q
    rw [oth b (by rintro rfl; rw [hnT] at q; cases q)]
    exact k1 b o q
  · refine k3.of_keeps ?_
    intro b o hb hn
    exact ⟨o, (oth b (not_rec hT hdT hb hn)).trans hb, rfl⟩
  · refine ⟨oe, vs, T, _, _, hx, hc, hd, h1, hnT, hTx, Heap.get?_update_self _ hT ?_, Obj.data_mapFields hdT _, ?_⟩
    · exact Obj.isFreed_of_fields (Obj.data_mapFields hdT _)
    · rw [Array.getElem?_setIfInBounds_self]
      simp [lt]
  · intro b o hb hn
    exact ⟨o.slots, (oth b (not_rec hT hdT hb hn)).trans hb⟩
theorem passOn_any {B : Heap} {l : List Env} {x : Addr} {cls a0 : Value} {what : String} {ce : Env} {Q : Value → Shared → Prop} (F : Fly B l x cls a0 s.heap)
    (hE : ∀ h', Fly B l x cls a0 h' → s.heap.UpToSlots h' → E (.ref x) { s with heap := h' }) : wpAny M A (PySem.passOn what (.ref x) ce : Sem Value) Q E s := by
  obtain ⟨k1, k2, k3, fl, oe, vs, T, oT, ts, he, hc, hd, h1, hnT, hTx, hT, hdT, h3⟩ := F
  unfold PySem.passOn
  refine wpAny_bind (wpAny_field he hd h1 ?_)
  rw [if_neg (by simp)]
  unfold setFlight
  refine wpAny_bind (wpAny_bind (wpAny_field he hd h1 ?_))
  rw [if_pos (by simp)]
  refine wpAny_setField hT hdT (Array.getElem?_eq_some_iff.mp h3).1 (wpAny_throw ?_)
  obtain ⟨a1, a2, a3, a4, _⟩ := Fly.mark (v := ce.frame.elim .none fun f => rawInt f) k1 k3 he hc hd h1 hnT hTx hT hdT h3
  exact hE _ ⟨a1, k2, a2, _, a3⟩ a4
theorem leaves_any {B : Heap} {env : Env} {outer : List Env} {L x : Addr} {cls a0 : Value} {Q : Unit → Shared → Prop} (hfr : A.frames = some (env :: outer)) (hf : env.frame = some L) (F : Fly B (env :: outer) x cls a0 s.heap)
    (hQ : ∀ h', Heap.FlyingW B outer x cls a0 h' → s.heap.UpToSlots h' → Q () { s with heap := h' }) : wpAny M A (leaving env (.ref x)) Q E s := by
  obtain ⟨k1, k2, k3, fl, oe, vs, T, oT, ts, he, hc, hd, h1, hnT, hTx, hT, hdT, h3⟩ := F
  have fin : ∀ h1, Heap.HeldW B (env :: outer) x cls a0 L h1 → s.heap.UpToSlots h1 → wpAny M A (setFlight (.ref x) none) Q E { s with heap := h1 } := by
    intro h1 hh up
    refine wpAny_landsW (s := { s with heap := h1 }) hh ?_
    intro h2 fw up2
    obtain ⟨f1, f2, ⟨_, _, f3⟩, f4⟩ := fw
    exact hQ h2 ⟨f1, f2, f3, f4⟩ (up.trans up2)
  unfold leaving
  refine wpAny_bind ?_
  unfold noteFrame
  simp only [hf]
  refine wpAny_bind (wpAny_field he hd h1 ?_)
  rw [if_pos (by simp)]
  refine wpAny_bind (wpAny_field hT hdT h3 ?_)
  by_cases hq : (fl == rawInt L) = true
  · rw [if_pos hq]
    have e : fl = rawInt L := eq_of_beq hq
    subst e
    exact wpAny_pure (fin s.heap ⟨k1, k2, k3, oe, vs, T, oT, ts, he, hc, hd, h1, hnT, hTx, hT, hdT, h3⟩ (Heap.UpToSlots.refl _))
  · rw [if_neg hq]
    obtain ⟨a1, a2, a3, a4, a5⟩ := Fly.mark (v := .none) k1 k3 he hc hd h1 hnT hTx hT hdT h3
    refine wpAny_bind (wpAny_setField hT hdT (Array.getElem?_eq_some_iff.mp h3).1 ?_)
    refine wpAny_entryW hfr a2 hf a5 a1 k2 hd (Array.getElem?_eq_some_iff.mp h1).1 hc.2 ?_
    rintro h' ⟨b1, b2, b3, b4⟩
    rw [hc.1] at b3
    exact fin h' ⟨b1, k2, b2, b3⟩ (a4.trans b4)
end
section
variable {prog : Program} {w : World} {A : Around} {R : Result → Shared → Prop} {s : Shared}
theorem compLoopX_go {elt target iter : Expr} {scope : Scope} {pos : Pos} {it acc : Value} {env : Env} (I : Nat → Shared → Prop)
    (turn : ∀ n s, I n s → wpAny (model prog w) A (pyNext it) (fun r s₁ => match r with
      | none => R (.ok .next) s₁
      | some v => wpAny (model prog w) A (letOwnedTupleGo target it v) (fun _ s₀ => wpAny (model prog w) A (assign target env v) (fun _ s₂ => wpAny (model prog w) A (eval elt env) (fun x s₃ =>
          wpAny (model prog w) A (call (.builtin "list.append") [acc, x]) (fun _ s₄ => ∃ m, m < n ∧ I m s₄) (notedBy (model prog w) A env fun e s' => R (.error e) s') s₃) (notedBy (model prog w) A env fun e s' => R (.error e) s') s₂) (notedBy (model prog w) A env fun e s' => R (.error e) s') s₀) (notedBy (model prog w) A env fun e s' => R (.error e) s') s₁) (notedBy (model prog w) A env fun e s' => R (.error e) s') s)
    (n : Nat) (h : I n s) : codeAny (model prog w) A (.compLoop (.ListComp elt [⟨target, iter, [], 0⟩] scope pos) 0 it acc env) R s := by
  refine codeAny_loop rfl I (fun n s hI => ?_) n h
  show wpAny _ _ ((compTurn (.ListComp elt [⟨target, iter, [], 0⟩] scope pos) 0 it acc env).onRaise (fun x => do noteFrame x env; theTreesLotGoes x)) _ _ s
  refine wpAny_noted ?_
  rw [compTurn_list1]
  refine wpAny_bind (wpAny_standAt (wpAny_bind (wpAny_mono (turn n s hI) (fun r s₁ h₁ => ?_) fun _ _ h' => h')))
  cases r with
  | none => exact wpAny_pure h₁
  | some v =>
    refine wpAny_bind (wpAny_mono h₁ (fun _ s₀ h₀ => ?_) fun _ _ h' => h')
    exact wpAny_bind (wpAny_mono h₀ (fun _ s₂ h₂ => wpAny_bind (wpAny_bind (wpAny_mono h₂ (fun x s₃ h₃ => wpAny_bind (wpAny_mono h₃
      (fun _ s₄ h₄ => wpAny_pure (wpAny_pure ⟨rfl, h₄⟩)) fun _ _ h' => h')) fun _ _ h' => h'))) fun _ _ h' => h')
end
def cxCompE (P : Program) (w : World) (X : Cx) (E : XK) (Nc : List Str) (scope : Scope) (cl : List (Str × Addr)) (C : Addr) (s : Shared) (H : Hp) (ex : List Addr) : Cx :=
  (cxComp X Nc scope cl C s H ex).wish fun e s' => ∃ (pins : List (Addr × Obj)) (σ : St) (H1 : Hp) (s1 : Shared), Inv (cxComp X Nc scope cl C s H ex) pins σ H1 s1 ∧ CXw P w X.stack H1 s1 E e s'
theorem passC {P : Program} {w : World} {X : Cx} {E : XK} {Nc : List Str} {scope : Scope} {cl : List (Str × Addr)} {C : Addr} {s : Shared} {H : Hp} {ex : List Addr} : Passes (CXw P w) (cxCompE P w X E Nc scope cl C s H ex) E :=
  fun pins σ H1 s1 e s' I h => ⟨pins, σ, H1, s1, I.unwish, h⟩
theorem frames_but {h h2 B : Heap} {C : Addr} {o : Obj} (bc : B.get? C = some o) (sb : Heap.SameBut C h h2) : ∀ {l : List Env}, h.FunFrames B l → h2.FunFrames B l
  | [], _ => trivial
  | env :: r, ⟨hk, ⟨L, o', hf, hn, ho, hd⟩, hr⟩ => by
    have ne : L ≠ C := by rintro rfl; rw [bc] at hn; cases hn
    exact ⟨hk, ⟨L, o', hf, hn, (sb.2 L ne).trans ho, hd⟩, frames_but bc sb hr⟩
theorem comp_out {P : Program} {w : World} {K : PySem.W.Frag} {mg : Str → Option Value} {base : Heap} {N : List Str} {qual : Str} {sc : Scope} {f : Addr} {cd : Value} {A : Around} {outer : List Env} {s0 : Shared} {H0 : Hp} {E : XK}
    {X : Cx} (hX : X = cxOf (CXw P w) P w K mg base N qual sc f cd A outer s0 H0 E) {pins : List (Addr × Obj)} {σ : St} {H2 : Hp} {s2 : Shared} (I2 : Inv X pins σ H2 s2) {hp3 : Heap} {D C : Addr} {fp : List Addr} {Nc : List Str} {scope : Scope} {cl : List (Str × Addr)}
    {R : Value → Shared → Prop} {acc : Value} (k23 : ∀ b u, s2.heap.get? b = some u → hp3.get? b = some u) (hD : s2.heap.objs.size ≤ D) (hDC : D < C) (f2 : ∀ b ∈ fp, FpOk X pins H2 b) {e : Value} {s' : Shared}
    (z : (cxCompE P w X E Nc scope cl C { s2 with heap := hp3 } H2 (D :: fp)).xe e s') :
    notedBy (model X.prog X.w) X.A (compEnvC scope cl C X.env) (fun e s' => compPost (model X.prog X.w) X.A X.xe none R acc C (.error e) s') e s' := by
  subst hX
  obtain ⟨pins1, σ1, H1, s1, J, x, cls, B, H', a0, rfl, os, bare, fl, un, hokB, kb, tb, q⟩ := z
  have nC : C ∉ frs (cxOf (CXw P w) P w K mg base N qual sc f cd A outer s0 H0 E).stack := by
    intro hb
    obtain ⟨_, o, ho, _⟩ := I2.stack.mem hb
    exact absurd (Nat.lt_trans (Nat.lt_of_lt_of_le (Heap.lt_size ho) hD) hDC) (Nat.lt_irrefl _)
  obtain ⟨m, ⟨oC, es, ep, ho, hd, r⟩, _⟩ := J.loc
  have fC : H1 C = none := J.free
  have bC : B.get? C = some oC := kb C oC ho fC nC
  have fC' : H' C = none := un.free C oC ho fC (by simp)
  show wpAny _ _ (noteFrame (.ref x) (cxOf (CXw P w) P w K mg base N qual sc f cd A outer s0 H0 E).env) _ _ s'
  refine wpAny_looks_onW (L := s0.heap.objs.size) I2.ok.frames rfl fl ?_
  intro h1 held up
  refine ⟨m, up.ns ⟨oC, es, ep, un.keep C oC ho fC nC (by simp), hd, r⟩, ?_⟩
  intro h2 sb ce _
  have sub : (PySem.W.hideAll B [C]).StaysIn B := fun b o q => PySem.W.of_hideAll _ q
  have inB : ∀ b o, (PySem.W.hideAll B [C]).get? b = some o → b ≠ C := by
    rintro b o q rfl
    rw [PySem.W.hideAll_none [b] (by simp)] at q
    cases q
  have outB : ∀ b o, B.get? b = some o → b ≠ C → (PySem.W.hideAll B [C]).get? b = some o := fun b o q n => PySem.W.hideAll_get _ q (by simp [n])
  have fly : Fly (PySem.W.hideAll B [C]) (cxOf (CXw P w) P w K mg base N qual sc f cd A outer s0 H0 E).stack x (.ref cls) a0 h2 := by
    obtain ⟨g1, g2, g3, oe, vs, T, oT, ts, he, hc, hd2, e1, hnT, hTx, hT, hdT, h3⟩ := held
    have xC : x ≠ C := by rintro rfl; rw [bC] at g2; cases g2
    have tC : T ≠ C := by rintro rfl; rw [bC] at hnT; cases hnT
    refine ⟨?_, PySem.W.fresh_of_stays sub g2, PySem.W.funFrames_base sub (frames_but bC sb g3), _, oe, vs, T, oT, ts, ?_, hc, hd2, e1, PySem.W.fresh_of_stays sub hnT, hTx, ?_, hdT, h3⟩
    · intro b o q
      exact (sb.2 b (inB b o q)).trans (g1 b o (sub b o q))
    · exact (sb.2 x xC).trans he
    · exact (sb.2 T tC).trans hT
  refine passOn_any (s := { s' with heap := h2 }) fly ?_
  intro h3 fly3 up3
  refine leaves_any (s := { s' with heap := h3 }) (L := s0.heap.objs.size) I2.ok.frames rfl fly3 ?_
  intro h4 fw up4
  have nx : ∀ {b o}, s0.heap.get? b = some o → b ∉ D :: fp ∧ b ≠ C := by
    intro b o q
    have l1 := Heap.lt_size q
    have l2 : s0.heap.objs.size ≤ s2.heap.objs.size := I2.sz
    have l3 := Nat.lt_of_lt_of_le l1 (Nat.le_trans l2 hD)
    refine ⟨?_, Nat.ne_of_lt (Nat.lt_trans l3 hDC)⟩
    intro hb
    rcases List.mem_cons.mp hb with e2 | hb
    · exact absurd e2 (Nat.ne_of_lt l3)
    · rcases (f2 b hb).2.2.2.1 with z | z
      · exact absurd z (by simp [cxOf])
      · exact absurd l1 (Nat.not_lt.mpr z)
  have keepB : ∀ b o, s0.heap.get? b = some o → H0 b = none → b ∉ frs outer → (PySem.W.hideAll B [C]).get? b = some o := by
    intro b o e1 e2 e3
    have nst := ex_frames I2 e1 e3
    have g1 := k23 b o (I2.base.keep b o e1 e2 e3 (by simp [cxOf]))
    have n1 := I2.base.free b o e1 e2 (by simp [cxOf])
    have g2 := J.base.keep b o g1 n1 nst (nx e1).1
    exact outB b o (kb b o g2 (J.base.free b o g1 n1 (nx e1).1) nst) (nx e1).2
  have thereB : ∀ b o, s0.heap.get? b = some o → b ∉ frs outer → ∃ o', (PySem.W.hideAll B [C]).get? b = some o' := by
    intro b o e1 e3
    obtain ⟨o1, g1⟩ := I2.base.there b o e1 (by simp [cxOf])
    obtain ⟨o2, g2⟩ := J.base.there b o1 (k23 b o1 g1) (nx e1).1
    obtain ⟨o3, g3⟩ := tb b o2 g2 (ex_frames I2 e1 e3)
    exact ⟨o3, outB b o3 g3 (nx e1).2⟩
  have slotF : ∀ b o, s0.heap.get? b = some o → b ∈ frs outer → ∃ sl, h4.get? b = some { o with slots := sl } := by
    intro b o e1 hb
    have hin : b ∈ frs (cxOf (CXw P w) P w K mg base N qual sc f cd A outer s0 H0 E).stack := List.mem_cons_of_mem _ hb
    obtain ⟨sl1, g1⟩ := I2.base.slot b o e1 (I2.ok.frf b hb) hb (by simp [cxOf])
    obtain ⟨_, o2, g1', nf⟩ := I2.stack.mem hin
    rw [g1] at g1'
    cases g1'
    obtain ⟨sl2, g2⟩ := J.base.slot b _ (k23 b _ g1) (I2.stkFree b hin) hin (nx e1).1
    obtain ⟨sl3, g3⟩ := un.slot b _ g2 (J.base.free b _ (k23 b _ g1) (I2.stkFree b hin) (nx e1).1) hin (by simp)
    obtain ⟨sl4, g4⟩ := up b _ g3 nf
    obtain ⟨sl5, g5⟩ := up3 b _ ((sb.2 b (nx e1).2).trans g4) nf
    obtain ⟨sl6, g6⟩ := up4 b _ g5 nf
    exact ⟨sl6, g6⟩
  refine ⟨x, cls, PySem.W.hideAll B [C], H', a0, rfl, os.trans (J.os.trans I2.os), bare, fw, ?_, ?_, keepB, thereB, q⟩
  · refine ⟨?_, ?_, ?_, ?_, ?_, ?_, ?_⟩
    · intro b o e1 e2 e3 _
      exact fw.1 b o (keepB b o e1 e2 e3)
    · intro b o e1 _ e3 _
      exact slotF b o e1 e3
    · intro b o e1 e2 _
      obtain ⟨o1, g1⟩ := I2.base.there b o e1 (by simp [cxOf])
      have n1 := I2.base.free b o e1 e2 (by simp [cxOf])
      obtain ⟨o2, g2⟩ := J.base.there b o1 (k23 b o1 g1) (nx e1).1
      exact un.free b o2 g2 (J.base.free b o1 (k23 b o1 g1) n1 (nx e1).1) (by simp)
    · intro b o e1 _
      by_cases hb : b ∈ frs outer
      · obtain ⟨sl, g⟩ := slotF b o e1 hb
        exact ⟨_, g⟩
      · obtain ⟨o', g⟩ := thereB b o e1 hb
        exact ⟨o', fw.1 b o' g⟩
    · intro b xs e1
      exact un.tups b xs (J.base.tups b xs (I2.base.tups b xs e1))
    · intro b o xs e1
      exact un.frzs b o xs (J.base.frzs b o xs (I2.base.frzs b o xs e1))
    · intro b ps e1
      obtain ⟨m1, g1⟩ := I2.base.tbls b ps e1
      obtain ⟨m2, g2⟩ := J.base.tbls b _ g1
      obtain ⟨m3, g3⟩ := un.tbls b _ g2
      exact ⟨m1 ++ m2 ++ m3, by rw [g3, Array.append_assoc, Array.append_assoc, Array.append_assoc]⟩
  · intro b u e1
    have ne : ∀ c v, H' c = some v → c ≠ C := by
      rintro c v e2 rfl
      rw [fC'] at e2
      cases e2
    refine (hokB b u e1).stay (fun c v hc z => outB c v z ?_) (fun c z => z) fun c xs z => z
    rcases hc with z2 | z2
    · rw [z2]; exact ne b u e1
    · exact ne c _ z2
section
variable {X : Cx} {elt iter : Expr} {x : Str} {px pos : Pos} {scope : Scope} {cl : List (Str × Addr)} {fns : List Str} {ixs : List Nat} {wi : TI} {te : TE}
theorem pe_compX {P : Program} {w : World} {K : PySem.W.Frag} {mg : Str → Option Value} {base : Heap} {N : List Str} {qual : Str} {sc : Scope} {f : Addr} {cd : Value} {A : Around} {outer : List Env} {s0 : Shared} {H0 : Hp} {E : XK}
    (hX : X = cxOf (CXw P w) P w K mg base N qual sc f cd A outer s0 H0 E) (hi : PI X (.Name x px) iter wi) (S : CompScope X x fns ixs scope cl)
    (he : ∀ (C : Addr) (s : Shared) (H : Hp) (ex : List Addr), PE (cxCompE P w X E (x :: fns) scope cl C s H ex) elt te)
    (hs : ∀ x, foldedSetIterable iter X.env x = pure x := by intro _; rfl) :
    PE X (.ListComp elt [⟨.Name x px, iter, [], 0⟩] scope pos) (tComp wi (fvOf ixs) te) := by
  have hc : X.calm = true := by rw [hX]; rfl
  intro pins s σ H Q I h
  rw [eval_ListComp]
  refine wpAny_comprehension_free (use := none) rfl hs S.clos S.kind S.names (thn (hi pins s σ H _ I h) fun v s1 h1 => thn h1 fun itv s2 h2 => ?_)
  obtain ⟨it, fp, tn, J, H2, e, I2, T, st2, f2, W, ⟨m0, w0⟩, turn⟩ := h2
  subst e
  have hfpLt : ∀ b ∈ fp, b < s2.heap.objs.size := fun b hb => by
    obtain ⟨o, ho, _⟩ := T.obj _ _ st2 b hb
    exact Heap.lt_size ho
  refine wpAny_newObj_type (wpAny_newFunctionEnv S.cell (by intro y hy; simp at hy) (fun h₁ hns₁ hsb₁ => ?_) S.kind)
  dsimp only at hns₁ hsb₁ ⊢
  generalize hH3 : s2.heap.push { cls := .type "list", dict := none, data := .seq ([] : List Value).toArray } = hp3 at hns₁ hsb₁ ⊢
  generalize hD : s2.heap.objs.size = D at hfpLt ⊢
  have hC : hp3.objs.size = D + 1 := by rw [← hH3, Heap.size_push, hD]
  generalize hCe : hp3.objs.size = C at hC hns₁ hsb₁ ⊢
  have hDltC : D < C := by omega
  have hDC : D ≠ C := Nat.ne_of_lt hDltC
  have k23 : ∀ b u, s2.heap.get? b = some u → hp3.get? b = some u := fun b u q => by rw [← hH3]; exact Heap.get?_push_of_some _ q
  have ltD : ∀ {b u}, s2.heap.get? b = some u → b < D := fun q => by rw [← hD]; exact Heap.lt_size q
  have k34 : ∀ b u, hp3.get? b = some u → h₁.get? b = some u := fun b u q =>
    hsb₁.extBut b u (Nat.ne_of_lt (Nat.lt_of_lt_of_le (Heap.lt_size q) (Nat.le_of_eq hCe))) (Heap.get?_push_of_some _ q)
  have hDo : hp3.get? D = some { cls := .type "list", dict := none, data := .seq ([] : List Value).toArray } := by rw [← hH3, ← hD]; exact Heap.get?_push_size _ rfl
  have I3 : Inv X pins σ H2 { s2 with heap := hp3 } := I2.kept (t' := s2.toks) k23
  have hnD : H2 D = none := I2.hok.fresh (by omega)
  have hnC : H2 C = none := I2.hok.fresh (by omega)
  have nstk : ∀ b ∈ D :: fp, b ∉ frs X.stack := fun b hb z => by
    rcases List.mem_cons.mp (I2.stkSub b z) with e | z
    · rcases List.mem_cons.mp hb with e2 | hb
      · exact absurd I2.lt (by rw [← e, e2, ← hD]; exact Nat.lt_irrefl _)
      · exact (f2 b hb).2.1 e
    · rcases List.mem_cons.mp hb with e2 | hb
      · exact I2.nofs (by rw [e2, ← hD]; exact Nat.le_refl _) z
      · exact (f2 b hb).2.2.1 z
  have cne : ∀ y c, cl.lookup y = some c → ∀ b ∈ D :: fp, c ≠ b := fun y c q b hb z => by
    obtain ⟨v, hv⟩ := I2.cell y c (S.sub y c q)
    rcases List.mem_cons.mp hb with e2 | hb
    · exact absurd hv.lt (by rw [z, e2, ← hD]; exact Nat.lt_irrefl _)
    · exact (f2 b hb).2.2.2.2.1 y c (S.sub y c q) z
  -- the block's context
  let Xc : Cx := cxCompE P w X E (x :: fns) scope cl C { s2 with heap := hp3 } H2 (D :: fp)
  have ok : Xc.Ok := {
    mod := I2.ok.mod
    kind := S.kind
    glob := I2.ok.glob
    blt := I2.ok.blt
    above := by show hp3.objs.size ≤ C; omega
    inj := fun y z c q1 q2 => I2.ok.inj y z c (S.sub _ _ q1) (S.sub _ _ q2)
    has := S.has
    cab := fun y c q => nomatch q
    hd := I2.ok.hd
    frames := I2.ok.frames
    stk := .inl rfl
    exf := fun b hb => ⟨by
      rcases List.mem_cons.mp hb with e2 | hb
      · rw [e2]; exact hDC
      · exact Nat.ne_of_lt (Nat.lt_trans (hfpLt b hb) hDltC), fun y c q => cne y c q b hb⟩
    bs := I3.bs
    bsz := Nat.le_trans I3.ok.bsz I3.sz
    noex := fun b o q hb => by
      rcases List.mem_cons.mp hb with e2 | hb
      · exact absurd (ltD (I2.bs b o q).1) (by rw [e2]; exact Nat.lt_irrefl _)
      · rcases (f2 b hb).2.2.2.1 with z | z
        · exact I2.ok.noex b o q z
        · exact absurd (Heap.lt_size (I2.ok.bs b o q).1) (Nat.not_lt.mpr z)
    exfs := nstk
    funs := I3.stack
    frf := I3.stkFree }
  have start : ∀ (v0 : Option V) , v0 = none → Inv Xc [(D, { cls := .type "list", dict := none, data := .seq ([] : List Value).toArray })] (v0 :: fvOf ixs σ) H2 { s2 with heap := h₁, toks := s2.toks + ([] : List (Str × Value)).length } := fun v0 hv0 => {
    ok := ok
    os := rfl
    bare := I2.bare
    base := Un.kept k34
    loc := ⟨_, hns₁, fun i y v e1 e2 e3 => by
      cases i with
      | zero => rw [hv0] at e2; cases e2
      | succ j =>
        have e1' : fns[j]? = some y := e1
        have e2' : (fvOf ixs σ)[j]? = some (some v) := e2
        obtain ⟨i, hi1, hi2, hk, c, hc1, hc2⟩ := S.at_ j y e1'
        unfold fvOf at e2'
        rw [List.getElem?_map, hi1] at e2'
        have e3' : σ[i]? = some (some v) := by
          have z : (σ[i]?).join = some v := Option.some.inj e2'
          cases q : σ[i]? with
          | none => rw [q] at z; cases z
          | some o => rw [q] at z; rw [show o = some v from z]
        obtain ⟨m, _, hl⟩ := I2.loc
        obtain ⟨u, r, l⟩ := hl i y v hi2 e3' (hk.elim (fun z => .inr (.inl z)) fun z => .inr (.inr z))
        refine ⟨u, r, .inr ⟨hc2, c, hc1, ?_⟩⟩
        rcases l with ⟨z, _⟩ | ⟨_, c', hc', hcell⟩
        · rcases hk with hk | hk <;> (rw [hk] at z; cases z)
        · have : c' = c := Option.some.inj (hc'.symm.trans (S.sub _ _ hc1))
          subst this
          obtain ⟨o, ho, hd⟩ := hcell
          exact ⟨o, k34 _ _ (k23 _ _ ho), hd⟩⟩
    cell := fun y c q => by
      obtain ⟨v, o, ho, hd⟩ := I2.cell y c (S.sub y c q)
      exact ⟨v, o, k34 _ _ (k23 _ _ ho), hd⟩
    free := hnC
    freeC := fun y c q => I2.freeC y c (S.sub y c q)
    pin := fun p hp => by
      have hp' : p = (D, { cls := .type "list", dict := none, data := .seq ([] : List Value).toArray }) := by simpa [Xc, cxCompE, cxComp] using hp
      subst hp'
      exact ⟨k34 _ _ hDo, hnD, hDC, nstk D (List.mem_cons_self ..), fun v z => nomatch z⟩
    hok := (I2.hok.kept k23).kept k34
    len := by show (v0 :: fvOf ixs σ).length = (x :: fns).length; simp [fvOf, S.len] }
  -- what stays true of the iterator's objects
  have fpc : ∀ {H' : Hp} {pins' : List (Addr × Obj)}, (∀ b ∈ fp, H' b = none) → (∀ p ∈ pins', p.1 = D) → ∀ b ∈ fp, FpOk Xc pins' H' b := fun {H' pins'} hn hp b hb =>
    ⟨hn b hb, Nat.ne_of_lt (Nat.lt_trans (hfpLt b hb) hDltC), nstk b (List.mem_cons_of_mem _ hb), .inl (List.mem_cons_of_mem _ hb), fun y c q => cne y c q b (List.mem_cons_of_mem _ hb), fun p q => by
      have q' : p ∈ pins' := by simpa [Xc, cxCompE, cxComp] using q
      rw [hp p q']
      exact Nat.ne_of_gt (hfpLt b hb)⟩
  have noted : ∀ e s', Xc.xe e s' → notedBy (model X.prog X.w) X.A (compEnvC scope cl C X.env) (fun e s' => compPost (model X.prog X.w) X.A X.xe none (EP X pins σ Q) (.ref D) C (.error e) s') e s' := by
    intro e s' z
    exact comp_out hX I2 k23 (Nat.le_of_eq hD) hDltC f2 z
  have loop : codeAny (model X.prog X.w) X.A (.compLoop (.ListComp elt [⟨.Name x px, iter, [], 0⟩] scope pos) 0 (.ref it) (.ref D) (compEnvC scope cl C X.env))
      (compPost (model X.prog X.w) X.A X.xe none (EP X pins σ Q) (.ref D) C) { s2 with heap := h₁, toks := s2.toks + ([] : List (Str × Value)).length } := by
    refine compLoopX_go (fun n s' => ∃ (i : Nat) (ys : List V) (its : List Value) (nn : Nat) (v0 : Option V) (H' : Hp), Inv Xc [(D, { cls := .type "list", dict := none, data := .seq its.toArray nn })] (v0 :: fvOf ixs σ) H' s' ∧ tn i s'.heap ∧ (∀ b ∈ fp, H' b = none) ∧ Vals ys its ∧ W i n ys H') ?_ m0
      ⟨0, [], [], 0, none, H2, start none rfl, T.keep _ _ _ st2 fun b _ o q => k34 _ _ (k23 _ _ q), fun b hb => (f2 b hb).1, .nil, w0⟩
    rintro n s3 ⟨i, ys, its, nn, v0, H3, J3, tn3, fr3, vv, w3⟩
    have pinD : ∀ p ∈ ([(D, ({ cls := .type "list", dict := none, data := .seq its.toArray nn } : Obj))] : List (Addr × Obj)), p.1 = D := fun p hp => by
      have : p = (D, { cls := .type "list", dict := none, data := .seq its.toArray nn }) := by simpa using hp
      rw [this]
    rcases turn i n ys H3 w3 with ⟨stop, hlen, q⟩ | ⟨go, hlen, step⟩
    · -- the end
      refine thn (T.done Xc rfl rfl rfl hc i _ s3 _ H3 _ J3 (fpc fr3 pinD) tn3 stop) fun r s4 ⟨hr, J4⟩ => ?_
      subst hr
      obtain ⟨m, hn, _⟩ := J4.loc
      refine ⟨m, hn, fun h'' hsb => ?_⟩
      obtain ⟨gD, nD, _, _, _⟩ := J4.pin (D, { cls := .type "list", dict := none, data := .seq its.toArray nn }) (by simp [Xc, cxCompE, cxComp])
      have B := J4.base
      have kC : ∀ b u, b ≠ C → s4.heap.get? b = some u → h''.get? b = some u := fun b u hb q => (hsb.2 b hb).trans q
      have ne : ∀ {b o}, s2.heap.get? b = some o → b ≠ C ∧ b ≠ D := fun q => ⟨Nat.ne_of_lt (Nat.lt_trans (ltD q) hDltC), Nat.ne_of_lt (ltD q)⟩
      have nex : ∀ {b o}, s2.heap.get? b = some o → b ∉ fp → b ∉ D :: fp := fun q hx z => (List.mem_cons.mp z).elim (ne q).2 hx
      have uu : Un (frs X.stack) fp H2 (upd H3 D (.lst ys)) s2.heap h'' := {
        keep := fun b o q n hb hx => kC b o (ne q).1 (B.keep b o (k23 b o q) n hb (nex q hx))
        slot := fun b o q n hb hx => by
          obtain ⟨sl, e⟩ := B.slot b o (k23 b o q) n hb (nex q hx)
          exact ⟨sl, kC b _ (ne q).1 e⟩
        free := fun b o q n hx => by rw [upd_ne (ne q).2]; exact B.free b o (k23 b o q) n (nex q hx)
        there := fun b o q hx => by
          obtain ⟨o', e⟩ := B.there b o (k23 b o q) (nex q hx)
          exact ⟨o', kC b _ (ne q).1 e⟩
        tups := fun b xs q => by rw [upd_ne (ne_of_none q hnD)]; exact B.tups b xs q
        frzs := fun b o xs q => by rw [upd_ne (ne_of_none q hnD)]; exact B.frzs b o xs q
        tbls := fun b ps q => by
          obtain ⟨more, e⟩ := B.tbls b ps q
          exact ⟨more, by rw [upd_ne (ne_of_none q hnD)]; exact e⟩ }
      have hok : HOk X.prog X.w (upd H3 D (.lst ys)) h'' := fun b u e => by
        by_cases hb : b = D
        · subst hb
          rw [upd_same] at e
          cases e
          exact ⟨hlen, its, nn, vv, kC _ _ hDC gD⟩
        · rw [upd_ne hb] at e
          refine (J4.hok b u e).stay (fun c v hc q => kC c v ?_ q) (fun c q => by rw [upd_ne (ne_of_none q nD)]; exact q) fun c xs q => by rw [upd_ne (ne_of_none q nD)]; exact q
          have fC : H3 C = none := J4.free
          rcases hc with rfl | hc
          · exact ne_of_none e fC
          · exact ne_of_none hc fC
      exact ⟨.ref D, _, I2.call' (s' := { s4 with heap := h'' }) J4.os uu hok J4.bare (fun b hb => ⟨(f2 b hb).2.2.2.1, (f2 b hb).2.1, (f2 b hb).2.2.2.2.1, (f2 b hb).2.2.2.2.2⟩), rfl, q D nD⟩
    · -- a turn
      refine thn (T.item Xc rfl rfl rfl hc i _ s3 _ H3 _ J3 (fpc fr3 pinD) tn3 go) fun r s4 ⟨u, hr, h4⟩ => ?_
      subst hr
      refine thn h4 fun _ s5 ⟨xv, H5, J5, r5, y5, tn5, fr5⟩ => ?_
      have J5' := J5.pinned (fpc fr5 pinD) (T.obj _ _ tn5)
      have hg : PG Xc (.Name x px) (gName 0) := pg_name (X := Xc) (i := 0) S.nd rfl (.inl (relabel_own S.own)) (.inr (relabel_own S.own))
      refine wpAny_mono (hg _ s5 _ H5 xv u (fun σ' H' => σ' = some xv :: fvOf ixs σ ∧ H' = H5) J5' r5 ⟨rfl, rfl⟩) (fun _ s6 ⟨σ6, H6, J6, e6, e6'⟩ => ?_) noted
      subst e6 e6'
      refine wpAny_mono (he C { s2 with heap := hp3 } H2 (D :: fp) _ s6 _ H6 _ J6 (step xv H6 y5)) (fun yv s7 ⟨y, H7, J7, r7, m', hm', w7⟩ => ?_) noted
      obtain ⟨gD, nD, _, _, _⟩ := J7.pin (D, { cls := .type "list", dict := none, data := .seq its.toArray nn }) (by simp [Xc, cxCompE, cxComp])
      have tn7 : tn (i + 1) s7.heap := T.keep _ _ _ tn5 fun b hb o e => (J7.pin (b, o) (List.mem_append_right _ (List.mem_append_right _ (mem_pinsAt hb e)))).1
      have fr7 : ∀ b ∈ fp, H7 b = none := fun b hb => by
        obtain ⟨o, e, d⟩ := T.obj _ _ tn5 b hb
        exact (J7.pin (b, o) (List.mem_append_right _ (List.mem_append_right _ (mem_pinsAt hb e)))).2.1
      have J7' : Inv Xc [] (some xv :: fvOf ixs σ) H7 s7 := J7.pins_of fun p hp => nomatch hp
      refine wpAny_list_append_plain (hsz := by rw [List.size_toArray, ← vv.length]; omega) ⟨nn, gD⟩ fun h8 pl8 sb8 => ?_
      obtain ⟨n8, g8⟩ := pl8
      have J8 : Inv Xc [] (some xv :: fvOf ixs σ) H7 { s7 with heap := h8 } := J7'.turned (t' := s7.toks) (it := D) (fun b o hb e => (sb8.2 b hb).trans e) nD (hDC) (.inl (List.mem_cons_self ..))
        (fun y c q => cne y c q D (List.mem_cons_self ..)) (fun p hp => by simp [Xc, cxCompE, cxComp] at hp)
      refine ⟨m', hm', i + 1, ys ++ [y], its ++ [yv], n8, some xv, H7, J8.pins_of fun p hp => ?_, ?_, fr7, vv.append (.cons r7 .nil), w7⟩
      · have : p = (D, { cls := .type "list", dict := none, data := .seq (its ++ [yv]).toArray n8 }) := by simpa using hp
        subst this
        refine ⟨?_, nD, hDC, nstk D (List.mem_cons_self ..), fun v z => nomatch z⟩
        have : its.toArray.push yv = (its ++ [yv]).toArray := by simp
        rw [this] at g8
        exact g8
      · exact T.keep _ _ _ tn7 fun b hb o e => (sb8.2 b (Nat.ne_of_lt (hfpLt b hb))).trans e
  exact codeAny_compStart_list loop (T.self _ 0 _ _ _ (T.keep _ _ _ st2 fun b _ o q => k34 _ _ (k23 _ _ q)) loop)
end
section
variable {X : Cx}
def rRepB : R2 := fun x y H Q => ∃ n : Nat, x = .str (tx [32]) ∧ y = .int n ∧ n ≤ 4 ∧ Q (.str (tx (List.replicate n 32))) H
theorem op_repB : OpR X (binaryOp .Mult) rRepB := by
  intro pins s σ H x y v u Q I rx ry h
  obtain ⟨n, rfl, rfl, hn, q⟩ := h
  obtain ⟨t, rfl⟩ := rx
  obtain ⟨t', rfl⟩ := ry
  have hl : (tx [32]).length = 1 := by rw [tx_len]; rfl
  have h0 : n = 0 ∨ n = 1 ∨ n = 2 ∨ n = 3 ∨ n = 4 := by omega
  refine SB.mul ⟨?_, fun h1 _ => ?_, fun _ _ => ?_⟩ fun tk k => ?_
  · rcases h0 with rfl | rfl | rfl | rfl | rfl <;> rfl
  · rw [hl]
    rcases h0 with rfl | rfl | rfl | rfl | rfl
    · exact absurd h1 (by decide)
    all_goals decide +kernel
  · rw [hl, Nat.one_mul]
    rcases h0 with rfl | rfl | rfl | rfl | rfl <;> decide +kernel
  · have e : PySem.Txt.mul (tx [32]) (n : Int) = tx (List.replicate n 32) := by rcases h0 with rfl | rfl | rfl | rfl | rfl <;> decide +kernel
    rw [e]
    exact ⟨.str (tx (List.replicate n 32)), H, I.tok _, ⟨_, rfl⟩, q⟩
end
end L2
set_option Elab.async false
set_option linter.all false
set_option maxRecDepth 100000
set_option maxHeartbeats 4000000
namespace M4
def runs : List Int → List (Int × Nat)
  | [] => []
  | a :: w => match runs w with
    | [] => [(a, 1)]
    | (b, n) :: r => if a = b then (b, n + 1) :: r else (a, 1) :: (b, n) :: r
theorem runs_head : ∀ {w : List Int} {b : Int} {n : Nat} {r : List (Int × Nat)}, runs w = (b, n) :: r → w.head? = some b
  | [], _, _, _, h => by cases h
  | a :: w, b, n, r, h => by
    unfold runs at h
    cases e : runs w with
    | nil => rw [e] at h; cases h; rfl
    | cons p q =>
      obtain ⟨c, m⟩ := p
      rw [e] at h
      simp only at h
      by_cases hac : a = c
      · rw [if_pos hac] at h; cases h; rw [hac]; rfl
      · rw [if_neg hac] at h; cases h; rfl
theorem runs_nil : ∀ {w : List Int}, runs w = [] → w = []
  | [], _ => rfl
  | a :: w, h => by
    unfold runs at h
    cases e : runs w with
    | nil => rw [e] at h; cases h
    | cons p q =>
      obtain ⟨c, m⟩ := p
      rw [e] at h
      simp only at h
      by_cases hac : a = c
      · rw [if_pos hac] at h; cases h
      · rw [if_neg hac] at h; cases h
theorem runs_rep (a : Int) {w : List Int} (h : w.head? ≠ some a) : ∀ n : Nat, runs (List.replicate (n + 1) a ++ w) = (a, n + 1) :: runs w
  | 0 => by
    show runs (a :: w) = (a, 1) :: runs w
    cases e : runs w with
    | nil => rw [runs, e]
    | cons p q =>
      obtain ⟨c, m⟩ := p
      have hc := runs_head e
      rw [runs, e]
      simp only
      rw [if_neg (fun z => h (by rw [hc, z]))]
  | n + 1 => by
    have ih := runs_rep a h n
    rw [List.replicate_succ, List.cons_append]
    show runs (a :: (List.replicate (n + 1) a ++ w)) = _
    rw [runs, ih]
    simp
theorem runs_len : ∀ w : List Int, (runs w).length ≤ w.length
  | [] => Nat.le_refl _
  | a :: w => by
    have ih := runs_len w
    unfold runs
    cases e : runs w with
    | nil => simp
    | cons p q =>
      obtain ⟨c, m⟩ := p
      rw [e] at ih
      simp only
      by_cases hac : a = c
      · rw [if_pos hac]; simp at ih ⊢; omega
      · rw [if_neg hac]; simp at ih ⊢; omega
theorem runs_mem : ∀ {w : List Int} {p : Int × Nat}, p ∈ runs w → p.1 ∈ w ∧ 1 ≤ p.2 ∧ p.2 ≤ w.length
  | [], p, h => by simp [runs] at h
  | a :: w, p, h => by
    unfold runs at h
    have ih := @runs_mem w
    cases e : runs w with
    | nil => rw [e] at h; simp at h; subst h; simp
    | cons q r =>
      obtain ⟨c, m⟩ := q
      rw [e] at h ih
      simp only at h
      by_cases hac : a = c
      · rw [if_pos hac] at h
        rcases List.mem_cons.mp h with h | h
        · subst h
          have := ih (p := (c, m)) (List.mem_cons_self ..)
          refine ⟨List.mem_cons_of_mem _ this.1, by simp, ?_⟩
          have := this.2.2
          simp at this ⊢
          omega
        · have := ih (p := p) (List.mem_cons_of_mem _ h)
          exact ⟨List.mem_cons_of_mem _ this.1, this.2.1, by simp; omega⟩
      · rw [if_neg hac] at h
        rcases List.mem_cons.mp h with h | h
        · subst h; simp
        · have := ih (p := p) h
          exact ⟨List.mem_cons_of_mem _ this.1, this.2.1, by simp; omega⟩
theorem drop_rep {ws : List Int} {a : Int} : ∀ (n i : Nat), (∀ j, i ≤ j → j < i + n → ws[j]? = some a) → ws.drop i = List.replicate n a ++ ws.drop (i + n)
  | 0, i, _ => by simp
  | n + 1, i, h => by
    have h0 := h i (Nat.le_refl _) (by omega)
    have hi : i < ws.length := (List.getElem?_eq_some_iff.mp h0).1
    have e : ws[i] = a := (List.getElem?_eq_some_iff.mp h0).2
    rw [List.drop_eq_getElem_cons hi, e, List.replicate_succ, List.cons_append, drop_rep n (i + 1) fun j h1 h2 => h j (by omega) (by omega)]
    rw [show i + 1 + n = i + (n + 1) by omega]
theorem head_drop {ws : List Int} {i : Nat} : (ws.drop i).head? = ws[i]? := by
  rw [List.head?_drop]
theorem runs_at {ws : List Int} {i e : Nat} {a : Int} (hlt : i < e) (h : ∀ j, i ≤ j → j < e → ws[j]? = some a) (hn : ws[e]? ≠ some a) : runs (ws.drop i) = (a, e - i) :: runs (ws.drop e) := by
  have := drop_rep (ws := ws) (a := a) (e - i) i (fun j h1 h2 => h j h1 (by omega))
  rw [this, show i + (e - i) = e by omega]
  have e1 : e - i = (e - i - 1) + 1 := by omega
  rw [e1]
  rw [runs_rep a (by rw [head_drop]; exact hn)]
theorem len_flat {α : Type} {k : Nat} : ∀ {ls : List (List α)}, (∀ l ∈ ls, l.length ≤ k) → ls.flatten.length ≤ k * ls.length
  | [], _ => by simp
  | l :: ls, h => by
    have := len_flat (ls := ls) fun m hm => h m (List.mem_cons_of_mem _ hm)
    have h1 := h l (List.mem_cons_self ..)
    simp only [List.flatten_cons, List.length_append, List.length_cons, Nat.mul_succ]
    omega
theorem perm_take {α : Type} {l : List α} {i : Nat} {c : α} (h : l[i]? = some c) : l.Perm (c :: (l.take i ++ l.drop (i + 1))) := by
  have hi : i < l.length := (List.getElem?_eq_some_iff.mp h).1
  have e : l[i] = c := (List.getElem?_eq_some_iff.mp h).2
  have : l = l.take i ++ c :: l.drop (i + 1) := by
    rw [← e, ← List.drop_eq_getElem_cons hi, List.take_append_drop]
  exact (List.Perm.of_eq this).trans List.perm_middle
theorem perm_step {α : Type} {nm l all : List α} {i : Nat} {c : α} (hp : (nm ++ l).Perm all) (h : l[i]? = some c) : ((nm ++ [c]) ++ (l.take i ++ l.drop (i + 1))).Perm all := by
  refine List.Perm.trans ?_ hp
  rw [List.append_assoc]
  exact List.Perm.append_left nm (perm_take h).symm
end M4
namespace M5
abbrev Base := Nat → Option (List Int)
def isFig (c : Nat) : Bool := decide (48 ≤ c) && decide (c ≤ 57)
def okFigs (fs : List Nat) : Bool := !fs.isEmpty && decide (fs.length ≤ 3) && (decide (fs.head? ≠ some 48) || decide (fs = [48]))
def figVal (fs : List Nat) : Nat := fs.foldl (fun v c => 10 * v + (c - 48)) 0
def pow (t : List Nat) : Option (Int × List Nat) := match t with
  | 94 :: 45 :: r => if okFigs (r.takeWhile isFig) then some (-(figVal (r.takeWhile isFig) : Int), r.dropWhile isFig) else none
  | 94 :: r => if okFigs (r.takeWhile isFig) then some ((figVal (r.takeWhile isFig) : Int), r.dropWhile isFig) else none
  | t => some (1, t)
theorem drop_le (p : Nat → Bool) : ∀ l : List Nat, (l.dropWhile p).length ≤ l.length
  | [] => Nat.le_refl _
  | a :: l => by
    rw [List.dropWhile_cons]
    split
    · have := drop_le p l; simp only [List.length_cons]; omega
    · exact Nat.le_refl _
theorem pow_le {t r : List Nat} {p : Int} (h : pow t = some (p, r)) : r.length ≤ t.length := by
  unfold pow at h
  split at h
  · rename_i q
    split at h
    · injection h with h; injection h with h1 h2; subst h2
      have := drop_le isFig q; simp only [List.length_cons]; omega
    · cases h
  · rename_i q _
    split at h
    · injection h with h; injection h with h1 h2; subst h2
      have := drop_le isFig q; simp only [List.length_cons]; omega
    · cases h
  · injection h with h; injection h with h1 h2; subst h2; exact Nat.le_refl _
def bad (f : Base) (c : Nat) : Bool := (f c).isNone && decide (c ≠ 40) && decide (c ≠ 41)
def marks (f : Base) : List Nat → Option (List (Nat × Int))
  | [] => some []
  | c :: t => if bad f c then none else
    if c = 40 then (marks f t).map ((c, 1) :: ·) else
    match h : pow t with
    | none => none
    | some (p, r) => (marks f r).map ((c, p) :: ·)
termination_by t => t.length
decreasing_by
  · simp
  · have := pow_le h; simp only [List.length_cons]; omega
theorem marks_nil (f : Base) : marks f [] = some [] := by rw [marks]
theorem marks_bad {f : Base} {c : Nat} {t : List Nat} (h : bad f c = true) : marks f (c :: t) = none := by rw [marks, if_pos h]
theorem marks_open {f : Base} {t : List Nat} : marks f (40 :: t) = (marks f t).map ((40, 1) :: ·) := by
  rw [marks, if_neg (by simp [bad]), if_pos rfl]
theorem marks_sign {f : Base} {c : Nat} {t r : List Nat} {p : Int} (h : bad f c = false) (hc : c ≠ 40) (hp : pow t = some (p, r)) : marks f (c :: t) = (marks f r).map ((c, p) :: ·) := by
  rw [marks, if_neg (by rw [h]; exact Bool.false_ne_true), if_neg hc]
  split
  · rename_i h2; rw [hp] at h2; cases h2
  · rename_i p' r' h2; rw [hp] at h2; injection h2 with h2; injection h2 with h3 h4; subst h3; subst h4; rfl
theorem marks_pow {f : Base} {c : Nat} {t : List Nat} (h : bad f c = false) (hc : c ≠ 40) (hp : pow t = none) : marks f (c :: t) = none := by
  rw [marks, if_neg (by rw [h]; exact Bool.false_ne_true), if_neg hc]
  split
  · rfl
  · rename_i p' r' h2; rw [hp] at h2; cases h2
def chk : List (Nat × Int) → Nat → Nat → Bool
  | [], d, a => decide (d = 0) && decide (a ≠ 40)
  | (c, _) :: r, d, a => if c = 40 then chk r (d + 1) 40 else if c = 41 then decide (d ≠ 0) && decide (a ≠ 40) && chk r (d - 1) 41 else chk r d c
def backW (w : List Int) : List Int := w.reverse.map fun z => -z
def raiseW (b : List Int) (p : Int) : List Int := if p < 0 then (List.replicate (-p).toNat (backW b)).flatten else (List.replicate p.toNat b).flatten
def withP (w b : List Int) (p : Int) : Option (List Int) := if w.length + b.length * p.natAbs > 200 then none else some (w ++ raiseW b p)
def clo (p : Int) : List (List Int) → Option (List (List Int))
  | b :: w :: st => (withP w b p).map (· :: st)
  | _ => none
def sig (b : List Int) (p : Int) : List (List Int) → Option (List (List Int))
  | w :: st => (withP w b p).map (· :: st)
  | _ => none
def wrd (f : Base) : List (Nat × Int) → List (List Int) → Option (List Int)
  | [], st => st.getLast?
  | (c, p) :: r, st => if c = 40 then wrd f r ([] :: st) else if c = 41 then (clo p st).bind (wrd f r) else (sig ((f c).getD []) p st).bind (wrd f r)
inductive Res where
  | word (w : List Int)
  | noWord
  | tooLong
def readM (f : Base) (t : List Nat) : Res := match marks f t with
  | none => .noWord
  | some m => if chk m 0 40 then (match wrd f m [[]] with
    | none => .tooLong
    | some w => .word w) else .noWord
def okNext (r : List Nat) : Prop := ∀ c, r.head? = some c → c ≠ 94 ∧ isFig c = false
theorem okNext_nil : okNext [] := fun c h => by cases h
theorem okNext_cons {c : Nat} {r : List Nat} (h : c ≠ 94) (h2 : isFig c = false) : okNext (c :: r) := fun d e => by
  have : c = d := Option.some.inj e
  subst this
  exact ⟨h, h2⟩
def Lex (f : Base) (t : List Nat) (M : List (Nat × Int)) : Prop := ∀ r, okNext r → marks f (t ++ r) = (marks f r).map (M ++ ·)
theorem Lex.nil (f : Base) : Lex f [] [] := fun r _ => by
  cases e : marks f r with
  | none => simp [e]
  | some m => simp [e]
theorem Lex.append {f : Base} {t u : List Nat} {M L : List (Nat × Int)} (h : Lex f t M) (h2 : Lex f u L) (hu : ∀ r, okNext r → okNext (u ++ r)) : Lex f (t ++ u) (M ++ L) := fun r hr => by
  rw [List.append_assoc, h _ (hu r hr), h2 r hr]
  cases e : marks f r with
  | none => rfl
  | some m => simp
theorem Lex.whole {f : Base} {t : List Nat} {M : List (Nat × Int)} (h : Lex f t M) : marks f t = some M := by
  have := h [] okNext_nil
  rw [List.append_nil, marks_nil] at this
  simpa using this
theorem pow_next {r : List Nat} (h : okNext r) : pow r = some (1, r) := by
  unfold pow
  split
  · exact absurd rfl (h 94 rfl).1
  · exact absurd rfl (h 94 rfl).1
  · rfl
theorem take_figs {fs r : List Nat} (hf : fs.all isFig = true) (h : okNext r) : (fs ++ r).takeWhile isFig = fs ∧ (fs ++ r).dropWhile isFig = r := by
  induction fs with
  | nil =>
    cases r with
    | nil => exact ⟨rfl, rfl⟩
    | cons c r =>
      have := (h c rfl).2
      rw [List.nil_append, List.takeWhile_cons, List.dropWhile_cons, if_neg (by rw [this]; exact Bool.false_ne_true), if_neg (by rw [this]; exact Bool.false_ne_true)]
      exact ⟨rfl, rfl⟩
  | cons c fs ih =>
    rw [List.all_cons, Bool.and_eq_true] at hf
    have := ih hf.2
    rw [List.cons_append, List.takeWhile_cons, List.dropWhile_cons, if_pos hf.1, if_pos hf.1, this.1, this.2]
    exact ⟨rfl, rfl⟩
theorem pow_figs {fs r : List Nat} (hf : fs.all isFig = true) (ho : okFigs fs = true) (h : okNext r) : pow (94 :: (fs ++ r)) = some ((figVal fs : Int), r) := by
  have e := take_figs hf h
  have hne : ∀ q, fs ++ r ≠ 45 :: q := fun q z => by
    cases fs with
    | nil => simp [okFigs] at ho
    | cons c fs =>
      rw [List.cons_append] at z
      injection z with z1 z2
      subst z1
      rw [List.all_cons, Bool.and_eq_true] at hf
      exact absurd hf.1 (by decide)
  unfold pow
  split
  · rename_i q heq
    injection heq with _ heq
    exact absurd heq (hne q)
  · rename_i q _ heq
    injection heq with _ heq
    rw [← heq, e.1, e.2, if_pos ho]
  · rename_i h1 h2
    exact absurd rfl (h2 (fs ++ r))
theorem pow_minus {fs r : List Nat} (hf : fs.all isFig = true) (ho : okFigs fs = true) (h : okNext r) : pow (94 :: 45 :: (fs ++ r)) = some (-(figVal fs : Int), r) := by
  have e := take_figs hf h
  unfold pow
  simp only
  rw [e.1, e.2, if_pos ho]
inductive Tail : List Nat → Int → Prop
  | none : Tail [] 1
  | pos {fs : List Nat} (hf : fs.all isFig = true) (ho : okFigs fs = true) : Tail (94 :: fs) (figVal fs : Int)
  | neg {fs : List Nat} (hf : fs.all isFig = true) (ho : okFigs fs = true) : Tail (94 :: 45 :: fs) (-(figVal fs : Int))
theorem Tail.pow {t r : List Nat} {p : Int} (h : Tail t p) (hr : okNext r) : pow (t ++ r) = some (p, r) := by
  cases h with
  | none => exact pow_next hr
  | pos hf ho => exact pow_figs hf ho hr
  | neg hf ho => exact pow_minus hf ho hr
theorem Lex.sign {f : Base} {c : Nat} {t : List Nat} {p : Int} (hb : bad f c = false) (hc : c ≠ 40) (ht : Tail t p) : Lex f (c :: t) [(c, p)] := fun r hr => by
  rw [List.cons_append, marks_sign hb hc (ht.pow hr)]
  rfl
theorem Lex.bracket {f : Base} {t u : List Nat} {M : List (Nat × Int)} {p : Int} (h : Lex f t M) (hu : Tail u p) : Lex f (40 :: (t ++ 41 :: u)) ((40, 1) :: (M ++ [(41, p)])) := fun r hr => by
  have e : 40 :: (t ++ 41 :: u) ++ r = 40 :: (t ++ (41 :: (u ++ r))) := by simp
  rw [e, marks_open, h _ (okNext_cons (by decide) (by decide)), marks_sign (by simp [bad]) (by decide) (hu.pow hr)]
  cases e : marks f r with
  | none => rfl
  | some m => simp
theorem raise_len (b : List Int) (p : Int) : (raiseW b p).length = b.length * p.natAbs := by
  have h : ∀ (n : Nat) (l : List Int), (List.replicate n l).flatten.length = n * l.length := fun n l => by
    rw [List.length_flatten, List.map_replicate, List.sum_replicate_nat]
  have hb : (backW b).length = b.length := by unfold backW; rw [List.length_map, List.length_reverse]
  unfold raiseW
  split
  · rw [h, hb, Nat.mul_comm]; congr 1; omega
  · rw [h, Nat.mul_comm]; congr 1; omega
theorem withP_ok {w b : List Int} {p : Int} (h : w.length + (raiseW b p).length ≤ 200) : withP w b p = some (w ++ raiseW b p) := by
  unfold withP
  rw [raise_len] at h
  rw [if_neg (by omega)]
structure Bal (f : Base) (M : List (Nat × Int)) (w : List Int) : Prop where
  chk : ∀ r d a, ∃ a', a' ≠ 40 ∧ chk (M ++ r) d a = chk r d a'
  wrd : ∀ r top st, top.length + w.length ≤ 200 → wrd f (M ++ r) (top :: st) = wrd f r ((top ++ w) :: st)
theorem Bal.sign {f : Base} {c : Nat} {p : Int} {b : List Int} (h40 : c ≠ 40) (h41 : c ≠ 41) (hf : f c = some b) : Bal f [(c, p)] (raiseW b p) where
  chk := fun r d a => ⟨c, h40, by
    show M5.chk ((c, p) :: r) d a = _
    rw [M5.chk, if_neg h40, if_neg h41]⟩
  wrd := fun r top st h => by
    show M5.wrd f ((c, p) :: r) (top :: st) = _
    rw [M5.wrd, if_neg h40, if_neg h41, hf, sig, Option.getD_some, withP_ok h]
    rfl
theorem Bal.append {f : Base} {M L : List (Nat × Int)} {u v : List Int} (h : Bal f M u) (h2 : Bal f L v) : Bal f (M ++ L) (u ++ v) where
  chk := fun r d a => by
    rw [List.append_assoc]
    obtain ⟨a1, _, e1⟩ := h.chk (L ++ r) d a
    obtain ⟨a2, n2, e2⟩ := h2.chk r d a1
    exact ⟨a2, n2, e1.trans e2⟩
  wrd := fun r top st hl => by
    rw [List.length_append] at hl
    rw [List.append_assoc, h.wrd _ _ _ (by omega), h2.wrd _ _ _ (by rw [List.length_append]; omega), List.append_assoc]
theorem Bal.bracket {f : Base} {M : List (Nat × Int)} {w : List Int} {p : Int} (h : Bal f M w) (hw : w.length ≤ 200) : Bal f ((40, 1) :: (M ++ [(41, p)])) (raiseW w p) where
  chk := fun r d a => ⟨41, by decide, by
    show M5.chk ((40, 1) :: ((M ++ [(41, p)]) ++ r)) d a = _
    rw [M5.chk, if_pos rfl, List.append_assoc]
    obtain ⟨a1, n1, e1⟩ := h.chk ([(41, p)] ++ r) (d + 1) 40
    rw [e1]
    show M5.chk ((41, p) :: r) (d + 1) a1 = _
    rw [M5.chk, if_neg (by decide), if_pos rfl]
    simp [n1]⟩
  wrd := fun r top st hl => by
    show M5.wrd f ((40, 1) :: ((M ++ [(41, p)]) ++ r)) (top :: st) = _
    rw [M5.wrd, if_pos rfl, List.append_assoc, h.wrd _ _ _ (by simpa using hw), List.nil_append]
    show M5.wrd f ((41, p) :: r) (w :: top :: st) = _
    rw [M5.wrd, if_neg (by decide), if_pos rfl, clo, withP_ok hl]
    rfl
theorem read_bal {f : Base} {t : List Nat} {M : List (Nat × Int)} {w : List Int} (hl : Lex f t M) (hb : Bal f M w) (hw : w.length ≤ 200) : readM f t = .word w := by
  unfold readM
  rw [hl.whole]
  have e1 : chk M 0 40 = true := by
    obtain ⟨a, na, e⟩ := hb.chk [] 0 40
    rw [List.append_nil] at e
    rw [e]
    simp [chk, na]
  have e2 : wrd f M [[]] = some w := by
    have := hb.wrd [] [] [] (by simpa using hw)
    rw [List.append_nil] at this
    rw [this]
    rfl
  simp only [e1, e2, if_pos]
def putB (f : Base) (c : Nat) (n : Int) : Base := fun x => if x = c - 32 then some [-n] else if x = c then some [n] else f x
def bases : List Nat → Int → Base → Base
  | [], _, f => f
  | c :: nm, n, f => bases nm (n + 1) (putB f c n)
def base0 : Base := fun x => if x = 49 then some [] else none
def baseOf (nm : List Nat) : Base := bases nm 1 base0
theorem bases_other {nm : List Nat} {x : Nat} : ∀ {n : Int} {f : Base}, (∀ c ∈ nm, x ≠ c ∧ x ≠ c - 32) → bases nm n f x = f x := by
  induction nm with
  | nil => intro n f _; rfl
  | cons c nm ih =>
    intro n f h
    rw [bases, ih fun d hd => h d (List.mem_cons_of_mem _ hd)]
    have := h c (List.mem_cons_self ..)
    unfold putB
    rw [if_neg this.2, if_neg this.1]
theorem bases_at {nm : List Nat} : ∀ {n : Int} {f : Base} {i : Nat} {c : Nat}, (∀ c ∈ nm, 97 ≤ c ∧ c < 123) → nm.Nodup → nm[i]? = some c → bases nm n f c = some [n + i] ∧ bases nm n f (c - 32) = some [-(n + i)] := by
  induction nm with
  | nil => intro n f i c _ _ h; simp at h
  | cons d nm ih =>
    intro n f i c hl hn h
    have hd := hl d (List.mem_cons_self ..)
    have hn' := List.nodup_cons.mp hn
    cases i with
    | zero =>
      have e : d = c := by simpa using h
      subst e
      have h1 : ∀ x ∈ nm, d ≠ x ∧ d ≠ x - 32 := fun x hx => by
        have := hl x (List.mem_cons_of_mem _ hx)
        exact ⟨fun z => hn'.1 (z ▸ hx), by omega⟩
      have h2 : ∀ x ∈ nm, d - 32 ≠ x ∧ d - 32 ≠ x - 32 := fun x hx => by
        have := hl x (List.mem_cons_of_mem _ hx)
        have := (h1 x hx).1
        omega
      rw [bases, bases_other h1, bases_other h2]
      unfold putB
      rw [if_neg (by omega), if_pos rfl, if_pos rfl]
      simp
    | succ i =>
      have := ih (n := n + 1) (f := putB f d n) (i := i) (c := c) (fun x hx => hl x (List.mem_cons_of_mem _ hx)) hn'.2 (by simpa using h)
      rw [bases, this.1, this.2]
      have e : n + 1 + (i : Int) = n + ((i + 1 : Nat) : Int) := by omega
      rw [e]
      exact ⟨rfl, rfl⟩
theorem base_one {nm : List Nat} (hl : ∀ c ∈ nm, 97 ≤ c ∧ c < 123) : baseOf nm 49 = some [] := by
  unfold baseOf
  rw [bases_other fun c hc => by have := hl c hc; omega]
  rfl
theorem tw_all (p : Nat → Bool) : ∀ l : List Nat, (l.takeWhile p).all p = true
  | [] => rfl
  | a :: l => by
    rw [List.takeWhile_cons]
    split
    · rename_i h; rw [List.all_cons, h, tw_all p l]; rfl
    · rfl
theorem pow_tail {t r : List Nat} {p : Int} (h : pow t = some (p, r)) : ∃ u, t = u ++ r ∧ Tail u p := by
  unfold pow at h
  split at h
  · rename_i q
    split at h
    · rename_i ho
      injection h with h; injection h with h1 h2; subst h1; subst h2
      exact ⟨94 :: 45 :: q.takeWhile isFig, by rw [List.cons_append, List.cons_append, List.takeWhile_append_dropWhile], .neg (tw_all _ _) ho⟩
    · cases h
  · rename_i q _
    split at h
    · rename_i ho
      injection h with h; injection h with h1 h2; subst h1; subst h2
      exact ⟨94 :: q.takeWhile isFig, by rw [List.cons_append, List.takeWhile_append_dropWhile], .pos (tw_all _ _) ho⟩
    · cases h
  · injection h with h; injection h with h1 h2; subst h1; subst h2
    exact ⟨[], rfl, .none⟩
theorem figs_split {fs : List Nat} (hf : fs.all isFig = true) (ho : okFigs fs = true) : (∃ a, a < 10 ∧ fs = [a + 48]) ∨ (∃ a b, a < 10 ∧ b < 10 ∧ fs = [a + 48, b + 48]) ∨ ∃ a b c, a < 10 ∧ b < 10 ∧ c < 10 ∧ fs = [a + 48, b + 48, c + 48] := by
  have fig : ∀ c, isFig c = true → ∃ a, a < 10 ∧ c = a + 48 := fun c h => by
    simp [isFig] at h
    exact ⟨c - 48, by omega, by omega⟩
  unfold okFigs at ho
  rw [Bool.and_eq_true, Bool.and_eq_true, decide_eq_true_iff] at ho
  match fs, hf, ho with
  | [], _, ho => simp at ho
  | [x], hf, _ =>
    simp at hf
    obtain ⟨a, ha, rfl⟩ := fig x hf
    exact .inl ⟨a, ha, rfl⟩
  | [x, y], hf, _ =>
    simp at hf
    obtain ⟨a, ha, rfl⟩ := fig x hf.1
    obtain ⟨b, hb, rfl⟩ := fig y hf.2
    exact .inr (.inl ⟨a, b, ha, hb, rfl⟩)
  | [x, y, z], hf, _ =>
    simp at hf
    obtain ⟨a, ha, rfl⟩ := fig x hf.1
    obtain ⟨b, hb, rfl⟩ := fig y hf.2.1
    obtain ⟨c, hc, rfl⟩ := fig z hf.2.2
    exact .inr (.inr ⟨a, b, c, ha, hb, hc, rfl⟩)
  | x :: y :: z :: q :: r, _, ho =>
    have := ho.1.2
    simp at this
theorem figVal1 (a : Nat) : figVal [a + 48] = a := by simp [figVal]
theorem figVal2 (a b : Nat) : figVal [a + 48, b + 48] = 10 * a + b := by simp [figVal]
theorem figVal3 (a b c : Nat) : figVal [a + 48, b + 48, c + 48] = 100 * a + 10 * b + c := by simp [figVal]; omega
theorem figVal_le {fs : List Nat} (hf : fs.all isFig = true) (ho : okFigs fs = true) : figVal fs ≤ 999 := by
  rcases figs_split hf ho with ⟨a, ha, rfl⟩ | ⟨a, b, ha, hb, rfl⟩ | ⟨a, b, c, ha, hb, hc, rfl⟩
  · rw [figVal1]; omega
  · rw [figVal2]; omega
  · rw [figVal3]; omega
theorem Tail.le {u : List Nat} {p : Int} (h : Tail u p) : p.natAbs ≤ 999 := by
  cases h with
  | none => decide
  | pos hf ho => have := figVal_le hf ho; omega
  | neg hf ho => have := figVal_le hf ho; omega
theorem marks_cons {f : Base} {c : Nat} {t : List Nat} {M : List (Nat × Int)} (h : marks f (c :: t) = some M) : bad f c = false ∧ ∃ u r p L, t = u ++ r ∧ Tail u p ∧ (c = 40 → u = []) ∧ (c ≠ 40 → pow t = some (p, r)) ∧ marks f r = some L ∧ M = (c, p) :: L := by
  cases hb : bad f c with
  | true => rw [marks_bad hb] at h; cases h
  | false =>
    refine ⟨rfl, ?_⟩
    by_cases hc : c = 40
    · subst hc
      rw [marks_open] at h
      cases e : marks f t with
      | none => rw [e] at h; cases h
      | some L => rw [e] at h; cases h; exact ⟨[], t, 1, L, rfl, .none, fun _ => rfl, fun z => absurd rfl z, e, rfl⟩
    · cases hp : pow t with
      | none => rw [marks_pow hb hc hp] at h; cases h
      | some q =>
        obtain ⟨p, r⟩ := q
        obtain ⟨u, hu, ht⟩ := pow_tail hp
        rw [marks_sign hb hc hp] at h
        cases e : marks f r with
        | none => rw [e] at h; cases h
        | some L => rw [e] at h; cases h; exact ⟨u, r, p, L, hu, ht, fun z => absurd z hc, fun _ => rfl, e, rfl⟩
theorem span_at {t : List Nat} {i : Nat} : ∀ {n : Nat}, (∀ j, i ≤ j → j < i + n → ∃ c, t[j]? = some c ∧ isFig c = true) → (∀ c, t[i + n]? = some c → isFig c = false) →
    (t.drop i).takeWhile isFig = (t.drop i).take n ∧ (t.drop i).dropWhile isFig = t.drop (i + n) := by
  intro n
  induction n generalizing i with
  | zero =>
    intro _ hn
    cases e : t.drop i with
    | nil =>
      exact ⟨rfl, rfl⟩
    | cons c r =>
      have hc : t[i]? = some c := by rw [← List.head?_drop, e]; rfl
      have := hn c hc
      rw [List.takeWhile_cons, List.dropWhile_cons, if_neg (by rw [this]; exact Bool.false_ne_true), if_neg (by rw [this]; exact Bool.false_ne_true)]
      exact ⟨rfl, rfl⟩
  | succ n ih =>
    intro h hn
    obtain ⟨c, hc, hf⟩ := h i (Nat.le_refl _) (by omega)
    have hi : i < t.length := (List.getElem?_eq_some_iff.mp hc).1
    have ec : t[i] = c := (List.getElem?_eq_some_iff.mp hc).2
    have := ih (i := i + 1) (fun j h1 h2 => h j (by omega) (by omega)) (fun d hd => hn d (by rw [show i + (n + 1) = i + 1 + n by omega]; exact hd))
    rw [List.drop_eq_getElem_cons hi, ec, List.takeWhile_cons, List.dropWhile_cons, if_pos hf, if_pos hf, this.1, this.2, List.take_succ_cons]
    exact ⟨rfl, by rw [show i + 1 + n = i + (n + 1) by omega]⟩
theorem marks_all {f : Base} : ∀ (n : Nat) {t : List Nat} {M : List (Nat × Int)}, t.length ≤ n → marks f t = some M → M.length ≤ t.length ∧ ∀ m ∈ M, m.2.natAbs ≤ 999 ∧ bad f m.1 = false := by
  intro n
  induction n with
  | zero =>
    intro t M hl h
    have e : t = [] := List.eq_nil_of_length_eq_zero (by omega)
    subst e
    rw [marks_nil] at h
    cases h
    exact ⟨Nat.le_refl _, fun m hm => by cases hm⟩
  | succ n ih =>
    intro t M hl h
    cases t with
    | nil => rw [marks_nil] at h; cases h; exact ⟨Nat.le_refl _, fun m hm => by cases hm⟩
    | cons c t =>
      obtain ⟨hb, u, r, p, L, ht, hT, _, _, hL, rfl⟩ := marks_cons h
      have hrl : r.length ≤ t.length := by rw [ht, List.length_append]; omega
      have hl' : t.length ≤ n := by simpa using hl
      obtain ⟨h1, h2⟩ := ih (t := r) (M := L) (by omega) hL
      refine ⟨by simp only [List.length_cons]; omega, fun m hm => ?_⟩
      rcases List.mem_cons.mp hm with e | hm
      · subst e; exact ⟨hT.le, hb⟩
      · exact h2 m hm
theorem pow_else {t : List Nat} (h : t.head? ≠ some 94) : pow t = some (1, t) := by
  unfold pow
  split
  · exact absurd rfl h
  · exact absurd rfl h
  · rfl
theorem bases_len {x : Nat} {b : List Int} : ∀ (nm : List Nat) {n : Int} {f : Base}, (∀ x b, f x = some b → b.length ≤ 1) → bases nm n f x = some b → b.length ≤ 1
  | [], _, _, hf, h => hf _ _ h
  | c :: nm, n, f, hf, h => bases_len nm (f := putB f c n) (fun y b hy => by
      unfold putB at hy
      split at hy
      · cases hy; exact Nat.le_refl _
      · split at hy
        · cases hy; exact Nat.le_refl _
        · exact hf _ _ hy) h
theorem base_len {nm : List Nat} {x : Nat} {b : List Int} (h : baseOf nm x = some b) : b.length ≤ 1 := bases_len nm (fun x b hx => by
  unfold base0 at hx
  split at hx
  · cases hx; exact Nat.zero_le _
  · cases hx) h
theorem fig_mem (c : Nat) : c ∈ ([48, 49, 50, 51, 52, 53, 54, 55, 56, 57] : List Nat) ↔ isFig c = true := by
  simp [isFig]
  omega
end M5
namespace M5
def nx (b : Bool) (r : List Nat) : Prop := ∀ c, r.head? = some c → c ≠ 94 ∧ (b = true → isFig c = false)
theorem nx_cons {b : Bool} {c : Nat} {r : List Nat} (h : c ≠ 94) (h2 : b = true → isFig c = false) : nx b (c :: r) := fun d e => by
  have : c = d := Option.some.inj e
  subst this
  exact ⟨h, h2⟩
def LexB (f : Base) (b : Bool) (t : List Nat) (M : List (Nat × Int)) : Prop := ∀ r, nx b r → marks f (t ++ r) = (marks f r).map (M ++ ·)
theorem LexB.append {f : Base} {b b' : Bool} {t u : List Nat} {M L : List (Nat × Int)} (h : LexB f b t M) (h2 : LexB f b' u L) (hu : ∀ r, nx b (u ++ r)) : LexB f b' (t ++ u) (M ++ L) := fun r hr => by
  rw [List.append_assoc, h _ (hu r), h2 r hr]
  cases e : marks f r with
  | none => rfl
  | some m => simp
inductive TailB : Bool → List Nat → Int → Prop
  | none : TailB false [] 1
  | pos {fs : List Nat} (hf : fs.all isFig = true) (ho : okFigs fs = true) : TailB true (94 :: fs) (figVal fs : Int)
  | neg {fs : List Nat} (hf : fs.all isFig = true) (ho : okFigs fs = true) : TailB true (94 :: 45 :: fs) (-(figVal fs : Int))
theorem TailB.pow {b : Bool} {t r : List Nat} {p : Int} (h : TailB b t p) (hr : nx b r) : pow (t ++ r) = some (p, r) := by
  cases h with
  | none => exact pow_else fun z => (hr 94 z).1 rfl
  | pos hf ho => exact pow_figs hf ho fun c hc => ⟨(hr c hc).1, (hr c hc).2 rfl⟩
  | neg hf ho => exact pow_minus hf ho fun c hc => ⟨(hr c hc).1, (hr c hc).2 rfl⟩
theorem TailB.le {b : Bool} {u : List Nat} {p : Int} (h : TailB b u p) : p.natAbs ≤ 999 := by
  cases h with
  | none => decide
  | pos hf ho => have := figVal_le hf ho; omega
  | neg hf ho => have := figVal_le hf ho; omega
theorem LexB.sign {f : Base} {b : Bool} {c : Nat} {t : List Nat} {p : Int} (hb : bad f c = false) (hc : c ≠ 40) (ht : TailB b t p) : LexB f b (c :: t) [(c, p)] := fun r hr => by
  rw [List.cons_append, marks_sign hb hc (ht.pow hr)]
  rfl
theorem LexB.bracket {f : Base} {b b' : Bool} {t u : List Nat} {M : List (Nat × Int)} {p : Int} (h : LexB f b t M) (hu : TailB b' u p) : LexB f b' (40 :: (t ++ 41 :: u)) ((40, 1) :: (M ++ [(41, p)])) := fun r hr => by
  have e : 40 :: (t ++ 41 :: u) ++ r = 40 :: (t ++ (41 :: (u ++ r))) := by simp
  rw [e, marks_open, h _ (nx_cons (by decide) fun _ => by decide), marks_sign (by simp [bad]) (by decide) (hu.pow hr)]
  cases e : marks f r with
  | none => rfl
  | some m => simp
def FrOk (f : Base) (s : List Nat) (w : List Int) (b : Bool) : Prop := (s = [] ∧ w = [] ∧ b = false) ∨ ∃ M, LexB f b s M ∧ Bal f M w
def BaseOk (f : Base) (u : List Nat) (x : List Int) : Prop := (∀ b tl p, TailB b tl p → ∃ L, LexB f b (u ++ tl) L ∧ Bal f L (raiseW x p)) ∧ ∃ c r, u = c :: r ∧ c ≠ 94 ∧ (isFig c = true → u = [49])
theorem FrOk.put {f : Base} {s u tl : List Nat} {w x : List Int} {b b' : Bool} {p : Int} (h : FrOk f s w b) (hu : BaseOk f u x) (ht : TailB b' tl p) (hn : b = true → u ≠ [49]) : FrOk f (s ++ (u ++ tl)) (w ++ raiseW x p) b' := by
  obtain ⟨L, hl, hb⟩ := hu.1 b' tl p ht
  obtain ⟨c, r, hc, h94, hfig⟩ := hu.2
  rcases h with ⟨rfl, rfl, _⟩ | ⟨M, hM, hBM⟩
  · exact .inr ⟨L, hl, hb⟩
  · refine .inr ⟨M ++ L, hM.append hl fun q => ?_, hBM.append hb⟩
    rw [hc]
    refine nx_cons h94 fun hbt => ?_
    cases e : isFig c with
    | false => rfl
    | true => exact absurd (hfig e) (hn hbt)
end M5
namespace M7
open M5
theorem pow_m {q : List Nat} (h : okFigs (q.takeWhile isFig) = true) : pow (94 :: 45 :: q) = some (-(figVal (q.takeWhile isFig) : Int), q.dropWhile isFig) := by
  unfold pow
  simp only [h, if_true]
theorem pow_m0 {q : List Nat} (h : okFigs (q.takeWhile isFig) = false) : pow (94 :: 45 :: q) = none := by
  unfold pow
  simp [h]
theorem pow_p {q : List Nat} (hd : q.head? ≠ some 45) (h : okFigs (q.takeWhile isFig) = true) : pow (94 :: q) = some ((figVal (q.takeWhile isFig) : Int), q.dropWhile isFig) := by
  unfold pow
  split
  · rename_i q' e
    injection e with _ e
    subst e
    exact absurd rfl hd
  · rename_i q' _ e
    injection e with _ e
    subst e
    rw [if_pos h]
  · rename_i h1 h2
    exact absurd rfl (h2 q)
theorem pow_p0 {q : List Nat} (hd : q.head? ≠ some 45) (h : okFigs (q.takeWhile isFig) = false) : pow (94 :: q) = none := by
  unfold pow
  split
  · rename_i q' e
    injection e with _ e
    subst e
    exact absurd rfl hd
  · rename_i q' _ e
    injection e with _ e
    subst e
    rw [if_neg (by rw [h]; decide)]
  · rename_i h1 h2
    exact absurd rfl (h2 q)
end M7
namespace M8
open M5
def Ck (M : List (Nat × Int)) : Prop := ∀ r d a, ∃ a', a' ≠ 40 ∧ chk (M ++ r) d a = chk r d a'
theorem Ck.append {M L : List (Nat × Int)} (h : Ck M) (h2 : Ck L) : Ck (M ++ L) := fun r d a => by
  rw [List.append_assoc]
  obtain ⟨a1, _, e1⟩ := h (L ++ r) d a
  obtain ⟨a2, n2, e2⟩ := h2 r d a1
  exact ⟨a2, n2, e1.trans e2⟩
theorem Ck.sign {c : Nat} {p : Int} (h40 : c ≠ 40) (h41 : c ≠ 41) : Ck [(c, p)] := fun r d a => ⟨c, h40, by
  show chk ((c, p) :: r) d a = _
  rw [chk, if_neg h40, if_neg h41]⟩
theorem Ck.bracket {M : List (Nat × Int)} {p : Int} (h : Ck M) : Ck ((40, 1) :: (M ++ [(41, p)])) := fun r d a => ⟨41, by decide, by
  show chk ((40, 1) :: ((M ++ [(41, p)]) ++ r)) d a = _
  rw [chk, if_pos rfl, List.append_assoc]
  obtain ⟨a1, n1, e1⟩ := h ([(41, p)] ++ r) (d + 1) 40
  rw [e1]
  show chk ((41, p) :: r) (d + 1) a1 = _
  rw [chk, if_neg (by decide), if_pos rfl]
  simp [n1]⟩
structure Ct (f : Base) (M : List (Nat × Int)) (c : Nat) (g : Bool) : Prop where
  ok : g = false → c ≤ 200 ∧ ∃ x : List Int, x.length = c ∧ ∀ r st, wrd f (M ++ r) ([] :: st) = wrd f r (x :: st)
  no : g = true → ∀ r st, wrd f (M ++ r) ([] :: st) = none
structure Pc (f : Base) (L : List (Nat × Int)) (c : Nat) (g : Bool) (p : Int) : Prop where
  ck : Ck L
  ok : g = false → ∃ y : List Int, y.length = c * p.natAbs ∧ ∀ r top st, top.length + y.length ≤ 200 → wrd f (L ++ r) (top :: st) = wrd f r ((top ++ y) :: st)
  no : ∀ r (top : List Int) st, g = true ∨ top.length + c * p.natAbs > 200 → wrd f (L ++ r) (top :: st) = none
theorem Pc.sign {f : Base} {c : Nat} {p : Int} {b : List Int} (h40 : c ≠ 40) (h41 : c ≠ 41) (hf : f c = some b) : Pc f [(c, p)] b.length false p where
  ck := Ck.sign h40 h41
  ok := fun _ => ⟨raiseW b p, raise_len b p, (Bal.sign h40 h41 hf).wrd⟩
  no := fun r top st h => by
    have h' : top.length + b.length * p.natAbs > 200 := by
      rcases h with h | h
      · cases h
      · exact h
    show wrd f ((c, p) :: r) (top :: st) = _
    rw [wrd, if_neg h40, if_neg h41, hf, sig, Option.getD_some, withP, if_pos h']
    rfl
theorem Pc.bracket {f : Base} {M : List (Nat × Int)} {c : Nat} {g : Bool} {p : Int} (hk : Ck M) (h : Ct f M c g) : Pc f ((40, 1) :: (M ++ [(41, p)])) c g p where
  ck := hk.bracket
  ok := fun hg => by
    obtain ⟨_, x, hx, hw⟩ := h.ok hg
    refine ⟨raiseW x p, by rw [raise_len, hx], fun r top st hl => ?_⟩
    show wrd f ((40, 1) :: ((M ++ [(41, p)]) ++ r)) (top :: st) = _
    rw [wrd, if_pos rfl, List.append_assoc, hw]
    show wrd f ((41, p) :: r) (x :: top :: st) = _
    rw [wrd, if_neg (by decide), if_pos rfl, clo, withP_ok hl]
    rfl
  no := fun r top st hh => by
    show wrd f ((40, 1) :: ((M ++ [(41, p)]) ++ r)) (top :: st) = _
    rw [wrd, if_pos rfl, List.append_assoc]
    cases hg : g with
    | true => exact h.no hg _ _
    | false =>
      obtain ⟨_, x, hx, hw⟩ := h.ok hg
      rw [hw]
      have h' : top.length + x.length * p.natAbs > 200 := by
        rcases hh with hh | hh
        · rw [hg] at hh; cases hh
        · rw [hx]; exact hh
      show wrd f ((41, p) :: r) (x :: top :: st) = _
      rw [wrd, if_neg (by decide), if_pos rfl, clo, withP, if_pos h']
      rfl
theorem Ct.nil (f : Base) : Ct f [] 0 false := ⟨fun _ => ⟨Nat.zero_le _, [], rfl, fun r st => rfl⟩, fun h => by cases h⟩
theorem Ct.put {f : Base} {M L : List (Nat × Int)} {c ci c' : Nat} {g gi g' : Bool} {p : Int} (h : Ct f M c g) (hp : Pc f L ci gi p) (h0 : g' = false → g = false ∧ gi = false ∧ c + ci * p.natAbs ≤ 200 ∧ c' = c + ci * p.natAbs)
    (h1 : g' = true → g = true ∨ gi = true ∨ c + ci * p.natAbs > 200) : Ct f (M ++ L) c' g' where
  ok := fun hg => by
    obtain ⟨e1, e2, e3, e4⟩ := h0 hg
    obtain ⟨_, x, hx, hw⟩ := h.ok e1
    obtain ⟨y, hy, hv⟩ := hp.ok e2
    refine ⟨by omega, x ++ y, by rw [List.length_append, hx, hy, e4], fun r st => ?_⟩
    rw [List.append_assoc, hw, hv _ _ _ (by omega)]
  no := fun hg r st => by
    rw [List.append_assoc]
    cases e : g with
    | true => exact h.no e _ _
    | false =>
      obtain ⟨_, x, hx, hw⟩ := h.ok e
      rw [hw]
      refine hp.no _ _ _ ?_
      rcases h1 hg with z | z | z
      · rw [e] at z; cases z
      · exact .inl z
      · exact .inr (by rw [hx]; exact z)
theorem read_ct {f : Base} {t : List Nat} {M : List (Nat × Int)} {c : Nat} {g : Bool} (hl : Lex f t M) (hk : Ck M) (h : Ct f M c g) : (g = false → ∃ x : List Int, x.length = c ∧ readM f t = .word x) ∧ (g = true → readM f t = .tooLong) := by
  have e1 : chk M 0 40 = true := by
    obtain ⟨a, na, e⟩ := hk [] 0 40
    rw [List.append_nil] at e
    rw [e]
    simp [chk, na]
  refine ⟨fun hg => ?_, fun hg => ?_⟩
  · obtain ⟨_, x, hx, hw⟩ := h.ok hg
    have := hw [] []
    rw [List.append_nil] at this
    have e2 : wrd f M [[]] = some x := this
    refine ⟨x, hx, ?_⟩
    unfold readM
    rw [hl.whole]
    simp only [e1, e2, if_pos]
  · have := h.no hg [] []
    rw [List.append_nil] at this
    unfold readM
    rw [hl.whole]
    simp only [e1, this, if_pos]
def Asc (s : List Nat) : Prop := ∀ x ∈ s, x < 128
theorem Asc.app {s u : List Nat} (h : Asc s) (h2 : Asc u) : Asc (s ++ u) := fun x hx => (List.mem_append.mp hx).elim (h x) (h2 x)
theorem tail_asc {b : Bool} {tl : List Nat} {p : Int} (h : TailB b tl p) : Asc tl := by
  have fg : ∀ fs : List Nat, fs.all isFig = true → Asc fs := fun fs hf x hx => by
    have := List.all_eq_true.mp hf x hx
    unfold isFig at this
    rw [Bool.and_eq_true, decide_eq_true_iff, decide_eq_true_iff] at this
    omega
  cases h with
  | none => intro x hx; cases hx
  | pos hf ho => intro x hx; rcases List.mem_cons.mp hx with e | hx
                 · rw [e]; decide
                 · exact fg _ hf x hx
  | neg hf ho => intro x hx; rcases List.mem_cons.mp hx with e | hx
                 · rw [e]; decide
                 · rcases List.mem_cons.mp hx with e | hx
                   · rw [e]; decide
                   · exact fg _ hf x hx
def FrOk (f : Base) (s : List Nat) (c : Nat) (b g : Bool) : Prop := Asc s ∧ ((s = [] ∧ c = 0 ∧ b = false ∧ g = false) ∨ ∃ M, LexB f b s M ∧ Ck M ∧ Ct f M c g)
def BaseOk (f : Base) (u : List Nat) (c : Nat) (g : Bool) : Prop := Asc u ∧ (∀ b tl p, TailB b tl p → ∃ L, LexB f b (u ++ tl) L ∧ Pc f L c g p) ∧ ∃ c r, u = c :: r ∧ c ≠ 94 ∧ (isFig c = true → u = [49])
theorem FrOk.put {f : Base} {s u tl : List Nat} {c ci c' : Nat} {g gi g' : Bool} {b b' : Bool} {p : Int} (h : FrOk f s c b g) (hu : BaseOk f u ci gi) (ht : TailB b' tl p) (hn : b = true → u ≠ [49])
    (h0 : g' = false → g = false ∧ gi = false ∧ c + ci * p.natAbs ≤ 200 ∧ c' = c + ci * p.natAbs) (h1 : g' = true → g = true ∨ gi = true ∨ c + ci * p.natAbs > 200) : FrOk f (s ++ (u ++ tl)) c' b' g' := by
  obtain ⟨L, hl, hb⟩ := hu.2.1 b' tl p ht
  obtain ⟨x, r, hc, h94, hfig⟩ := hu.2.2
  refine ⟨h.1.app (hu.1.app (tail_asc ht)), .inr ?_⟩
  rcases h.2 with ⟨rfl, rfl, _, rfl⟩ | ⟨M, hM, hK, hC⟩
  · have := (Ct.nil f).put hb (c' := c') (g' := g') h0 h1
    exact ⟨L, hl, hb.ck, this⟩
  · refine ⟨M ++ L, hM.append hl fun q => ?_, hK.append hb.ck, hC.put hb h0 h1⟩
    rw [hc]
    refine nx_cons h94 fun hbt => ?_
    cases e : isFig x with
    | false => rfl
    | true => exact absurd (hfig e) (hn hbt)
end M8
namespace K9
open PySem L2
def top (i : Nat) : Stmt := PySem.Challenge.pw_cosetyard_k09_lists.main.body.getD i (.Pass ⟨0, 0, 0, 0⟩)
abbrev s_back : Stmt := top 5
abbrev s_raised : Stmt := top 6
abbrev s_read : Stmt := top 11
abbrev s_read_list : Stmt := top 12
abbrev s_shown : Stmt := top 13
abbrev s_shown_list : Stmt := top 14
abbrev s_bases_of : Stmt := top 15
abbrev s_marks_of : Stmt := top 16
abbrev s_power_end : Stmt := top 17
abbrev s_is_number : Stmt := top 18
abbrev s_power_of : Stmt := top 19
abbrev s_check_brackets : Stmt := top 20
abbrev s_word_of : Stmt := top 21
abbrev s_with_piece : Stmt := top 22
abbrev s_run_end : Stmt := top 23
abbrev s_shown_run : Stmt := top 24
abbrev s__law_at : Stmt := top 26
abbrev s__law_mix : Stmt := top 27
abbrev s__law_names : Stmt := top 28
abbrev s__law_step : Stmt := top 29
abbrev s__law_sign : Stmt := top 30
abbrev s__law_text : Stmt := top 31
abbrev s__law_bad : Stmt := top 32
abbrev s__law_item : Stmt := top 33
abbrev s__law_same : Stmt := top 34
abbrev s__law_read : Stmt := top 35
abbrev s_law : Stmt := top 36
structure Adr where
  f_back : Addr
  d_back : FuncData
  f_raised : Addr
  d_raised : FuncData
  f_read : Addr
  d_read : FuncData
  f_read_list : Addr
  d_read_list : FuncData
  f_shown : Addr
  d_shown : FuncData
  f_shown_list : Addr
  d_shown_list : FuncData
  f_bases_of : Addr
  d_bases_of : FuncData
  f_marks_of : Addr
  d_marks_of : FuncData
  f_power_end : Addr
  d_power_end : FuncData
  f_is_number : Addr
  d_is_number : FuncData
  f_power_of : Addr
  d_power_of : FuncData
  f_check_brackets : Addr
  d_check_brackets : FuncData
  f_word_of : Addr
  d_word_of : FuncData
  f_with_piece : Addr
  d_with_piece : FuncData
  f_run_end : Addr
  d_run_end : FuncData
  f_shown_run : Addr
  d_shown_run : FuncData
  f__law_at : Addr
  d__law_at : FuncData
  f__law_mix : Addr
  d__law_mix : FuncData
  f__law_names : Addr
  d__law_names : FuncData
  f__law_step : Addr
  d__law_step : FuncData
  f__law_sign : Addr
  d__law_sign : FuncData
  f__law_text : Addr
  d__law_text : FuncData
  f__law_bad : Addr
  d__law_bad : FuncData
  f__law_item : Addr
  d__law_item : FuncData
  f__law_same : Addr
  d__law_same : FuncData
  f__law_read : Addr
  d__law_read : FuncData
  f_law : Addr
  d_law : FuncData
  t_MOST_STEPS : Tok
  t_MOST_FIGURES : Tok
  t_FIGURES : Tok
  c_YardError : Addr
  c_NoWord : Addr
  c_TooLong : Addr
structure Txt (K : PySem.W.Frag) (mg : Str → Option Value) (A : Adr) : Prop where
  back : Def K mg "back" s_back ["word"] A.f_back A.d_back
  raised : Def K mg "raised" s_raised ["word", "power"] A.f_raised A.d_raised
  read : Def K mg "read" s_read ["names", "text"] A.f_read A.d_read
  read_list : Def K mg "read_list" s_read_list ["names", "text"] A.f_read_list A.d_read_list
  shown : Def K mg "shown" s_shown ["names", "word"] A.f_shown A.d_shown
  shown_list : Def K mg "shown_list" s_shown_list ["names", "words"] A.f_shown_list A.d_shown_list
  bases_of : Def K mg "bases_of" s_bases_of ["names"] A.f_bases_of A.d_bases_of
  marks_of : Def K mg "marks_of" s_marks_of ["bases", "text"] A.f_marks_of A.d_marks_of
  power_end : Def K mg "power_end" s_power_end ["text", "at"] A.f_power_end A.d_power_end
  is_number : Def K mg "is_number" s_is_number ["text"] A.f_is_number A.d_is_number
  power_of : Def K mg "power_of" s_power_of ["written"] A.f_power_of A.d_power_of
  check_brackets : Def K mg "check_brackets" s_check_brackets ["marks"] A.f_check_brackets A.d_check_brackets
  word_of : Def K mg "word_of" s_word_of ["bases", "marks"] A.f_word_of A.d_word_of
  with_piece : Def K mg "with_piece" s_with_piece ["word", "base", "power"] A.f_with_piece A.d_with_piece
  run_end : Def K mg "run_end" s_run_end ["word", "at"] A.f_run_end A.d_run_end
  shown_run : Def K mg "shown_run" s_shown_run ["names", "step", "many"] A.f_shown_run A.d_shown_run
  _law_at : Def K mg "_law_at" s__law_at ["_law_script", "_law_k"] A.f__law_at A.d__law_at
  _law_mix : Def K mg "_law_mix" s__law_mix ["_law_number", "_law_place"] A.f__law_mix A.d__law_mix
  _law_names : Def K mg "_law_names" s__law_names ["_law_number", "_law_many"] A.f__law_names A.d__law_names
  _law_step : Def K mg "_law_step" s__law_step ["_law_names_here", "_law_number"] A.f__law_step A.d__law_step
  _law_sign : Def K mg "_law_sign" s__law_sign ["_law_names_here", "_law_step_here"] A.f__law_sign A.d__law_sign
  _law_text : Def K mg "_law_text" s__law_text ["_law_names_here", "_law_word"] A.f__law_text A.d__law_text
  _law_bad : Def K mg "_law_bad" s__law_bad ["_law_sign_here", "_law_way"] A.f__law_bad A.d__law_bad
  _law_item : Def K mg "_law_item" s__law_item ["_law_names_here", "_law_number"] A.f__law_item A.d__law_item
  _law_same : Def K mg "_law_same" s__law_same ["_law_found", "_law_words"] A.f__law_same A.d__law_same
  _law_read : Def K mg "_law_read" s__law_read ["_law_names_here", "_law_written", "_law_words"] A.f__law_read A.d__law_read
  law : Def K mg "law" s_law ["_law_script"] A.f_law A.d_law
  g_MOST_STEPS : mg "MOST_STEPS" = some (.int 200 A.t_MOST_STEPS)
  g_MOST_FIGURES : mg "MOST_FIGURES" = some (.int 3 A.t_MOST_FIGURES)
  g_FIGURES : mg "FIGURES" = some (.str (tx [48, 49, 50, 51, 52, 53, 54, 55, 56, 57]) A.t_FIGURES)
  z_all : mg "all" = none
  z_range : mg "range" = none
  z_len : mg "len" = none
  z_tuple : mg "tuple" = none
  z_isinstance : mg "isinstance" = none
  z_str : mg "str" = none
  z_abs : mg "abs" = none
  z_int : mg "int" = none
  z_bool : mg "bool" = none
  z_list : mg "list" = none
  z_reversed : mg "reversed" = none
  z_enumerate : mg "enumerate" = none
  z_zip : mg "zip" = none
  m_YardError : mg "YardError" = some (.ref A.c_YardError)
  m_NoWord : mg "NoWord" = some (.ref A.c_NoWord)
  m_TooLong : mg "TooLong" = some (.ref A.c_TooLong)
  x_NoWord : PySem.W.excIn K A.c_NoWord mroV "ValueError.__new__" = true
  x_TooLong : PySem.W.excIn K A.c_TooLong mroV "ValueError.__new__" = true
  e_NN : PySem.W.exmOne K (.ref A.c_NoWord) (.ref A.c_NoWord) = some true
  e_TN : PySem.W.exmOne K (.ref A.c_TooLong) (.ref A.c_NoWord) = some false
  e_TT : PySem.W.exmOne K (.ref A.c_TooLong) (.ref A.c_TooLong) = some true
theorem sc_back : FnScope ["word"] ["word"] (defScope s_back) := ⟨rfl, rfl, rfl, by decide +kernel, rfl, by decide +kernel, by decide +kernel⟩
theorem sc_raised : FnScope ["word", "power"] ["word", "power"] (defScope s_raised) := ⟨rfl, rfl, rfl, by decide +kernel, rfl, by decide +kernel, by decide +kernel⟩
theorem sc_read : FnScope ["names", "text", "bases", "marks"] ["names", "text"] (defScope s_read) := ⟨rfl, rfl, rfl, by decide +kernel, rfl, by decide +kernel, by decide +kernel⟩
theorem sc_read_list : FnScope ["names", "text"] ["names", "text"] (defScope s_read_list) := ⟨rfl, rfl, rfl, by decide +kernel, rfl, by decide +kernel, by decide +kernel⟩
theorem sc_shown : FnScope ["names", "word", "pieces", "at", "end"] ["names", "word"] (defScope s_shown) := ⟨rfl, rfl, rfl, by decide +kernel, rfl, by decide +kernel, by decide +kernel⟩
theorem sc_shown_list : FnScope ["names", "words"] ["names", "words"] (defScope s_shown_list) := ⟨rfl, rfl, rfl, by decide +kernel, rfl, by decide +kernel, by decide +kernel⟩
theorem sc_bases_of : FnScope ["names", "bases", "number", "name"] ["names"] (defScope s_bases_of) := ⟨rfl, rfl, rfl, by decide +kernel, rfl, by decide +kernel, by decide +kernel⟩
theorem sc_marks_of : FnScope ["bases", "text", "marks", "at", "sign", "end"] ["bases", "text"] (defScope s_marks_of) := ⟨rfl, rfl, rfl, by decide +kernel, rfl, by decide +kernel, by decide +kernel⟩
theorem sc_power_end : FnScope ["text", "at", "start", "end", "figures"] ["text", "at"] (defScope s_power_end) := ⟨rfl, rfl, rfl, by decide +kernel, rfl, by decide +kernel, by decide +kernel⟩
theorem sc_is_number : FnScope ["text"] ["text"] (defScope s_is_number) := ⟨rfl, rfl, rfl, by decide +kernel, rfl, by decide +kernel, by decide +kernel⟩
theorem sc_power_of : FnScope ["written"] ["written"] (defScope s_power_of) := ⟨rfl, rfl, rfl, by decide +kernel, rfl, by decide +kernel, by decide +kernel⟩
theorem sc_check_brackets : FnScope ["marks", "depth", "ahead", "mark", "sign"] ["marks"] (defScope s_check_brackets) := ⟨rfl, rfl, rfl, by decide +kernel, rfl, by decide +kernel, by decide +kernel⟩
theorem sc_word_of : FnScope ["bases", "marks", "held", "mark", "sign", "base"] ["bases", "marks"] (defScope s_word_of) := ⟨rfl, rfl, rfl, by decide +kernel, rfl, by decide +kernel, by decide +kernel⟩
theorem sc_with_piece : FnScope ["word", "base", "power"] ["word", "base", "power"] (defScope s_with_piece) := ⟨rfl, rfl, rfl, by decide +kernel, rfl, by decide +kernel, by decide +kernel⟩
theorem sc_run_end : FnScope ["word", "at", "end"] ["word", "at"] (defScope s_run_end) := ⟨rfl, rfl, rfl, by decide +kernel, rfl, by decide +kernel, by decide +kernel⟩
theorem sc_shown_run : FnScope ["names", "step", "many", "name", "letter"] ["names", "step", "many"] (defScope s_shown_run) := ⟨rfl, rfl, rfl, by decide +kernel, rfl, by decide +kernel, by decide +kernel⟩
theorem sc__law_at : FnScope ["_law_script", "_law_k"] ["_law_script", "_law_k"] (defScope s__law_at) := ⟨rfl, rfl, rfl, by decide +kernel, rfl, by decide +kernel, by decide +kernel⟩
theorem sc__law_mix : FnScope ["_law_number", "_law_place", "_law_part"] ["_law_number", "_law_place"] (defScope s__law_mix) := ⟨rfl, rfl, rfl, by decide +kernel, rfl, by decide +kernel, by decide +kernel⟩
theorem sc__law_names : FnScope ["_law_number", "_law_many", "_law_small", "_law_names_here", "_law_k", "_law_at_here"] ["_law_number", "_law_many"] (defScope s__law_names) := ⟨rfl, rfl, rfl, by decide +kernel, rfl, by decide +kernel, by decide +kernel⟩
theorem sc__law_step : FnScope ["_law_names_here", "_law_number"] ["_law_names_here", "_law_number"] (defScope s__law_step) := ⟨rfl, rfl, rfl, by decide +kernel, rfl, by decide +kernel, by decide +kernel⟩
theorem sc__law_sign : FnScope ["_law_names_here", "_law_step_here", "_law_small"] ["_law_names_here", "_law_step_here"] (defScope s__law_sign) := ⟨rfl, rfl, rfl, by decide +kernel, rfl, by decide +kernel, by decide +kernel⟩
theorem sc__law_text : FnScope ["_law_names_here", "_law_word", "_law_written", "_law_end", "_law_at_here", "_law_part"] ["_law_names_here", "_law_word"] (defScope s__law_text) := ⟨rfl, rfl, rfl, by decide +kernel, rfl, by decide +kernel, by decide +kernel⟩
theorem sc__law_bad : FnScope ["_law_sign_here", "_law_way"] ["_law_sign_here", "_law_way"] (defScope s__law_bad) := ⟨rfl, rfl, rfl, by decide +kernel, rfl, by decide +kernel, by decide +kernel⟩
theorem sc__law_item : FnScope ["_law_names_here", "_law_number", "_law_one", "_law_two", "_law_many", "_law_pair"] ["_law_names_here", "_law_number"] (defScope s__law_item) := ⟨rfl, rfl, rfl, by decide +kernel, rfl, by decide +kernel, by decide +kernel⟩
theorem sc__law_same : FnScope ["_law_found", "_law_words", "_law_one", "_law_due", "_law_step_here"] ["_law_found", "_law_words"] (defScope s__law_same) := ⟨rfl, rfl, rfl, by decide +kernel, rfl, by decide +kernel, by decide +kernel⟩
theorem sc__law_read : FnScope ["_law_names_here", "_law_written", "_law_words", "_law_refused", "_law_found"] ["_law_names_here", "_law_written", "_law_words"] (defScope s__law_read) := ⟨rfl, rfl, rfl, by decide +kernel, rfl, by decide +kernel, by decide +kernel⟩
theorem sc_law : FnScope ["_law_script", "_law_names_here", "_law_parts", "_law_words", "_law_due", "_law_cell", "_law_item_here", "_law_number", "_law_written", "_law_handed", "_law_told"] ["_law_script"] (defScope s_law) := ⟨rfl, rfl, rfl, by decide +kernel, rfl, by decide +kernel, by decide +kernel⟩
section
variable {P : Program} {w : World} {K : PySem.W.Frag} {mg : Str → Option Value} {base : Heap} {A : Adr}
def Low (nm : List Nat) : Prop := nm.length ≤ 26 ∧ ∀ c ∈ nm, 97 ≤ c ∧ c < 123
def Steps (n : Nat) (ms : List Int) : Prop := ∀ s ∈ ms, s ≠ 0 ∧ s.natAbs ≤ n
def sgn (nm : List Nat) (s : Int) : Nat := if 0 < s then nm.getD (s.natAbs - 1) 0 else nm.getD (s.natAbs - 1) 0 - 32
def piece (nm : List Nat) (s : Int) (m : Nat) : List Nat := if m = 1 then [sgn nm s] else [sgn nm s] ++ [94] ++ digs m
def pcs (nm : List Nat) (ms : List Int) : List (List Nat) := (M4.runs ms).map fun p => piece nm p.1 p.2
def shw (nm : List Nat) (ms : List Int) : List Nat := if ms = [] then [49] else (pcs nm ms).flatten
def spAt (K : PySem.W.Frag) : Sp := fun vs H Q _ => ∃ (a : Addr) (ns : List Int) (k : Nat), vs = [.ref a, .int k] ∧ SqL K H a (intV ns) ∧ k ≤ 1000 ∧ ∀ z, Q (.int z) H
def spMix : Sp := fun vs H Q _ => ∃ (z p : Int), vs = [.int z, .int p] ∧ 0 ≤ p ∧ p ≤ 1000 ∧ ∀ r : Int, 0 ≤ r → Q (.int r) H
def spNames : Sp := fun vs H Q _ => ∃ (z : Int) (n : Nat), vs = [.int z, .int n] ∧ 1 ≤ n ∧ n ≤ 26 ∧ ∀ nm : List Nat, nm.length = n → Low nm → nm.Nodup → Q (.str (tx nm)) H
def spSign : Sp := fun vs H Q _ => ∃ (nm : List Nat) (st : Int), vs = [.str (tx nm), .int st] ∧ Low nm ∧ st ≠ 0 ∧ st.natAbs ≤ nm.length ∧ Q (.str (tx [sgn nm st])) H
def spRun : Sp := fun vs H Q _ => ∃ (nm : List Nat) (st : Int) (m : Nat), vs = [.str (tx nm), .int st, .int m] ∧ Low nm ∧ st ≠ 0 ∧ st.natAbs ≤ nm.length ∧ m ≤ 100000 ∧ Q (.str (tx (piece nm st m))) H
def spEnd : Sp := fun vs H Q _ => ∃ (a : Addr) (ms : List Int) (i : Nat), vs = [.ref a, .int i] ∧ H a = some (.tup (intV ms)) ∧ i < ms.length ∧ ∀ e : Nat, i < e → e ≤ ms.length → (∀ j, i ≤ j → j < e → ms[j]? = ms[i]?) → ms[e]? ≠ ms[i]? → Q (.int e) H
def spShown : Sp := fun vs H Q _ => ∃ (nm : List Nat) (a : Addr) (ms : List Int), vs = [.str (tx nm), .ref a] ∧ Low nm ∧ H a = some (.tup (intV ms)) ∧ ms.length ≤ 2000 ∧ Steps nm.length ms ∧ ∀ H', Same H H' → Q (.str (tx (shw nm ms))) H'
def spLaw (K : PySem.W.Frag) : Sp := fun vs H Q _ => ∃ (a : Addr) (ns : List Int), vs = [.ref a] ∧ SqL K H a (ns.map V.int) ∧ ns.length ≤ 63 ∧ ∀ H', Q (.bl true) H'
theorem Low.sz {nm : List Nat} (h : Low nm) : nm.length ≤ sizeLine := Nat.le_trans h.1 (by decide)
theorem piece_len {nm : List Nat} {s : Int} {m : Nat} (hm : m ≤ 100000) : (piece nm s m).length ≤ 12 := by
  unfold piece
  split
  · simp
  · have := digs_len (n := (m : Int)) (by omega) (by omega)
    simp only [List.length_append, List.length_cons, List.length_nil]
    omega
theorem piece_ne {nm : List Nat} {s : Int} {m : Nat} : piece nm s m ≠ [] := by
  unfold piece
  split <;> simp
theorem pcs_len {nm : List Nat} {ms : List Int} (hm : ms.length ≤ 2000) : (pcs nm ms).flatten.length ≤ 24000 := by
  have h1 := M4.len_flat (k := 12) (ls := pcs nm ms) (fun l hl => by
    unfold pcs at hl
    obtain ⟨p, hp, rfl⟩ := List.mem_map.mp hl
    have := (M4.runs_mem hp).2.2
    exact piece_len (by omega))
  have h2 := M4.runs_len ms
  have h3 : (pcs nm ms).length = (M4.runs ms).length := by unfold pcs; rw [List.length_map]
  omega
theorem drop_len {ms : List Int} {i : Nat} (hm : ms.length ≤ 2000) : (ms.drop i).length ≤ 2000 := by rw [List.length_drop]; omega
theorem pcs_at {nm : List Nat} {ms : List Int} {i e : Nat} {a : Int} (hlt : i < e) (h : ∀ j, i ≤ j → j < e → ms[j]? = some a) (hn : ms[e]? ≠ some a) : pcs nm (ms.drop i) = piece nm a (e - i) :: pcs nm (ms.drop e) := by
  unfold pcs
  rw [M4.runs_at hlt h hn, List.map_cons]
theorem sgn_at {nm : List Nat} {st : Int} (h0 : st ≠ 0) (h : st.natAbs ≤ nm.length) : atI nm ((if st < 0 then -st else st) - 1) = some (nm.getD (st.natAbs - 1) 0) := by
  have e : (if st < 0 then -st else st) - 1 = ((st.natAbs - 1 : Nat) : Int) := by split <;> omega
  rw [e]
  refine atI_nat ?_
  rw [List.getD_eq_getElem?_getD, List.getElem?_eq_getElem (by omega)]
  rfl
theorem low_at {nm : List Nat} {st : Int} (hl : Low nm) (h0 : st ≠ 0) (h : st.natAbs ≤ nm.length) : ∃ k : Nat, k < 26 ∧ nm.getD (st.natAbs - 1) 0 = k + 97 := by
  have hm : nm.getD (st.natAbs - 1) 0 ∈ nm := by
    rw [List.getD_eq_getElem?_getD, List.getElem?_eq_getElem (by omega)]
    exact List.getElem_mem _
  have := hl.2 _ hm
  exact ⟨nm.getD (st.natAbs - 1) 0 - 97, by omega, by omega⟩
def BEnt (H : Hp) : Option V → Option (List Int) → Prop
  | some v, some w => ∃ p, v = .ref p ∧ H p = some (.tup (intV w))
  | none, none => True
  | _, _ => False
def BasesF (H : Hp) (d : Addr) (f : M5.Base) (n : Nat) : Prop := ∃ kvs : List (Key × V), H d = some (.dK kvs) ∧ kvs.length ≤ n ∧ ∀ c : Nat, BEnt H (valV kvs (Sum.inr (tx [c]))) (f c)
def MarksL (H : Hp) (ps : List Addr) (M : List (Nat × Int)) : Prop := ps.length = M.length ∧ ∀ (i : Nat) (p : Addr) (m : Nat × Int), ps[i]? = some p → M[i]? = some m → H p = some (.tup [.str (tx [m.1]), .int m.2])
def MarksAt (H : Hp) (l : Addr) (M : List (Nat × Int)) : Prop := ∃ ps : List Addr, H l = some (.lst (ps.map V.ref)) ∧ MarksL H ps M
theorem BEnt.imp {H H' : Hp} (k : ∀ p xs, H p = some (.tup xs) → H' p = some (.tup xs)) : ∀ {a : Option V} {b : Option (List Int)}, BEnt H a b → BEnt H' a b
  | some _, some _, ⟨p, e, h⟩ => ⟨p, e, k _ _ h⟩
  | none, none, _ => True.intro
  | some _, none, h => h
  | none, some _, h => h
theorem BasesF.same {H H' : Hp} {d : Addr} {f : M5.Base} {n : Nat} (h : BasesF H d f n) (s : Same H H') : BasesF H' d f n := by
  obtain ⟨kvs, h1, h2, h3⟩ := h
  exact ⟨kvs, s _ _ h1, h2, fun c => (h3 c).imp fun p xs e => s _ _ e⟩
theorem MarksL.same {H H' : Hp} {ps : List Addr} {M : List (Nat × Int)} (h : MarksL H ps M) (s : Same H H') : MarksL H' ps M := ⟨h.1, fun i p m h1 h2 => s _ _ (h.2 i p m h1 h2)⟩
theorem MarksAt.same {H H' : Hp} {l : Addr} {M : List (Nat × Int)} (h : MarksAt H l M) (s : Same H H') : MarksAt H' l M := by
  obtain ⟨ps, h1, h2⟩ := h
  exact ⟨ps, s _ _ h1, h2.same s⟩
theorem MarksL.snoc {H : Hp} {ps : List Addr} {M : List (Nat × Int)} {p : Addr} {m : Nat × Int} (h : MarksL H ps M) (hp : H p = some (.tup [.str (tx [m.1]), .int m.2])) : MarksL H (ps ++ [p]) (M ++ [m]) := by
  refine ⟨by rw [List.length_append, List.length_append, h.1]; rfl, fun i q n h1 h2 => ?_⟩
  by_cases hi : i < ps.length
  · rw [List.getElem?_append_left hi] at h1
    rw [List.getElem?_append_left (by rw [← h.1]; exact hi)] at h2
    exact h.2 i q n h1 h2
  · have hi' : i = ps.length := by
      have := (List.getElem?_eq_some_iff.mp h1).1
      rw [List.length_append] at this
      simp at this
      omega
    subst hi'
    rw [List.getElem?_concat_length] at h1
    rw [h.1, List.getElem?_concat_length] at h2
    cases h1
    cases h2
    exact hp
theorem BasesF.put {H : Hp} {d q : Addr} {f : M5.Base} {n c : Nat} {w : List Int} {kvs : List (Key × V)} (h : H d = some (.dK kvs)) (hl : kvs.length ≤ n) (he : ∀ x : Nat, BEnt H (valV kvs (Sum.inr (tx [x]))) (f x)) (hq : H q = some (.tup (intV w))) :
    BasesF (upd H d (.dK (putK kvs (Sum.inr (tx [c])) (.ref q)))) d (fun x => if x = c then some w else f x) (n + 1) := by
  have kp : ∀ (o : HO) p xs, H p = some (.tup xs) → (upd H d o) p = some (.tup xs) := fun o p xs e => by
    rw [upd_ne (ne_of e h (by intro z; cases z))]
    exact e
  refine ⟨_, upd_same, ?_, fun x => ?_⟩
  · have := length_putK kvs (Sum.inr (tx [c]) : Key) (.ref q)
    omega
  · rw [valV_put]
    by_cases e : x = c
    · subst e
      show BEnt _ _ (if x = x then some w else f x)
      rw [if_pos rfl, if_pos rfl]
      exact ⟨q, rfl, kp _ _ _ hq⟩
    · show BEnt _ _ (if x = c then some w else f x)
      rw [if_neg (fun z => e (by injection z with z; have := tx_inj z; simpa using this)), if_neg e]
      exact (he x).imp (kp _)
def spBack : Sp := fun vs H Q _ => ∃ (a : Addr) (ns : List Int), vs = [.ref a] ∧ H a = some (.tup (intV ns)) ∧ ns.length ≤ 100000 ∧ ∀ l H', Same H H' → H' l = some (.tup (intV (M5.backW ns))) → Q (.ref l) H'
def spRaised : Sp := fun vs H Q _ => ∃ (a : Addr) (ns : List Int) (p : Int), vs = [.ref a, .int p] ∧ H a = some (.tup (intV ns)) ∧ ns.length * p.natAbs ≤ 200 ∧ ns.length ≤ 200 ∧ p.natAbs ≤ 999 ∧ ∀ l H', Same H H' → H' l = some (.tup (intV (M5.raiseW ns p))) → Q (.ref l) H'
def spWith (cT : Addr) : Sp := fun vs H Q E => ∃ (a b : Addr) (ws bs : List Int) (p : Int), vs = [.ref a, .ref b, .int p] ∧ H a = some (.tup (intV ws)) ∧ H b = some (.tup (intV bs)) ∧ ws.length ≤ 200 ∧ bs.length ≤ 200 ∧ p.natAbs ≤ 999 ∧
  (∀ x, M5.withP ws bs p = some x → ∀ l H', Same H H' → H' l = some (.tup (intV x)) → Q (.ref l) H') ∧ (M5.withP ws bs p = none → E (.ref cT) none H)
def spBases : Sp := fun vs H Q _ => ∃ nm : List Nat, vs = [.str (tx nm)] ∧ Low nm ∧ ∀ d H', Same H H' → BasesF H' d (M5.baseOf nm) 100 → Q (.ref d) H'
def spNum : Sp := fun vs H Q _ => ∃ fs : List Nat, vs = [.str (tx fs)] ∧ fs.length ≤ 100000 ∧ fs.all M5.isFig = true ∧ ∀ H', Same H H' → Q (.bl (M5.okFigs fs)) H'
def spPowEnd (cN : Addr) : Sp := fun vs H Q E => ∃ (t : List Nat) (i : Nat), vs = [.str (tx t), .int i] ∧ t.length ≤ 100000 ∧ i ≤ t.length ∧ (∀ p r, M5.pow (t.drop i) = some (p, r) → ∀ H', Same H H' → ∀ e : Nat, e + r.length = t.length → Q (.int e) H') ∧ (M5.pow (t.drop i) = none → ∀ H', Same H H' → E (.ref cN) none H')
def spPowOf : Sp := fun vs H Q _ => ∃ (u : List Nat) (p : Int), vs = [.str (tx u)] ∧ M5.Tail u p ∧ Q (.int p) H
def spMarks (cN : Addr) : Sp := fun vs H Q E => ∃ (d : Addr) (t : List Nat) (f : M5.Base), vs = [.ref d, .str (tx t)] ∧ BasesF H d f 100 ∧ t.length ≤ 100000 ∧ (∀ c ∈ t, c < 128) ∧ (∀ M, M5.marks f t = some M → ∀ l H', Same H H' → MarksAt H' l M → Q (.ref l) H') ∧ (M5.marks f t = none → ∀ H', Same H H' → E (.ref cN) none H')
def spBrk (cN : Addr) : Sp := fun vs H Q E => ∃ (l : Addr) (M : List (Nat × Int)), vs = [.ref l] ∧ MarksAt H l M ∧ (M5.chk M 0 40 = true → Q .non H) ∧ (M5.chk M 0 40 = false → E (.ref cN) none H)
def spWordOf (cT : Addr) : Sp := fun vs H Q E => ∃ (d l : Addr) (f : M5.Base) (M : List (Nat × Int)), vs = [.ref d, .ref l] ∧ BasesF H d f 100 ∧ MarksAt H l M ∧ M.length ≤ 100000 ∧ (∀ m ∈ M, m.2.natAbs ≤ 999 ∧ M5.bad f m.1 = false ∧ ∀ b, f m.1 = some b → b.length ≤ 1) ∧ M5.chk M 0 40 = true ∧
  (∀ x, M5.wrd f M [[]] = some x → ∀ p H', Same H H' → H' p = some (.tup (intV x)) → Q (.ref p) H') ∧ (M5.wrd f M [[]] = none → ∀ H', Same H H' → E (.ref cT) none H')
def spRead (cN cT : Addr) : Sp := fun vs H Q E => ∃ (nm t : List Nat), vs = [.str (tx nm), .str (tx t)] ∧ Low nm ∧ t.length ≤ 100000 ∧ (∀ c ∈ t, c < 128) ∧ (∀ x, M5.readM (M5.baseOf nm) t = .word x → ∀ p H', Same H H' → H' p = some (.tup (intV x)) → Q (.ref p) H') ∧
  (M5.readM (M5.baseOf nm) t = .noWord → ∀ H', Same H H' → E (.ref cN) none H') ∧ (M5.readM (M5.baseOf nm) t = .tooLong → ∀ H', Same H H' → E (.ref cT) none H')
theorem rep_ints (ns : List Int) (k : Nat) : (List.replicate k (intV ns)).flatten = intV (List.replicate k ns).flatten := by
  unfold intV
  rw [List.map_flatten, List.map_replicate]
theorem ok_back (T : Txt K mg A) : FnOk P w K mg base (CXw P w) 1 A.f_back A.d_back ["word"] spBack := by
  refine T.back.F.okN sc_back (fun vs H Q E h => ?_) (fun cdv AA outer s H vs Q E hr h => ?_)
  · obtain ⟨a, ns, rfl, _⟩ := h
    rfl
  · obtain ⟨a, ns, rfl, ha, hlen, k⟩ := h
    refine ⟨_, (pss_one (ps_ret (pe_callTy call_tuple_of rfl T.z_tuple PyProof.Rows.boot_tuple (pa_cons (pe_comp (fns := []) (ixs := []) (cl := []) rfl (pi_rev rfl T.z_reversed (pa_cons (pv 0) pa_nil)) (compScope0 (by decide +kernel) (by decide +kernel) rfl (by decide +kernel) rfl) (fun C s H ex => (pe_un un_neg (pv 0)))) pa_nil)))), ?_⟩
    have hz : (intV ns).reverse.length ≤ sizeLine := by rw [List.length_reverse, ints_len]; exact Nat.le_trans hlen (by decide)
    refine ⟨_, rfl, a, intV ns, rfl, SqT.of ha, ?_⟩
    refine comp_pure (intV ns).reverse negV (itv_go (SqT.of ha)) (itv_yld (SqT.of ha)) (itv_stop (SqT.of (K := K) ha)) hz (fun i x hx R hR => ?_) (fun D hD => ?_)
    · obtain ⟨z, rfl, _⟩ := ints_of_at (ns := ns.reverse) (by unfold intV at hx ⊢; rw [List.map_reverse]; exact hx)
      exact ⟨_, rfl, z, rfl, hR⟩
    · refine ⟨D, _, rfl, .inl ⟨SqL.of upd_same, fun l hl => ?_⟩⟩
      have e : ((intV ns).reverse.map negV) = intV (M5.backW ns) := by
        unfold intV M5.backW
        rw [← List.map_reverse, List.map_map, List.map_map]
        rfl
      exact k l _ ((Same.upd hD).trans (Same.upd hl)) (by rw [upd_same, e])
theorem ok_raised (T : Txt K mg A) : FnOk P w K mg base (CXw P w) 2 A.f_raised A.d_raised ["word", "power"] spRaised := by
  have G_back : FnOk P w K mg base (CXw P w) 1 A.f_back A.d_back ["word"] spBack := ok_back T
  refine T.raised.F.okN sc_raised (fun vs H Q E h => ?_) (fun cdv AA outer s H vs Q E hr h => ?_)
  · obtain ⟨a, ns, p, rfl, _⟩ := h
    rfl
  · obtain ⟨a, ns, p, rfl, ha, hmul, hlen, hp, k⟩ := h
    refine ⟨_, (pss_cons (ps_if (pt_cmpR op_lt (pv 1) pe_int (nomark _))
        (pss_one (ps_ret (pe_op op_repT (pe_call (G_back) (hr.mono (by decide)) rfl T.back.m T.back.F.kp T.back.b .nil passF (pa_cons (pv 0) pa_nil)) (pe_un un_neg (pv 1)))))
        pss_nil)
      (pss_one (ps_ret (pe_op op_repT (pv 0) (pv 1))))), ?_⟩
    have hb : (M5.backW ns).length = ns.length := by unfold M5.backW; rw [List.length_map, List.length_reverse]
    refine ⟨_, rfl, _, _, rfl, rfl, _, rfl, ?_⟩
    unfold M5.raiseW at k
    refine ite2 (fun h => ?_) (fun h => ?_)
    · have h' : p < 0 := of_decide_eq_true h
      simp only [if_pos h'] at k
      refine ⟨_, rfl, a, ns, rfl, ha, by omega, fun lb Hb sb hb2 => ?_⟩
      refine ⟨_, rfl, _, rfl, lb, _, _, rfl, rfl, hb2, by omega, by omega, ?_, fun l H' s' h2 => ?_⟩
      · rw [ints_len, hb, show (-p).toNat = p.natAbs by omega]
        exact Nat.le_trans hmul (by decide)
      · exact k l H' (sb.trans s') (by rw [h2, rep_ints])
    · have h' : ¬ p < 0 := fun e => h (decide_eq_true e)
      simp only [if_neg h'] at k
      refine ⟨_, rfl, _, rfl, a, _, _, rfl, rfl, ha, by omega, by omega, ?_, fun l H' s' h2 => ?_⟩
      · rw [ints_len, show p.toNat = p.natAbs by omega]
        exact Nat.le_trans hmul (by decide)
      · exact k l H' s' (by rw [h2, rep_ints])
theorem ok_with_piece (T : Txt K mg A) : FnOk P w K mg base (CXw P w) 3 A.f_with_piece A.d_with_piece ["word", "base", "power"] (spWith A.c_TooLong) := by
  have G_raised : FnOk P w K mg base (CXw P w) 2 A.f_raised A.d_raised ["word", "power"] spRaised := ok_raised T
  refine T.with_piece.F.okX sc_with_piece (fun vs H Q E h => ?_) (fun cdv AA outer s H vs Q E hr h => ?_)
  · obtain ⟨a, b, ws, bs, p, rfl, _⟩ := h
    rfl
  · obtain ⟨a, b, ws, bs, p, rfl, ha, hb, hw, hbl, hp, k, kE⟩ := h
    refine ⟨_, (pss_cons (ps_if (pt_cmpR op_gt (pe_op op_add (pe_callB call_len_seq rfl T.z_len PySem.boot_len (pa_cons (pv 0) pa_nil)) (pe_op op_mul (pe_callB call_len_seq rfl T.z_len PySem.boot_len (pa_cons (pv 1) pa_nil)) (pe_callB call_abs rfl T.z_abs PyProof.Rows.boot_abs (pa_cons (pv 2) pa_nil)))) (pe_glob (v := .int 200) rfl T.g_MOST_STEPS ⟨_, rfl⟩) (nomark _))
        (pss_one (ps_raise (E := E) rfl rfl T.m_TooLong T.x_TooLong (pe_joined (pj_cons (pe_strX (l := [116, 104, 101, 114, 101, 32, 97, 114, 101, 32, 109, 111, 114, 101, 32, 116, 104, 97, 110, 32]) rfl) (pj_cons (pe_fmtI (pe_glob (v := .int 200) rfl T.g_MOST_STEPS ⟨_, rfl⟩)) (pj_cons (pe_strX (l := [32, 115, 116, 101, 112, 115]) rfl) pj_nil)))) (fun pins σ H s h' e vs I hm q => leave_made I hm q)))
        pss_nil)
      (pss_one (ps_ret (pe_op op_catTT (pv 0) (pe_call (G_raised) (hr.mono (by decide)) rfl T.raised.m T.raised.F.kp T.raised.b .nil passF (pa_cons (pv 1) (pa_cons (pv 2) pa_nil))))))), ?_⟩
    refine ⟨_, rfl, a, _, rfl, .inr (SqT.of ha), _, rfl, b, _, rfl, .inr (SqT.of hb), _, rfl, _, rfl, _, _, rfl, rfl, .inl ⟨by rw [ints_len]; omega, by rw [ints_len]; omega⟩, _, _, rfl, rfl, _, _, rfl, rfl, _, rfl, ?_⟩
    have e1 : (if p < 0 then -p else p) = (p.natAbs : Int) := by split <;> omega
    rw [e1, ints_len, ints_len]
    refine ite2 (fun h => ?_) (fun h => ?_)
    · have h' : (200 : Int) < (ws.length : Int) + (bs.length : Int) * (p.natAbs : Int) := of_decide_eq_true h
      rw [← Int.natCast_mul, ← Int.natCast_add] at h'
      have hd := digs_len (n := (200 : Int)) (by omega) (by omega)
      refine ⟨_, rfl, by (simp only [List.length_append, List.length_cons, List.length_nil]; omega), _, rfl, by decide, _, rfl, by (simp only [List.length_append, List.length_cons, List.length_nil]; omega), _, rfl, by (simp only [List.length_append, List.length_cons, List.length_nil]; omega), by (simp only [List.length_append, List.length_cons, List.length_nil]; omega), ?_⟩
      exact kE (by unfold M5.withP; exact if_pos (by omega))
    · have hfit : ¬ ws.length + bs.length * p.natAbs > 200 := fun z => by
        refine h (decide_eq_true ?_)
        show (200 : Int) < (ws.length : Int) + (bs.length : Int) * (p.natAbs : Int)
        rw [← Int.natCast_mul, ← Int.natCast_add]
        omega
      have ex : M5.withP ws bs p = some (ws ++ M5.raiseW bs p) := by unfold M5.withP; exact if_neg hfit
      refine ⟨_, rfl, _, rfl, _, rfl, b, bs, p, rfl, hb, by omega, hbl, hp, fun l H' s' h2 => ?_⟩
      refine ⟨a, l, _, _, rfl, rfl, s' _ _ ha, h2, ?_, fun q H2 s2 h3 => ?_⟩
      · rw [ints_len, ints_len, M5.raise_len]
        exact Nat.le_trans (show ws.length + bs.length * p.natAbs ≤ 200 by omega) (by decide)
      · exact k _ ex q H2 (s'.trans s2) (by rw [h3, ints_app])
theorem ok_bases_of (T : Txt K mg A) : FnOk P w K mg base (CXw P w) 1 A.f_bases_of A.d_bases_of ["names"] spBases := by
  refine T.bases_of.F.okN sc_bases_of (fun vs H Q E h => ?_) (fun cdv AA outer s H vs Q E hr h => ?_)
  · obtain ⟨nm, rfl, _⟩ := h
    rfl
  · obtain ⟨nm, rfl, hlow, k⟩ := h
    have hu2 := hu_of hr
    refine ⟨_, (pss_cons (ps_set (i := 1) sc_bases_of.nd rfl (Or.inl rfl) (pe_disp (pps_cons (pe_strX (l := [49]) rfl) (pe_tup pa_nil) pps_nil) rfl rfl (by simp) (by decide)))
      (pss_cons (ps_for PassesOwn.never rfl (pi_enum rfl T.z_enumerate (pv 0)) (pg_tup rfl (pgs_cons (pg_name (i := 2) sc_bases_of.nd rfl (Or.inl rfl)) (pgs_cons (pg_name (i := 3) sc_bases_of.nd rfl (Or.inl rfl)) pgs_nil)))
        (pss_cons (ps_dput hu2 (pv 1) (pv 3) (pe_tup (pa_cons (pv 2) pa_nil)) rfl)
        (pss_one (ps_dput hu2 (pv 1) (pe_bm0 PySem.F.plainAttrs_str PySem.F.slot_str_upper PySem.F.type_str_upper mt_upX (pv 3)) (pe_tup (pa_cons (pe_un un_neg (pv 2)) pa_nil)) rfl))))
      (pss_one (ps_ret (pv 1))))), ?_⟩
    intro d hd
    refine ⟨Nat.zero_le _, fun q hq => ?_⟩
    have hqd : q ≠ d := fun e => by rw [e, upd_same] at hq; cases hq
    have hq0 : H q = none := by rw [upd_ne hqd] at hq; exact hq
    refine ⟨by rw [upd_ne (Ne.symm hqd)]; exact upd_same, [(Sum.inr (tx [49]), .ref q)], rfl, by show 1 ≤ 15; decide, ?_⟩
    generalize hH1 : upd (upd (upd H d (.dK [])) q (.tup [])) d (.dK (mergeK [] [(Sum.inr (tx [49]), V.ref q)])) = H1
    have sH : Same H H1 := fun b o e => by
      rw [← hH1, upd_ne (ne_of_none e hd), upd_ne (ne_of_none e hq0), upd_ne (ne_of_none e hd)]
      exact e
    have b0 : BasesF H1 d M5.base0 1 := by
      refine ⟨[(Sum.inr (tx [49]), V.ref q)], by rw [← hH1]; exact upd_same, Nat.le_refl _, fun c => ?_⟩
      unfold M5.base0
      by_cases e : c = 49
      · subst e
        rw [if_pos rfl, valV_pos rfl]
        exact ⟨q, rfl, by rw [← hH1, upd_ne hqd, upd_same]; rfl⟩
      · rw [if_neg e, valV_neg (fun z => e (by injection z with z; have := tx_inj z; simp at this; exact this.symm))]
        exact True.intro
    clear hH1
    refine ⟨_, rfl, nm, rfl, by decide, by decide, ?_⟩
    refine for_enum (fun i σ H2 => ∃ (v2 v3 : Option V) (f : M5.Base), σ = [some (.str (tx nm)), some (.ref d), v2, v3] ∧ Same H H2 ∧ BasesF H2 d f (2 * i + 1) ∧ M5.bases (nm.drop i) (1 + (i : Int)) f = M5.baseOf nm)
      ⟨none, none, M5.base0, rfl, sH, b0, rfl⟩ ?_ ?_
    · rintro i c σ H2 p hc hp ⟨v2, v3, f, rfl, s2, hb, hf⟩
      have hi : i < nm.length := (List.getElem?_eq_some_iff.mp hc).1
      have ec : nm[i] = c := (List.getElem?_eq_some_iff.mp hc).2
      have hcl := hlow.2 c (List.mem_of_getElem? hc)
      have hl26 := hlow.1
      refine ⟨p, _, rfl, SqT.of upd_same, rfl, _, _, rfl, _, _, rfl, rfl, ?_⟩
      have s3 : Same H2 (upd H2 p (.tup [.int (1 + (i : Int)), .str (tx [c])])) := Same.upd hp
      refine ⟨_, rfl, by show 1 ≤ sizeLine; decide, fun q1 hq1 => ?_⟩
      have s4 := s3.trans (Same.upd (o := .tup [.int (1 + (i : Int))]) hq1)
      obtain ⟨kvs, hk, hkl, hke⟩ := hb.same s4
      refine ⟨_, rfl, _, rfl, d, _, rfl, DPut.k (k := Sum.inr (tx [c])) hk (Nat.lt_of_le_of_lt (show kvs.length ≤ 100 by omega) (by decide)), ?_⟩
      have b1 := BasesF.put (c := c) (w := [1 + (i : Int)]) hk hkl hke upd_same
      generalize hH3 : upd (upd (upd H2 p _) q1 _) d _ = H3 at b1
      have hdn : H d = none := hd
      have s5 : Same H H3 := fun b o e => by
        rw [← hH3, upd_ne (ne_of_none e hdn)]
        exact s4 _ _ (s2 _ _ e)
      clear hH3
      refine ⟨_, rfl, _, rfl, by show 1 ≤ sizeLine; decide, fun q2 hq2 => ?_⟩
      obtain ⟨kvs2, hk2, hkl2, hke2⟩ := b1.same (Same.upd (o := .tup [.int (-(1 + (i : Int)))]) hq2)
      refine ⟨_, rfl, _, rfl, rfl, [c], rfl, rfl, by show 1 ≤ 1000; decide, ?_, ?_⟩
      · intro y hy
        have : y = c := by simpa using hy
        omega
      · have eup : [c].map PyProof.Rows.up1 = [c - 32] := by
          show [PyProof.Rows.up1 c] = _
          unfold PyProof.Rows.up1
          rw [if_pos ⟨by omega, by omega⟩]
        rw [eup]
        refine ⟨d, _, rfl, DPut.k (k := Sum.inr (tx [c - 32])) hk2 (Nat.lt_of_le_of_lt (show kvs2.length ≤ 100 by omega) (by decide)), ?_⟩
        have b2 := BasesF.put (c := c - 32) (w := [-(1 + (i : Int))]) hk2 hkl2 hke2 upd_same
        refine ⟨_, _, _, rfl, fun b o e => ?_, b2, ?_⟩
        · rw [upd_ne (ne_of_none e hdn)]
          exact Same.upd hq2 _ _ (s5 _ _ e)
        · rw [List.drop_eq_getElem_cons hi, ec, M5.bases] at hf
          rw [← hf]
          have e : (1 : Int) + ((i + 1 : Nat) : Int) = 1 + (i : Int) + 1 := by omega
          rw [e]
          rfl
    · rintro σ H2 ⟨v2, v3, f, rfl, s2, hb, hf⟩
      rw [List.drop_length] at hf
      have e : f = M5.baseOf nm := hf
      subst e
      obtain ⟨kvs, h1, h2, h3⟩ := hb
      have hl26 := hlow.1
      exact ⟨_, rfl, k d H2 s2 ⟨kvs, h1, by omega, h3⟩⟩
theorem str_eq_iff {a b : List Nat} : decide (V.str (tx a) = V.str (tx b)) = true ↔ a = b := by
  rw [decide_eq_true_iff]
  exact ⟨fun h => by injection h with h; exact tx_inj h, fun h => by rw [h]⟩
theorem tail_int {fs : List Nat} (hf : fs.all M5.isFig = true) (ho : M5.okFigs fs = true) : PySem.intText? (tx fs) = some (M5.figVal fs : Int) ∧ PySem.intText? (tx (45 :: fs)) = some (-(M5.figVal fs : Int)) := by
  rcases M5.figs_split hf ho with ⟨a, ha, rfl⟩ | ⟨a, b, ha, hb, rfl⟩ | ⟨a, b, c, ha, hb, hc, rfl⟩
  · rw [M5.figVal1]; exact figs1 a ha
  · rw [M5.figVal2]; exact figs2 a ha b hb
  · rw [M5.figVal3]; exact figs3 a ha b hb c hc
theorem okFigs_len {fs : List Nat} (ho : M5.okFigs fs = true) : fs.length ≤ 3 := by
  unfold M5.okFigs at ho
  rw [Bool.and_eq_true, Bool.and_eq_true, decide_eq_true_iff] at ho
  exact ho.1.2
theorem all_tw (p : Nat → Bool) : ∀ l : List Nat, (l.takeWhile p).all p = true
  | [] => rfl
  | a :: l => by
    cases h : p a with
    | true => rw [List.takeWhile_cons_of_pos h, List.all_cons, h, all_tw p l]; rfl
    | false => rw [List.takeWhile_cons_of_neg (by rw [h]; decide)]; rfl
theorem fig_57 {fs : List Nat} (h : fs.all M5.isFig = true) : ∀ c ∈ fs, 48 ≤ c ∧ c ≤ 57 := fun c hc => by
  have h1 := List.all_eq_true.mp h c hc
  unfold M5.isFig at h1
  rw [Bool.and_eq_true, decide_eq_true_iff, decide_eq_true_iff] at h1
  exact h1
theorem fig_128 {fs : List Nat} (h : fs.all M5.isFig = true) : ∀ c ∈ fs, c < 128 := fun c hc => by
  have h1 := List.all_eq_true.mp h c hc
  have h2 := (M5.fig_mem c).mpr h1
  simp at h2
  omega
theorem ok_is_number (T : Txt K mg A) : FnOk P w K mg base (CXw P w) 1 A.f_is_number A.d_is_number ["text"] spNum := by
  refine T.is_number.F.okN sc_is_number (fun vs H Q E h => ?_) (fun cdv AA outer s H vs Q E hr h => ?_)
  · obtain ⟨fs, rfl, _⟩ := h
    rfl
  · obtain ⟨fs, rfl, hl, hf, k⟩ := h
    refine ⟨_, (pss_cons (ps_cut (ps_if (PW.pt (pw_or (pt_not (pt_chain op_le op_le pe_int (pe_callB call_lenX rfl T.z_len PySem.boot_len (pa_cons (pv 0) pa_nil)) (pe_glob (v := .int 3) rfl T.g_MOST_FIGURES ⟨_, rfl⟩))) (pw_or1 (pt_not (pt_val (pe_callB (call_all rfl) rfl T.z_all PyProof.Rows.boot_all (pa_cons (pe_comp (fns := []) (ixs := []) (cl := []) rfl (pi_str (pv 0)) (compScope0 (by decide +kernel) (by decide +kernel) rfl (by decide +kernel) rfl) (fun C s H ex => (pe_cmpR op_inX (pv 0) (pe_glob (v := .str (tx [48, 49, 50, 51, 52, 53, 54, 55, 56, 57])) rfl T.g_FIGURES ⟨_, rfl⟩) rfl))) pa_nil)))))))
        (pss_one (ps_ret pe_bl))
        pss_nil))
      (pss_one (ps_ret (pe_or (pe_cmpR op_eq (pv 0) (pe_strX (l := [48]) rfl) (nomark _)) (pe_one (pe_not (pe_bm PySem.F.plainAttrs_str PySem.F.slot_str_startswith PySem.F.type_str_startswith mt_str_startswith1 (pv 0) (pa_cons (pe_strX (l := [48]) rfl) pa_nil)))))))), ?_⟩
    have hz : fs.length ≤ sizeLine := Nat.le_trans hl (by decide)
    have h128 := fig_128 hf
    refine ⟨fun σ' H' => σ' = [some (.str (tx fs))] ∧ Same H H' ∧ 1 ≤ fs.length ∧ fs.length ≤ 3, ?_, ?_⟩
    · refine ⟨_, rfl, fs, rfl, hz, _, _, rfl, rfl, _, rfl, ?_⟩
      have no : ¬ (1 ≤ fs.length ∧ fs.length ≤ 3) → Q (.bl false) H := fun h => by
        have e : M5.okFigs fs = false := Bool.eq_false_iff.mpr fun z => h (by
          unfold M5.okFigs at z
          rw [Bool.and_eq_true, Bool.and_eq_true, decide_eq_true_iff] at z
          refine ⟨?_, z.1.2⟩
          cases fs with
          | nil => exact absurd z.1.1 (by decide)
          | cons a b => simp)
        have := k H (fun _ _ h => h)
        rw [e] at this
        exact this
      refine ite2 (fun h1 => ?_) (fun h1 => ?_)
      · have g1 : (1 : Int) ≤ (fs.length : Int) := of_decide_eq_true h1
        refine ⟨_, _, rfl, rfl, _, rfl, ?_⟩
        refine ite2 (fun h2 => ?_) (fun h2 => ?_)
        · refine no fun z => ?_
          have g2 : ¬ (fs.length : Int) ≤ 3 := fun y => by rw [decide_eq_true y] at h2; cases h2
          omega
        · have g2 : (fs.length : Int) ≤ 3 := by
            by_cases y : (fs.length : Int) ≤ 3
            · exact y
            · exact absurd (by rw [decide_eq_false y]; rfl) h2
          refine ⟨_, rfl, fs, rfl, List.all_eq_true.mpr fun c hc => decide_eq_true (h128 c hc), ?_⟩
          refine comp_pure (fs.map fun c => V.str (tx [c])) (fun _ => .bl true) (fun i hi => by rw [List.length_map] at hi; exact hi) (fun i x H3 hi y => ?_) (by rw [List.length_map]; exact Nat.le_refl _) (by rw [List.length_map]; exact hz) (fun i x hx R hR => ?_) (fun D hD => ?_)
          · obtain ⟨e, c, hc, hx⟩ := y
            exact ⟨e, by rw [List.getElem?_map, hc, hx]; rfl⟩
          · rw [List.getElem?_map] at hx
            cases hc : fs[i]? with
            | none => rw [hc] at hx; cases hx
            | some c =>
              rw [hc] at hx
              have ex := Option.some.inj hx
              subst ex
              have hm := (M5.fig_mem c).mpr (List.all_eq_true.mp hf c (List.mem_of_getElem? hc))
              refine ⟨_, rfl, c, _, rfl, rfl, ?_⟩
              rw [decide_eq_true hm]
              exact hR
          · have eb : ((fs.map fun c => V.str (tx [c])).map fun _ => V.bl true) = (fs.map fun _ => true).map V.bl := by
              rw [List.map_map, List.map_map]
              rfl
            rw [eb]
            have ea : ((fs.map fun _ => true).all id) = true := by
              rw [List.all_eq_true]
              intro b hb
              obtain ⟨_, _, rfl⟩ := List.mem_map.mp hb
              rfl
            refine ⟨D, _, rfl, SqL.of upd_same, _, rfl, ?_⟩
            rw [ea]
            exact iteF ⟨rfl, Same.upd hD, by omega, by omega⟩
      · have g1 : ¬ (1 : Int) ≤ (fs.length : Int) := fun y => h1 (decide_eq_true y)
        exact ⟨false, rfl, iteT (iteT (no fun z => by omega))⟩
    rintro σ' H' ⟨rfl, s', g1, g2⟩
    refine ⟨_, rfl, rfl, _, rfl, ?_⟩
    have fin : ∀ b : Bool, (b = true ↔ (fs.head? ≠ some 48 ∨ fs = [48])) → Q (.bl b) H' := fun b hb => by
      have e : M5.okFigs fs = b := by
        unfold M5.okFigs
        have e1 : (!fs.isEmpty) = true := by
          cases fs with
          | nil => exact absurd g1 (by decide)
          | cons a b => rfl
        rw [e1, decide_eq_true g2, Bool.true_and, Bool.true_and, Bool.eq_iff_iff, Bool.or_eq_true, decide_eq_true_iff, decide_eq_true_iff]
        exact hb.symm
      rw [← e]
      exact k H' s'
    by_cases e : fs = [48]
    · refine ite2 (fun h => ?_) (fun h => ?_)
      · exact fin true ⟨fun _ => .inr e, fun _ => rfl⟩
      · exact absurd (str_eq_iff.mpr e) h
    · refine ite2 (fun h => ?_) (fun h => ?_)
      · exact absurd (str_eq_iff.mp h) e
      · refine ⟨_, rfl, rfl, fs, 48, rfl, rfl, _, rfl, ?_⟩
        refine fin _ ?_
        by_cases y : fs.head? = some 48
        · rw [decide_eq_true y]
          exact ⟨(fun z => by cases z), (fun z => by rcases z with z | z <;> first | exact absurd y z | exact absurd z e)⟩
        · rw [decide_eq_false y]
          exact ⟨fun _ => .inl y, fun _ => rfl⟩
theorem ok_power_of (T : Txt K mg A) : FnOk P w K mg base (CXw P w) 1 A.f_power_of A.d_power_of ["written"] spPowOf := by
  refine T.power_of.F.okN sc_power_of (fun vs H Q E h => ?_) (fun cdv AA outer s H vs Q E hr h => ?_)
  · obtain ⟨u, p, rfl, _⟩ := h
    rfl
  · obtain ⟨u, p, rfl, ht, k⟩ := h
    refine ⟨_, (pss_cons (ps_if (pt_cmpR op_eq (pv 0) (pe_strX (l := []) rfl) (nomark _))
        (pss_one (ps_ret pe_int))
        pss_nil)
      (pss_one (ps_ret (pe_callTy call_intX rfl T.z_int PyProof.Rows.boot_int (pa_cons (pe_slice sl_X (pv 0) (po_some pe_int) po_none) pa_nil))))), ?_⟩
    refine ⟨_, rfl, rfl, _, rfl, ?_⟩
    cases ht with
    | none => exact ite2 (fun _ => k) (fun h => absurd (decide_eq_true rfl) h)
    | @pos fs hf ho =>
      refine ite2 (fun h => ?_) (fun _ => ?_)
      · rw [str_eq_iff] at h; cases h
      have := okFigs_len ho
      refine ⟨_, rfl, 1, rfl, 94 :: fs, rfl, Nat.le_trans (show (94 :: fs).length ≤ 100 by simp only [List.length_cons]; omega) (by decide), .inr ⟨rfl, 1, rfl, by simp, ?_⟩⟩
      exact ⟨fs, _, rfl, by omega, (tail_int hf ho).1, k⟩
    | @neg fs hf ho =>
      refine ite2 (fun h => ?_) (fun _ => ?_)
      · rw [str_eq_iff] at h; cases h
      have := okFigs_len ho
      refine ⟨_, rfl, 1, rfl, 94 :: 45 :: fs, rfl, Nat.le_trans (show (94 :: 45 :: fs).length ≤ 100 by simp only [List.length_cons]; omega) (by decide), .inr ⟨rfl, 1, rfl, by simp, ?_⟩⟩
      exact ⟨45 :: fs, _, rfl, by simp only [List.length_cons]; omega, (tail_int hf ho).2, k⟩
theorem ok_power_end (T : Txt K mg A) : FnOk P w K mg base (CXw P w) 2 A.f_power_end A.d_power_end ["text", "at"] (spPowEnd A.c_NoWord) := by
  have G_is_number : FnOk P w K mg base (CXw P w) 1 A.f_is_number A.d_is_number ["text"] spNum := ok_is_number T
  refine T.power_end.F.okX sc_power_end (fun vs H Q E h => ?_) (fun cdv AA outer s H vs Q E hr h => ?_)
  · obtain ⟨t, i, rfl, _⟩ := h
    rfl
  · obtain ⟨t, i, rfl, hl, hi, k, kE⟩ := h
    refine ⟨_, (pss_cons (ps_if (pt_not (pt_val (pe_bm PySem.F.plainAttrs_str PySem.F.slot_str_startswith PySem.F.type_str_startswith mt_str_startswith2 (pv 0) (pa_cons (pe_strX (l := [94]) rfl) (pa_cons (pv 1) pa_nil)))))
        (pss_one (ps_ret (pv 1)))
        pss_nil)
      (pss_cons (ps_set (i := 2) sc_power_end.nd rfl (Or.inl rfl) (pe_op op_add (pv 1) pe_int))
      (pss_cons (ps_cut (ps_if (pt_val (pe_bm PySem.F.plainAttrs_str PySem.F.slot_str_startswith PySem.F.type_str_startswith mt_str_startswith2 (pv 0) (pa_cons (pe_strX (l := [45]) rfl) (pa_cons (pv 2) pa_nil))))
        (pss_one (ps_set (i := 2) sc_power_end.nd rfl (Or.inl rfl) (pe_op op_add (pv 2) pe_int)))
        pss_nil))
      (pss_cons (ps_set (i := 3) sc_power_end.nd rfl (Or.inl rfl) (pv 2))
      (pss_cons (ps_cut (ps_while PassesOwn.leaving (PW.pt (pw_and (pt_cmpR op_lt (pv 3) (pe_callB call_lenX rfl T.z_len PySem.boot_len (pa_cons (pv 0) pa_nil)) (nomark _)) (pw_and1 (pt_cmpR op_inX (pe_ix ix_X (pv 0) (pv 3) (fun _ _ => rfl)) (pe_glob (v := .str (tx [48, 49, 50, 51, 52, 53, 54, 55, 56, 57])) rfl T.g_FIGURES ⟨_, rfl⟩) rfl))))
        (pss_one (ps_set (i := 3) sc_power_end.nd rfl (Or.inl rfl) (pe_op op_add (pv 3) pe_int)))))
      (pss_cons (ps_set (i := 4) sc_power_end.nd rfl (Or.inl rfl) (pe_slice sl_2X (pv 0) (po_some (pv 2)) (po_some (pv 3))))
      (pss_cons (ps_if (pt_not (pt_val (pe_call (G_is_number) (hr.mono (by decide)) rfl T.is_number.m T.is_number.F.kp T.is_number.b .nil passF (pa_cons (pv 4) pa_nil))))
        (pss_one (ps_raise (E := E) rfl rfl T.m_NoWord T.x_NoWord (pe_joined (pj_cons (pe_fmtRL (pv 4)) (pj_cons (pe_strX (l := [32, 105, 115, 32, 110, 111, 32, 112, 111, 119, 101, 114]) rfl) pj_nil))) (fun pins σ H s h' e vs I hm q => leave_made I hm q)))
        pss_nil)
      (pss_one (ps_ret (pv 3)))))))))), ?_⟩
    have hz : t.length ≤ sizeLine := Nat.le_trans hl (by decide)
    refine ⟨_, rfl, rfl, _, rfl, t, 94, _, i, rfl, rfl, rfl, _, rfl, ?_⟩
    by_cases h94 : t[i]? = some 94
    · refine iteNS h94 ?_
      have hil : i < t.length := (List.getElem?_eq_some_iff.mp h94).1
      have e94 : t[i] = 94 := (List.getElem?_eq_some_iff.mp h94).2
      rw [List.drop_eq_getElem_cons hil, e94] at k kE
      refine ⟨_, rfl, _, _, rfl, rfl, ?_⟩
      refine ⟨fun σ' H' => ∃ st : Nat, σ' = [some (.str (tx t)), some (.int i), some (.int st), none, none] ∧ H' = H ∧ st ≤ t.length ∧ (M5.okFigs ((t.drop st).takeWhile M5.isFig) = true → ∀ H9, Same H H9 → ∀ e : Nat, e + ((t.drop st).dropWhile M5.isFig).length = t.length → Q (.int e) H9) ∧ (M5.okFigs ((t.drop st).takeWhile M5.isFig) = false → ∀ H9, Same H H9 → E (.ref A.c_NoWord) none H9), ?_, ?_⟩
      · refine ⟨_, rfl, rfl, _, rfl, t, 45, _, i + 1, rfl, rfl, by omega, _, rfl, ?_⟩
        refine ite2 (fun h => ?_) (fun h => ?_)
        · have h45 : t[i + 1]? = some 45 := of_decide_eq_true h
          have hil2 : i + 1 < t.length := (List.getElem?_eq_some_iff.mp h45).1
          have e45 : t[i + 1] = 45 := (List.getElem?_eq_some_iff.mp h45).2
          rw [List.drop_eq_getElem_cons hil2, e45] at k kE
          refine ⟨_, rfl, _, _, rfl, rfl, i + 2, ?_, rfl, by omega, fun ho H9 s9 e he => k _ _ (M7.pow_m ho) H9 s9 e he, fun ho => kE (M7.pow_m0 ho)⟩
          rw [show ((i + 2 : Nat) : Int) = (i : Int) + 1 + 1 by omega]
          rfl
        · have h45 : ¬ t[i + 1]? = some 45 := fun z => h (decide_eq_true z)
          have hd : (t.drop (i + 1)).head? ≠ some 45 := by rw [List.head?_drop]; exact h45
          refine ⟨i + 1, ?_, rfl, by omega, fun ho H9 s9 e he => k _ _ (M7.pow_p hd ho) H9 s9 e he, fun ho => kE (M7.pow_p0 hd ho)⟩
          rw [show ((i + 1 : Nat) : Int) = (i : Int) + 1 by omega]
          rfl
      rintro σ' H' ⟨st, rfl, rfl, hst, k, kE⟩
      refine ⟨_, rfl, ?_⟩
      refine ⟨fun σ' H2 => ∃ e : Nat, σ' = [some (.str (tx t)), some (.int i), some (.int st), some (.int e), none] ∧ H2 = H' ∧ st ≤ e ∧ e ≤ t.length ∧ (t.drop st).takeWhile M5.isFig = (t.drop st).take (e - st) ∧ (t.drop st).dropWhile M5.isFig = t.drop e, ?_, ?_⟩
      · refine ⟨fun m σ H2 => ∃ e : Nat, m = t.length - e ∧ σ = [some (.str (tx t)), some (.int i), some (.int st), some (.int e), none] ∧ H2 = H' ∧ st ≤ e ∧ e ≤ t.length ∧ ∀ j, st ≤ j → j < e → ∃ c, t[j]? = some c ∧ M5.isFig c = true,
          ⟨_, st, rfl, rfl, rfl, Nat.le_refl _, hst, fun j h1 h2 => by omega⟩, ?_⟩
        rintro m σ H2 ⟨e, rfl, rfl, rfl, hse, hel, hall⟩
        have fin : (∀ c, t[e]? = some c → M5.isFig c = false) → (t.drop st).takeWhile M5.isFig = (t.drop st).take (e - st) ∧ (t.drop st).dropWhile M5.isFig = t.drop e := fun hn => by
          have := M5.span_at (t := t) (i := st) (n := e - st) (fun j h1 h2 => hall j h1 (by omega)) (by rw [show st + (e - st) = e by omega]; exact hn)
          rw [show st + (e - st) = e by omega] at this
          exact this
        refine ⟨_, rfl, _, rfl, t, rfl, hz, _, _, rfl, rfl, _, rfl, ?_⟩
        refine ite2 (fun h => ?_) (fun h => ?_)
        · have hlt : e < t.length := by
            have : (e : Int) < (t.length : Int) := of_decide_eq_true h
            omega
          have qe : t[e]? = some t[e] := List.getElem?_eq_getElem hlt
          refine ⟨_, rfl, _, rfl, t, _, t[e], rfl, rfl, hz, atI_nat qe, t[e], _, rfl, rfl, _, rfl, ?_⟩
          refine ite2 (fun h => ?_) (fun h => ?_)
          · have hf : M5.isFig t[e] = true := (M5.fig_mem _).mp (of_decide_eq_true h)
            refine ⟨_, fun _ _ h => h, ?_⟩
            refine ⟨_, rfl, _, _, rfl, rfl, t.length - (e + 1), by omega, e + 1, rfl, rfl, rfl, by omega, by omega, fun j h1 h2 => ?_⟩
            by_cases hj : j = e
            · exact ⟨t[e], by rw [hj]; exact qe, hf⟩
            · exact hall j h1 (by omega)
          · have hf : M5.isFig t[e] = false := by
              cases q : M5.isFig t[e] with
              | false => rfl
              | true => exact absurd (decide_eq_true ((M5.fig_mem _).mpr q)) h
            exact ⟨e, rfl, rfl, hse, hel, fin fun c hc => by rw [qe] at hc; cases hc; exact hf⟩
        · have hge : t.length ≤ e := by
            have : ¬ (e : Int) < (t.length : Int) := fun z => h (decide_eq_true z)
            omega
          refine iteF ?_
          exact ⟨e, rfl, rfl, hse, hel, fin fun c hc => by rw [List.getElem?_eq_none hge] at hc; cases hc⟩
      rintro σ' H2 ⟨e, rfl, rfl, hse, hel, h1, h2⟩
      have hfg := all_tw M5.isFig (t.drop st)
      rw [h1] at hfg
      rw [h1, h2] at k
      rw [h1] at kE
      refine ⟨_, rfl, _, rfl, _, rfl, _, rfl, _, rfl, t, st, e, rfl, hz, rfl, rfl, hse, hel, ?_⟩
      have hfl : ((t.drop st).take (e - st)).length ≤ 100000 := by rw [List.length_take, List.length_drop]; omega
      generalize (t.drop st).take (e - st) = fs at hfg hfl k kE ⊢
      refine ⟨_, rfl, fs, rfl, hfl, hfg, fun H9 s9 => ?_⟩
      refine ⟨_, rfl, ?_⟩
      cases ho : M5.okFigs fs with
      | true => exact iteF ⟨_, rfl, k ho H9 s9 e (by rw [List.length_drop]; omega)⟩
      | false =>
        refine iteT ?_
        exact ⟨_, rfl, fs, rfl, fig_57 hfg, hfl, fun lr hlr => ⟨lr, rfl, by (simp only [List.length_append, List.length_cons, List.length_nil]; omega), _, rfl, by (simp only [List.length_append, List.length_cons, List.length_nil]; omega), by (simp only [List.length_append, List.length_cons, List.length_nil]; omega), kE ho H9 s9⟩⟩
    · have e : M5.pow (t.drop i) = some (1, t.drop i) := M5.pow_else (by rw [List.head?_drop]; exact h94)
      refine ite2 (fun _ => ?_) (fun h => ?_)
      · exact ⟨_, rfl, k _ _ e _ (fun _ _ h => h) i (by rw [List.length_drop]; omega)⟩
      · exact absurd (by rw [decide_eq_false h94]; rfl) h
theorem ok_marks_of (T : Txt K mg A) : FnOk P w K mg base (CXw P w) 3 A.f_marks_of A.d_marks_of ["bases", "text"] (spMarks A.c_NoWord) := by
  have G_power_end : FnOk P w K mg base (CXw P w) 2 A.f_power_end A.d_power_end ["text", "at"] (spPowEnd A.c_NoWord) := ok_power_end T
  have G_power_of : FnOk P w K mg base (CXw P w) 1 A.f_power_of A.d_power_of ["written"] spPowOf := ok_power_of T
  refine T.marks_of.F.okX sc_marks_of (fun vs H Q E h => ?_) (fun cdv AA outer s H vs Q E hr h => ?_)
  · obtain ⟨d, t, f, rfl, _⟩ := h
    rfl
  · obtain ⟨d, t, f, rfl, hb, hl, h128, k, kE⟩ := h
    have hu2 := hu_of hr
    refine ⟨_, (pss_cons (ps_set (i := 2) sc_marks_of.nd rfl (Or.inl rfl) (pe_lst pa_nil))
      (pss_cons (ps_set (i := 3) sc_marks_of.nd rfl (Or.inl rfl) pe_int)
      (pss_cons (ps_cut (ps_while PassesOwn.leaving (pt_cmpR op_lt (pv 3) (pe_callB call_lenX rfl T.z_len PySem.boot_len (pa_cons (pv 1) pa_nil)) (nomark _))
        (pss_cons (ps_set (i := 4) sc_marks_of.nd rfl (Or.inl rfl) (pe_ix ix_X (pv 1) (pv 3) (fun _ _ => rfl)))
        (pss_cons (ps_cut (ps_if (PW.pt (pw_and (pt_cmp (pc_dnotin hu2 (pv 4) (pv 0))) (pw_and (pt_cmpR op_ne (pv 4) (pe_strX (l := [40]) rfl) (nomark _)) (pw_and1 (pt_cmpR op_ne (pv 4) (pe_strX (l := [41]) rfl) (nomark _))))))
          (pss_one (ps_raise (E := E) rfl rfl T.m_NoWord T.x_NoWord (pe_joined (pj_cons (pe_fmtR (pv 4)) (pj_cons (pe_strX (l := [32, 99, 97, 110, 39, 116, 32, 115, 116, 97, 110, 100, 32, 97, 116, 32, 112, 108, 97, 99, 101, 32]) rfl) (pj_cons (pe_fmtI (pv 3)) pj_nil)))) (fun pins σ H s h' e vs I hm q => leave_made I hm q)))
          pss_nil))
        (pss_cons (ps_set (i := 3) sc_marks_of.nd rfl (Or.inl rfl) (pe_op op_add (pv 3) pe_int))
        (pss_cons (ps_set (i := 5) sc_marks_of.nd rfl (Or.inl rfl) (pv 3))
        (pss_cons (ps_cut (ps_if (pt_cmpR op_ne (pv 4) (pe_strX (l := [40]) rfl) (nomark _))
          (pss_one (ps_set (i := 5) sc_marks_of.nd rfl (Or.inl rfl) (pe_call (G_power_end) (hr.mono (by decide)) rfl T.power_end.m T.power_end.F.kp T.power_end.b .nil pass1 (pa_cons (pv 1) (pa_cons (pv 3) pa_nil)))))
          pss_nil))
        (pss_cons (ps_expr (pe_bm PySem.F.plainAttrs_list PySem.F.slot_list_append PySem.F.type_list_append mt_append (pv 2) (pa_cons (pe_tup (pa_cons (pv 4) (pa_cons (pe_call (G_power_of) (hr.mono (by decide)) rfl T.power_of.m T.power_of.F.kp T.power_of.b .nil passF (pa_cons (pe_slice sl_2X (pv 1) (po_some (pv 3)) (po_some (pv 5))) pa_nil)) pa_nil))) pa_nil)))
        (pss_one (ps_set (i := 3) sc_marks_of.nd rfl (Or.inl rfl) (pv 5)))))))))))
      (pss_one (ps_ret (pv 2)))))), ?_⟩
    have hz : t.length ≤ sizeLine := Nat.le_trans hl (by decide)
    refine ⟨Nat.zero_le _, fun l hln => ?_⟩
    refine ⟨fun σ H2 => ∃ (v3 v4 v5 : Option V) (M : List (Nat × Int)), σ = [some (.ref d), some (.str (tx t)), some (.ref l), v3, v4, v5] ∧ Same H H2 ∧ MarksAt H2 l M ∧ M5.marks f t = some M, ?_, ?_⟩
    · refine ⟨fun m σ H2 => ∃ (i : Nat) (ps : List Addr) (M1 : List (Nat × Int)) (v4 v5 : Option V), m = t.length - i ∧ σ = [some (.ref d), some (.str (tx t)), some (.ref l), some (.int i), v4, v5] ∧ Same H H2 ∧ H2 l = some (.lst (ps.map V.ref)) ∧ MarksL H2 ps M1 ∧ M5.marks f t = (M5.marks f (t.drop i)).map (M1 ++ ·) ∧ i ≤ t.length ∧ ps.length ≤ i,
        ⟨_, 0, [], [], none, none, rfl, rfl, Same.upd hln, upd_same, ⟨rfl, fun i p m h1 _ => by cases h1⟩, ?_, Nat.zero_le _, Nat.le_refl _⟩, ?_⟩
      · rw [List.drop_zero]
        cases M5.marks f t <;> rfl
      rintro m σ H2 ⟨i, ps, M1, v4, v5, rfl, rfl, s2, hl2, hml, hm2, hi, hpl⟩
      refine ⟨_, rfl, _, rfl, t, rfl, hz, _, _, rfl, rfl, _, rfl, ?_⟩
      refine ite2 (fun h => ?_) (fun h => ?_)
      · have hlt : i < t.length := by
          have : (i : Int) < (t.length : Int) := of_decide_eq_true h
          omega
        refine ⟨_, fun _ _ h => h, ?_⟩
        have qi : t[i]? = some t[i] := List.getElem?_eq_getElem hlt
        have hc128 := h128 _ (List.getElem_mem hlt)
        rw [List.drop_eq_getElem_cons hlt] at hm2
        generalize hc : t[i] = c at hm2 qi hc128
        refine ⟨_, rfl, _, rfl, t, _, c, rfl, rfl, hz, atI_nat qi, ?_⟩
        refine ⟨fun σ' H' => σ' = [some (.ref d), some (.str (tx t)), some (.ref l), some (.int i), some (.str (tx [c])), v5] ∧ H' = H2 ∧ M5.bad f c = false, ?_, ?_⟩
        · obtain ⟨kvs, hkd, hkl, hke⟩ := hb.same s2
          have hkc := hke c
          refine ⟨_, rfl, _, rfl, d, _, rfl, DGet.k (k := Sum.inr (tx [c])) hkd, _, rfl, ?_⟩
          cases hf : f c with
          | some w =>
            rw [hf] at hkc
            cases hv : valV kvs (Sum.inr (tx [c])) with
            | none => rw [hv] at hkc; exact hkc.elim
            | some v => exact iteF (iteF ⟨rfl, rfl, by unfold M5.bad; rw [hf]; rfl⟩)
          | none =>
            rw [hf] at hkc
            cases hv : valV kvs (Sum.inr (tx [c])) with
            | some v => rw [hv] at hkc; exact hkc.elim
            | none =>
              refine iteT ⟨_, rfl, rfl, _, rfl, ?_⟩
              by_cases c1 : c = 40
              · subst c1
                exact iteNS rfl (iteF ⟨rfl, rfl, by unfold M5.bad; simp⟩)
              · have ee : (!decide (V.str (tx [c]) = V.str (tx [40]))) = true := by
                  rw [decide_eq_false (fun z => c1 (by injection z with z; have := tx_inj z; simpa using this))]
                  rfl
                rw [ee]
                refine iteT ⟨_, rfl, rfl, _, rfl, ?_⟩
                by_cases c2 : c = 41
                · subst c2
                  exact iteNS rfl ⟨rfl, rfl, by unfold M5.bad; simp⟩
                · have ee : (!decide (V.str (tx [c]) = V.str (tx [41]))) = true := by
                    rw [decide_eq_false (fun z => c2 (by injection z with z; have := tx_inj z; simpa using this))]
                    rfl
                  rw [ee]
                  refine iteT ?_
                  have hbad : M5.bad f c = true := by unfold M5.bad; rw [hf]; simp [c1, c2]
                  refine ⟨_, rfl, c, rfl, hc128, fun lr hlr => ⟨lr, rfl, by (simp only [List.length_append, List.length_cons, List.length_nil]; omega), _, rfl, by (simp only [List.length_append, List.length_cons, List.length_nil]; omega), _, rfl, _, rfl, by omega, _, rfl, ?_, ?_⟩⟩
                  · have hd := digs_len (n := (i : Int)) (by omega) (by omega)
                    (simp only [List.length_append, List.length_cons, List.length_nil]; omega)
                  · refine ⟨?_, kE ?_ _ s2⟩
                    · have hd := digs_len (n := (i : Int)) (by omega) (by omega)
                      (simp only [List.length_append, List.length_cons, List.length_nil]; omega)
                    · rw [hm2, M5.marks_bad hbad]
                      rfl
        rintro σ' H' ⟨rfl, rfl, hbad⟩
        refine ⟨_, rfl, _, _, rfl, rfl, ?_⟩
        refine ⟨_, rfl, ?_⟩
        refine ⟨fun σ' H2 => ∃ (e : Nat) (u r : List Nat) (p : Int), σ' = [some (.ref d), some (.str (tx t)), some (.ref l), some (.int ((i : Int) + 1)), some (.str (tx [c])), some (.int e)] ∧ Same H' H2 ∧ i + 1 ≤ e ∧ e ≤ t.length ∧ t.drop e = r ∧ (t.drop (i + 1)).take (e - (i + 1)) = u ∧ M5.Tail u p ∧ M5.marks f (c :: t.drop (i + 1)) = (M5.marks f r).map ((c, p) :: ·), ?_, ?_⟩
        · refine ⟨_, rfl, rfl, _, rfl, ?_⟩
          refine ite2 (fun h => ?_) (fun h => ?_)
          · have c40 : c ≠ 40 := fun z => by subst z; rw [decide_eq_true rfl] at h; cases h
            refine ⟨_, rfl, _, rfl, t, i + 1, ?_, hl, by omega, fun p r hp H9 s9 e' he' => ?_, fun hp H9 s9 => ?_⟩
            · rw [show ((i + 1 : Nat) : Int) = (i : Int) + 1 by omega]
              rfl
            · obtain ⟨u, htd, hT⟩ := M5.pow_tail hp
              have hlen := congrArg List.length htd
              rw [List.length_drop, List.length_append] at hlen
              have ee : e' = i + 1 + u.length := by omega
              subst ee
              refine ⟨i + 1 + u.length, u, r, p, rfl, s9, by omega, by omega, ?_, ?_, hT, M5.marks_sign hbad c40 hp⟩
              · rw [← List.drop_drop, htd, List.drop_left]
              · rw [show i + 1 + u.length - (i + 1) = u.length by omega, htd, List.take_left]
            · refine kE ?_ _ (s2.trans s9)
              rw [hm2, M5.marks_pow hbad c40 hp]
              rfl
          · have c40 : c = 40 := by
              by_cases z : c = 40
              · exact z
              · exact absurd (by rw [decide_eq_false (fun y => z (by injection y with y; have := tx_inj y; simpa using this))]; rfl) h
            subst c40
            refine ⟨i + 1, [], t.drop (i + 1), 1, ?_, (fun _ _ h => h), Nat.le_refl _, by omega, rfl, by rw [Nat.sub_self]; rfl, M5.Tail.none, M5.marks_open⟩
            rw [show ((i + 1 : Nat) : Int) = (i : Int) + 1 by omega]
            rfl
        rintro σ' H3 ⟨e, u, r, p, rfl, s9, he1, he2, her, heu, hT, hmk⟩
        replace hl2 := s9 _ _ hl2
        replace hml := hml.same s9
        replace s2 := s2.trans s9
        refine ⟨_, rfl, .inl ⟨rfl, _, SqL.of hl2⟩, _, rfl, _, rfl, _, rfl, _, rfl, _, rfl, _, rfl, t, i + 1, e, rfl, hz, congrArg some (by omega), rfl, by omega, he2, ?_⟩
        rw [heu]
        refine ⟨u, p, rfl, hT, by show 2 ≤ sizeLine; decide, fun q hq => ?_⟩
        have s3 := Same.upd (o := .tup [.str (tx [c]), .int p]) hq
        refine ⟨l, _, _, rfl, rfl, s3 _ _ hl2, ?_, ?_⟩
        · rw [List.length_map]
          exact Nat.lt_of_le_of_lt (show ps.length ≤ 100000 by omega) (by decide)
        have hlq : q ≠ l := Ne.symm (ne_of_none hl2 hq)
        refine ⟨_, rfl, t.length - e, by omega, e, ps ++ [q], M1 ++ [(c, p)], _, _, rfl, rfl, fun b o eb => ?_, ?_, ?_, ?_, he2, ?_⟩
        · rw [upd_ne (ne_of_none eb hln)]
          exact s3 _ _ (s2 _ _ eb)
        · rw [upd_same, List.map_append]
          rfl
        · have hm3 := (hml.same s3).snoc (p := q) (m := (c, p)) upd_same
          refine ⟨hm3.1, fun j y n h1 h2 => ?_⟩
          have := hm3.2 j y n h1 h2
          rw [upd_ne (ne_of this (s3 _ _ hl2) (by intro z; cases z))]
          exact this
        · rw [her, hm2, hmk]
          cases M5.marks f r with
          | none => rfl
          | some L => show some _ = some _; simp
        · rw [List.length_append]
          show ps.length + 1 ≤ e
          omega
      · have hge : i = t.length := by
          have : ¬ (i : Int) < (t.length : Int) := fun z => h (decide_eq_true z)
          omega
        subst hge
        rw [List.drop_length, M5.marks_nil] at hm2
        refine ⟨_, _, _, M1, rfl, s2, ⟨ps, hl2, hml⟩, ?_⟩
        rw [hm2]
        show some (M1 ++ []) = _
        rw [List.append_nil]
    rintro σ H2 ⟨v3, v4, v5, M, rfl, s2, hm2, hM⟩
    exact ⟨_, rfl, k M hM l H2 s2 hm2⟩
theorem ok_check_brackets (T : Txt K mg A) : FnOk P w K mg base (CXw P w) 1 A.f_check_brackets A.d_check_brackets ["marks"] (spBrk A.c_NoWord) := by
  refine T.check_brackets.F.okX sc_check_brackets (fun vs H Q E h => ?_) (fun cdv AA outer s H vs Q E hr h => ?_)
  · obtain ⟨l, M, rfl, _⟩ := h
    rfl
  · obtain ⟨l, M, rfl, hM, k, kE⟩ := h
    refine ⟨_, (pss_cons (ps_set (i := 1) sc_check_brackets.nd rfl (Or.inl rfl) pe_int)
      (pss_cons (ps_set (i := 2) sc_check_brackets.nd rfl (Or.inl rfl) (pe_strX (l := [40]) rfl))
      (pss_cons (ps_for PassesOwn.leaving rfl (pi_list (pv 0)) (pg_name (i := 3) sc_check_brackets.nd rfl (Or.inl rfl))
        (pss_cons (ps_set (i := 4) sc_check_brackets.nd rfl (Or.inl rfl) (pe_ix ix_tup (pv 3) pe_int (fun _ _ => rfl)))
        (pss_cons (ps_cut (ps_if (pt_cmpR op_eq (pv 4) (pe_strX (l := [40]) rfl) (nomark _))
          (pss_one (ps_set (i := 1) sc_check_brackets.nd rfl (Or.inl rfl) (pe_op op_add (pv 1) pe_int)))
          (pss_one (ps_cut (ps_if (pt_cmpR op_eq (pv 4) (pe_strX (l := [41]) rfl) (nomark _))
            (pss_cons (ps_if (pt_cmpR op_eq (pv 1) pe_int (nomark _))
              (pss_one (ps_raise (E := E) rfl rfl T.m_NoWord T.x_NoWord (pe_strX (l := [97, 32, 98, 114, 97, 99, 107, 101, 116, 32, 105, 115, 32, 99, 108, 111, 115, 101, 100, 32, 116, 111, 111, 32, 111, 102, 116, 101, 110]) rfl) (fun pins σ H s h' e vs I hm q => leave_made I hm q)))
              pss_nil)
            (pss_cons (ps_if (pt_cmpR op_eq (pv 2) (pe_strX (l := [40]) rfl) (nomark _))
              (pss_one (ps_raise (E := E) rfl rfl T.m_NoWord T.x_NoWord (pe_strX (l := [98, 114, 97, 99, 107, 101, 116, 115, 32, 97, 114, 101, 32, 101, 109, 112, 116, 121]) rfl) (fun pins σ H s h' e vs I hm q => leave_made I hm q)))
              pss_nil)
            (pss_one (ps_set (i := 1) sc_check_brackets.nd rfl (Or.inl rfl) (pe_op op_sub (pv 1) pe_int)))))
            pss_nil)))))
        (pss_one (ps_set (i := 2) sc_check_brackets.nd rfl (Or.inl rfl) (pv 4))))))
      (pss_cons (ps_if (pt_cmpR op_gt (pv 1) pe_int (nomark _))
        (pss_one (ps_raise (E := E) rfl rfl T.m_NoWord T.x_NoWord (pe_strX (l := [97, 32, 98, 114, 97, 99, 107, 101, 116, 32, 105, 115, 32, 110, 111, 116, 32, 99, 108, 111, 115, 101, 100]) rfl) (fun pins σ H s h' e vs I hm q => leave_made I hm q)))
        pss_nil)
      (pss_one (ps_if (pt_cmpR op_eq (pv 2) (pe_strX (l := [40]) rfl) (nomark _))
        (pss_one (ps_raise (E := E) rfl rfl T.m_NoWord T.x_NoWord (pe_strX (l := [116, 104, 101, 32, 116, 101, 120, 116, 32, 105, 115, 32, 101, 109, 112, 116, 121]) rfl) (fun pins σ H s h' e vs I hm q => leave_made I hm q)))
        pss_nil)))))), ?_⟩
    generalize ho : M5.chk M 0 40 = o at k kE
    obtain ⟨ps, hl, hm⟩ := hM
    refine ⟨_, rfl, l, rfl, ⟨_, SqL.of hl⟩, ?_⟩
    refine for_list (K := K) (a := l) (xs := ps.map V.ref) (fun i σ H2 => ∃ (dp ah : Nat) (v3 v4 : Option V), σ = [some (.ref l), some (.int dp), some (.str (tx [ah])), v3, v4] ∧ H2 = H ∧ M5.chk (M.drop i) dp ah = o)
      ⟨0, 40, none, none, rfl, rfl, ho⟩ (fun i σ H2 _ ⟨_, _, _, _, _, e, _⟩ => by rw [e]; exact SqL.of hl) ?_ ?_
    · rintro i y σ H2 hi ⟨dp, ah, v3, v4, rfl, rfl, hc⟩
      rw [List.getElem?_map] at hi
      cases hp : ps[i]? with
      | none => rw [hp] at hi; cases hi
      | some p =>
        rw [hp] at hi
        have ey : V.ref p = y := Option.some.inj hi
        subst ey
        have hil : i < M.length := by rw [← hm.1]; exact (List.getElem?_eq_some_iff.mp hp).1
        have qm : M[i]? = some M[i] := List.getElem?_eq_getElem hil
        have hpp := hm.2 i p _ hp qm
        rw [List.drop_eq_getElem_cons hil] at hc
        generalize M[i] = mk at hpp hc
        obtain ⟨c, pw⟩ := mk
        refine ⟨_, rfl, p, _, _, _, rfl, rfl, SqT.of hpp, rfl, ?_⟩
        refine ⟨fun σ' H' => ∃ dp' : Nat, σ' = [some (.ref l), some (.int dp'), some (.str (tx [ah])), some (.ref p), some (.str (tx [c]))] ∧ H' = H2 ∧ M5.chk (M.drop (i + 1)) dp' c = o, ?_, ?_⟩
        · rw [M5.chk] at hc
          refine ⟨_, rfl, rfl, _, rfl, ?_⟩
          refine ite2 (fun h => ?_) (fun h => ?_)
          · rw [str_eq_iff] at h
            have h' : c = 40 := by simpa using h
            subst h'
            rw [if_pos rfl] at hc
            refine ⟨_, rfl, _, _, rfl, rfl, dp + 1, ?_, rfl, hc⟩
            rw [show ((dp + 1 : Nat) : Int) = (dp : Int) + 1 by omega]
            rfl
          · rw [str_eq_iff] at h
            have h' : c ≠ 40 := fun z => h (by rw [z])
            rw [if_neg h'] at hc
            refine ⟨_, ?_, fun _ _ h => h⟩
            refine ⟨_, rfl, rfl, _, rfl, ?_⟩
            refine ite2 (fun h => ?_) (fun h => ?_)
            · rw [str_eq_iff] at h
              have h2 : c = 41 := by simpa using h
              subst h2
              rw [if_pos rfl] at hc
              refine ⟨_, rfl, rfl, _, rfl, ?_⟩
              refine ite2 (fun h => ?_) (fun hd => ?_)
              · have := of_decide_eq_true h
                injection this with this
                have d0 : dp = 0 := by omega
                subst d0
                exact kE (by rw [← hc]; rfl)
              have d0 : dp ≠ 0 := fun z => hd (decide_eq_true (by rw [z]; rfl))
              refine ⟨_, rfl, rfl, _, rfl, ?_⟩
              refine ite2 (fun h => ?_) (fun ha => ?_)
              · rw [str_eq_iff] at h
                have a0 : ah = 40 := by simpa using h
                subst a0
                exact kE (by rw [← hc]; simp)
              have a0 : ah ≠ 40 := fun z => ha (str_eq_iff.mpr (by rw [z]))
              refine ⟨_, rfl, _, _, rfl, rfl, dp - 1, ?_, rfl, by rw [← hc]; simp [d0, a0]⟩
              rw [show ((dp - 1 : Nat) : Int) = (dp : Int) - 1 by omega]
              rfl
            · rw [str_eq_iff] at h
              rw [if_neg (fun z => h (by rw [z]))] at hc
              exact ⟨dp, rfl, rfl, hc⟩
        rintro σ' H' ⟨dp', rfl, rfl, hc'⟩
        exact ⟨_, rfl, dp', c, _, _, rfl, rfl, hc'⟩
    · rintro σ H2 ⟨dp, ah, v3, v4, rfl, rfl, hc⟩
      have e0 : M.drop (ps.map V.ref).length = [] := by
        rw [List.length_map, hm.1, List.drop_length]
      rw [e0, M5.chk] at hc
      refine ⟨_, rfl, _, _, rfl, rfl, _, rfl, ?_⟩
      refine ite2 (fun h => ?_) (fun hd => ?_)
      · have : (0 : Int) < (dp : Int) := of_decide_eq_true h
        exact kE (by rw [← hc, decide_eq_false (by omega)]; rfl)
      have d0 : dp = 0 := by
        have : ¬ (0 : Int) < (dp : Int) := fun z => hd (decide_eq_true z)
        omega
      refine ⟨_, rfl, rfl, _, rfl, ?_⟩
      refine ite2 (fun h => ?_) (fun ha => k ?_)
      · rw [str_eq_iff] at h
        have a0 : ah = 40 := by simpa using h
        exact kE (by rw [← hc, d0, a0]; rfl)
      · have a0 : ah ≠ 40 := fun z => ha (str_eq_iff.mpr (by rw [z]))
        rw [← hc, d0]
        simp [a0]
def HeldL (H : Hp) (rs : List Addr) (st : List (List Int)) : Prop := rs.length = st.length ∧ ∀ (i : Nat) (p : Addr) (x : List Int), rs[i]? = some p → st[i]? = some x → H p = some (.tup (intV x))
theorem HeldL.same {H H' : Hp} {rs : List Addr} {st : List (List Int)} (h : HeldL H rs st) (s : ∀ p xs, H p = some (.tup xs) → H' p = some (.tup xs)) : HeldL H' rs st := ⟨h.1, fun i p x h1 h2 => s _ _ (h.2 i p x h1 h2)⟩
theorem HeldL.cons {H : Hp} {rs : List Addr} {st : List (List Int)} {p : Addr} {x : List Int} (h : HeldL H rs st) (hp : H p = some (.tup (intV x))) : HeldL H (p :: rs) (x :: st) :=
  ⟨by simp [h.1], fun i q y h1 h2 => by
    cases i with
    | zero => cases h1; cases h2; exact hp
    | succ i => exact h.2 i q y (by simpa using h1) (by simpa using h2)⟩
theorem HeldL.uncons {H : Hp} {rs : List Addr} {st : List (List Int)} {x : List Int} (h : HeldL H rs (x :: st)) : ∃ p rs', rs = p :: rs' ∧ H p = some (.tup (intV x)) ∧ HeldL H rs' st := by
  cases rs with
  | nil => exact absurd h.1 (by simp)
  | cons p rs => exact ⟨p, rs, rfl, h.2 0 p x rfl rfl, ⟨by simpa using h.1, fun i q y h1 h2 => h.2 (i + 1) q y (by simpa using h1) (by simpa using h2)⟩⟩
theorem held_last (p : Addr) (rs : List Addr) : (((p :: rs).reverse.map V.ref) : List V)[((p :: rs).reverse.map V.ref).length - 1]? = some (V.ref p) := by
  rw [List.reverse_cons, List.map_append]
  simp
theorem held_drop (p : Addr) (rs : List Addr) : (((p :: rs).reverse.map V.ref) : List V).dropLast = rs.reverse.map V.ref := by
  rw [List.reverse_cons, List.map_append]
  simp
theorem ok_word_of (T : Txt K mg A) : FnOk P w K mg base (CXw P w) 4 A.f_word_of A.d_word_of ["bases", "marks"] (spWordOf A.c_TooLong) := by
  have G_with_piece : FnOk P w K mg base (CXw P w) 3 A.f_with_piece A.d_with_piece ["word", "base", "power"] (spWith A.c_TooLong) := ok_with_piece T
  refine T.word_of.F.okX sc_word_of (fun vs H Q E h => ?_) (fun cdv AA outer s H vs Q E hr h => ?_)
  · obtain ⟨d, l, f, M, rfl, _⟩ := h
    rfl
  · obtain ⟨d, l, f, M, rfl, hb, hM, hml, hmm, hck, k, kE⟩ := h
    have hu2 := hu_of hr
    refine ⟨_, (pss_cons (ps_set (i := 2) sc_word_of.nd rfl (Or.inl rfl) (pe_lst (pa_cons (pe_tup pa_nil) pa_nil)))
      (pss_cons (ps_for PassesOwn.leaving rfl (pi_list (pv 1)) (pg_name (i := 3) sc_word_of.nd rfl (Or.inl rfl))
        (pss_cons (ps_set (i := 4) sc_word_of.nd rfl (Or.inl rfl) (pe_ix ix_tup (pv 3) pe_int (fun _ _ => rfl)))
        (pss_one (ps_cut (ps_if (pt_cmpR op_eq (pv 4) (pe_strX (l := [40]) rfl) (nomark _))
          (pss_one (ps_expr (pe_bm PySem.F.plainAttrs_list PySem.F.slot_list_append PySem.F.type_list_append mt_append (pv 2) (pa_cons (pe_tup pa_nil) pa_nil))))
          (pss_cons (ps_set (i := 5) sc_word_of.nd rfl (Or.inl rfl) (pe_cut (pe_ifExp (pt_cmpR op_eq (pv 4) (pe_strX (l := [41]) rfl) (nomark _)) (pe_bm0 PySem.F.plainAttrs_list PySem.F.slot_list_pop PySem.F.type_list_pop mt_pop (pv 2)) (pe_dget hu2 (pv 0) (pv 4) (fun _ _ => rfl)))))
          (pss_one (ps_expr (pe_bm PySem.F.plainAttrs_list PySem.F.slot_list_append PySem.F.type_list_append mt_append (pv 2) (pa_cons (pe_call (G_with_piece) (hr.mono (by decide)) rfl T.with_piece.m T.with_piece.F.kp T.with_piece.b .nil pass1 (pa_cons (pe_bm0 PySem.F.plainAttrs_list PySem.F.slot_list_pop PySem.F.type_list_pop mt_pop (pv 2)) (pa_cons (pv 5) (pa_cons (pe_ix ix_tup (pv 3) pe_int (fun _ _ => rfl)) pa_nil)))) pa_nil))))))))))
      (pss_one (ps_ret (pe_ix ix_list (pv 2) pe_int (fun _ _ => rfl)))))), ?_⟩
    generalize ho : M5.wrd f M [[]] = o at k kE
    obtain ⟨ps, hl, hm⟩ := hM
    refine ⟨Nat.zero_le _, fun q0 hq0 => ⟨by show 1 ≤ sizeLine; decide, fun h0 hh0 => ?_⟩⟩
    have s1 : Same H (upd (upd H q0 (.tup [])) h0 (.lst [.ref q0])) := (Same.upd hq0).trans (Same.upd hh0)
    have hn0 : H h0 = none := (Same.upd hq0).free hh0
    have hq00 : q0 ≠ h0 := fun e => by rw [← e, upd_same] at hh0; cases hh0
    refine ⟨_, rfl, l, rfl, ⟨_, SqL.of (s1 _ _ hl)⟩, ?_⟩
    refine for_list (K := K) (a := l) (xs := ps.map V.ref) (fun i σ H2 => ∃ (rs : List Addr) (st : List (List Int)) (v3 v4 v5 : Option V), σ = [some (.ref d), some (.ref l), some (.ref h0), v3, v4, v5] ∧ Same H H2 ∧ H2 h0 = some (.lst (rs.reverse.map V.ref)) ∧ HeldL H2 rs st ∧ rs.length ≤ i + 1 ∧ (∀ y ∈ st, y.length ≤ 200) ∧ M5.wrd f (M.drop i) st = o ∧ ∃ dp ah, M5.chk (M.drop i) dp ah = true ∧ st.length = dp + 1)
      ⟨[q0], [[]], none, none, none, rfl, s1, upd_same, ⟨rfl, fun i p y h1 h2 => ?_⟩, Nat.le_refl _, fun y hy => by rw [List.mem_singleton.mp hy]; exact Nat.zero_le _, ho, 0, 40, hck, rfl⟩ (fun i σ H2 _ ⟨_, _, _, _, _, _, s2, _⟩ => SqL.of (s2 _ _ hl)) ?_ ?_
    · cases i with
      | zero => cases h1; cases h2; rw [upd_ne hq00, upd_same]; rfl
      | succ i => cases h1
    · rintro i y σ H2 hi ⟨rs, st, v3, v4, v5, rfl, s2, hh, hH, hrl, h200, hwr, dp, ah, hch, hsl⟩
      rw [List.getElem?_map] at hi
      cases hp : ps[i]? with
      | none => rw [hp] at hi; cases hi
      | some p =>
        rw [hp] at hi
        have ey : V.ref p = y := Option.some.inj hi
        subst ey
        have hil : i < M.length := by rw [← hm.1]; exact (List.getElem?_eq_some_iff.mp hp).1
        have qm : M[i]? = some M[i] := List.getElem?_eq_getElem hil
        have hpp := hm.2 i p _ hp qm
        have hmi := hmm _ (List.getElem_mem hil)
        rw [List.drop_eq_getElem_cons hil] at hwr hch
        generalize M[i] = mk at hpp hwr hmi hch
        obtain ⟨c, pw⟩ := mk
        refine ⟨_, rfl, p, _, _, _, rfl, rfl, SqT.of (s2 _ _ hpp), rfl, ?_⟩
        refine ⟨_, ?_, fun _ _ h => h⟩
        rw [M5.wrd] at hwr
        rw [M5.chk] at hch
        have kpt : ∀ (H3 : Hp) (o : HO) (q : Addr) (xs : List V), H3 h0 = some (.lst (rs.reverse.map V.ref)) → H3 q = some (.tup xs) → (upd H3 h0 o) q = some (.tup xs) := fun H3 o q xs e1 e2 => by
          rw [upd_ne (ne_of e2 e1 (by intro z; cases z))]
          exact e2
        refine ⟨_, rfl, rfl, _, rfl, ?_⟩
        refine ite2 (fun h => ?_) (fun h => ?_)
        · rw [str_eq_iff] at h
          have h' : c = 40 := by simpa using h
          rw [if_pos h'] at hwr hch
          refine ⟨_, rfl, .inl ⟨rfl, _, SqL.of hh⟩, Nat.zero_le _, fun q hq => ?_⟩
          have s3 := Same.upd (o := .tup []) hq
          refine ⟨h0, _, _, rfl, rfl, s3 _ _ hh, ?_, ?_⟩
          · rw [List.length_map, List.length_reverse]
            exact Nat.lt_of_le_of_lt (show rs.length ≤ 100001 by omega) (by decide)
          refine ⟨q :: rs, [] :: st, _, _, _, rfl, fun b o eb => ?_, ?_, ?_, ?_, ?_, hwr, _, _, hch, by simp only [List.length_cons]; omega⟩
          · rw [upd_ne (ne_of_none eb hn0)]
            exact s3 _ _ (s2 _ _ eb)
          · rw [upd_same, List.reverse_cons, List.map_append]
            rfl
          · exact ((hH.same fun a xs e => s3 _ _ e).cons (x := []) upd_same).same fun a xs e => kpt _ _ _ _ (s3 _ _ hh) e
          · show rs.length + 1 ≤ i + 1 + 1
            omega
          · intro y hy
            rcases List.mem_cons.mp hy with e | hy
            · rw [e]; exact Nat.zero_le _
            · exact h200 y hy
        · rw [str_eq_iff] at h
          have h' : c ≠ 40 := fun z => h (by rw [z])
          rw [if_neg h'] at hwr hch
          refine ⟨fun v H3 => ∃ (b wa : Addr) (bs w : List Int) (rs' : List Addr) (st' : List (List Int)), v = .ref b ∧ H3 b = some (.tup (intV bs)) ∧ bs.length ≤ 200 ∧ Same H H3 ∧ H3 h0 = some (.lst ((wa :: rs').reverse.map V.ref)) ∧ H3 wa = some (.tup (intV w)) ∧ w.length ≤ 200 ∧ HeldL H3 rs' st' ∧ rs'.length ≤ i ∧ (∀ y ∈ st', y.length ≤ 200) ∧
            (M5.withP w bs pw).bind (fun x' => M5.wrd f (M.drop (i + 1)) (x' :: st')) = o ∧ ∃ dp ah, M5.chk (M.drop (i + 1)) dp ah = true ∧ st'.length = dp, ?_, ?_⟩
          · refine ⟨_, rfl, rfl, _, rfl, ?_⟩
            refine ite2 (fun h => ?_) (fun h => ?_)
            · rw [str_eq_iff] at h
              have h2 : c = 41 := by simpa using h
              rw [if_pos h2] at hwr hch
              rw [Bool.and_eq_true, Bool.and_eq_true, decide_eq_true_iff, decide_eq_true_iff] at hch
              obtain ⟨⟨c1, c2⟩, c3⟩ := hch
              match st, hH, h200, hwr, hsl with
              | [], _, _, _, hsl => exact absurd hsl (by simp)
              | [_], _, _, _, hsl => simp only [List.length_cons, List.length_nil] at hsl; omega
              | b' :: w' :: st', hH, h200, hwr, hsl =>
                obtain ⟨b, rs1, rfl, hbt, hH1⟩ := hH.uncons
                obtain ⟨wa, rs2, rfl, hwt, hH2⟩ := hH1.uncons
                refine ⟨_, rfl, .inl ⟨rfl, _, SqL.of hh⟩, h0, _, _, rfl, rfl, hh, held_last _ _, ?_⟩
                rw [held_drop]
                refine ⟨b, wa, b', w', rs2, st', rfl, kpt _ _ _ _ hh hbt, h200 _ (List.mem_cons_self ..), fun a o ea => ?_, upd_same, kpt _ _ _ _ hh hwt, h200 _ (List.mem_cons_of_mem _ (List.mem_cons_self ..)), hH2.same fun a xs e => kpt _ _ _ _ hh e, ?_, fun y hy => h200 y (List.mem_cons_of_mem _ (List.mem_cons_of_mem _ hy)), ?_⟩
                · rw [upd_ne (ne_of_none ea hn0)]
                  exact s2 _ _ ea
                · simp only [List.length_cons] at hrl
                  omega
                · rw [M5.clo] at hwr
                  refine ⟨?_, _, _, c3, by simp only [List.length_cons] at hsl; omega⟩
                  cases e : M5.withP w' b' pw with
                  | none => rw [e] at hwr; exact hwr
                  | some z => rw [e] at hwr; exact hwr
            · rw [str_eq_iff] at h
              have h2 : c ≠ 41 := fun z => h (by rw [z])
              rw [if_neg h2] at hwr hch
              obtain ⟨kvs, hkd, hkl, hke⟩ := hb.same s2
              have hkc := hke c
              have hbad := hmi.2.1
              cases hf : f c with
              | none =>
                unfold M5.bad at hbad
                rw [show f (c, pw).1 = none from hf] at hbad
                simp [h', h2] at hbad
              | some bs =>
                rw [hf] at hkc
                cases hv : valV kvs (Sum.inr (tx [c])) with
                | none => rw [hv] at hkc; exact hkc.elim
                | some v =>
                  rw [hv] at hkc
                  obtain ⟨b, rfl, hbt⟩ := hkc
                  have dg : DGet H2 d (.str (tx [c])) (some (.ref b)) := by
                    have := DGet.k (k := Sum.inr (tx [c])) hkd
                    rw [hv] at this
                    exact this
                  refine ⟨_, rfl, _, rfl, d, _, rfl, dg, ?_⟩
                  match st, hH, h200, hwr, hsl with
                  | [], _, _, _, hsl => exact absurd hsl (by simp)
                  | w' :: st', hH, h200, hwr, hsl =>
                    obtain ⟨wa, rs1, rfl, hwt, hH1⟩ := hH.uncons
                    have hbl := hmi.2.2 bs hf
                    refine ⟨b, wa, bs, w', rs1, st', rfl, hbt, by omega, s2, hh, hwt, h200 _ (List.mem_cons_self ..), hH1, ?_, fun y hy => h200 y (List.mem_cons_of_mem _ hy), ?_⟩
                    · simp only [List.length_cons] at hrl
                      omega
                    · rw [hf, M5.sig, Option.getD_some] at hwr
                      refine ⟨?_, _, _, hch, by simpa using hsl⟩
                      cases e : M5.withP w' bs pw with
                      | none => rw [e] at hwr; exact hwr
                      | some z => rw [e] at hwr; exact hwr
          rintro v H3 ⟨b, wa, bs, w, rs', st', rfl, hbt, hbl, s3, hh3, hwt, hwl, hH3, hrl3, h2003, hwr3, dp3, ah3, hch3, hsl3⟩
          have kp3 : ∀ (o : HO) (q : Addr) (xs : List V), H3 q = some (.tup xs) → (upd H3 h0 o) q = some (.tup xs) := fun o q xs e2 => by
            rw [upd_ne (ne_of e2 hh3 (by intro z; cases z))]
            exact e2
          refine ⟨_, rfl, .inl ⟨rfl, _, SqL.of hh3⟩, _, rfl, .inl ⟨rfl, _, SqL.of hh3⟩, h0, _, _, rfl, rfl, hh3, held_last _ _, ?_⟩
          rw [held_drop]
          refine ⟨_, rfl, _, rfl, p, _, _, _, rfl, rfl, SqT.of (kp3 _ _ _ (s3 _ _ hpp)), rfl, wa, b, w, bs, pw, rfl, kp3 _ _ _ hwt, kp3 _ _ _ hbt, hwl, hbl, hmi.1, fun z hwp q H4 s4 h4 => ?_, fun hwp => ?_⟩
          · rw [hwp] at hwr3
            have hwr4 : M5.wrd f (M.drop (i + 1)) (z :: st') = o := hwr3
            have hzl : z.length ≤ 200 := by
              unfold M5.withP at hwp
              split at hwp
              · cases hwp
              · rename_i hfit
                have e := Option.some.inj hwp
                rw [← e, List.length_append, M5.raise_len]
                omega
            have hh4 := s4 _ _ (upd_same (H := H3) (a := h0) (o := .lst (rs'.reverse.map V.ref)))
            refine ⟨h0, _, _, rfl, rfl, hh4, ?_, ?_⟩
            · rw [List.length_map, List.length_reverse]
              exact Nat.lt_of_le_of_lt (show rs'.length ≤ 100001 by omega) (by decide)
            have kp4 : ∀ (o : HO) (a : Addr) (xs : List V), H4 a = some (.tup xs) → (upd H4 h0 o) a = some (.tup xs) := fun o a xs e2 => by
              rw [upd_ne (ne_of e2 hh4 (by intro z; cases z))]
              exact e2
            refine ⟨q :: rs', z :: st', _, _, _, rfl, fun a o ea => ?_, ?_, ?_, ?_, ?_, hwr4, dp3, ah3, hch3, by simp only [List.length_cons]; omega⟩
            · rw [upd_ne (ne_of_none ea hn0)]
              refine s4 _ _ ?_
              rw [upd_ne (ne_of_none ea hn0)]
              exact s3 _ _ ea
            · rw [upd_same, List.reverse_cons, List.map_append]
              rfl
            · exact ((hH3.same fun a xs e => s4 _ _ (kp3 _ _ _ e)).cons h4).same fun a xs e => kp4 _ _ _ e
            · show rs'.length + 1 ≤ i + 1 + 1
              omega
            · intro y hy
              rcases List.mem_cons.mp hy with e | hy
              · rw [e]; exact hzl
              · exact h2003 y hy
          · rw [hwp] at hwr3
            refine kE hwr3.symm _ fun a o ea => ?_
            rw [upd_ne (ne_of_none ea hn0)]
            exact s3 _ _ ea
    · rintro σ H2 ⟨rs, st, v3, v4, v5, rfl, s2, hh, hH, hrl, h200, hwr, dp, ah, hch, hsl⟩
      have e0 : M.drop (ps.map V.ref).length = [] := by
        rw [List.length_map, hm.1, List.drop_length]
      rw [e0, M5.wrd] at hwr
      have hst : 0 < st.length := by omega
      rw [List.getLast?_eq_getElem?] at hwr
      have hlr : rs.length - 1 < rs.length := by rw [hH.1]; omega
      have qr : rs[rs.length - 1]? = some rs[rs.length - 1] := List.getElem?_eq_getElem hlr
      have qx : st[st.length - 1]? = some st[st.length - 1] := List.getElem?_eq_getElem (by omega)
      have hx := hH.2 _ _ st[st.length - 1] qr (by rw [hH.1]; exact qx)
      refine ⟨_, rfl, h0, _, _, _, rfl, rfl, SqL.of hh, ?_, k _ (by rw [← hwr]; exact qx) _ H2 s2 hx⟩
      refine atI_nat (j := 0) ?_
      rw [List.getElem?_map, List.getElem?_reverse (by omega), show rs.length - 1 - 0 = rs.length - 1 by omega, qr]
      rfl
theorem ok_read (T : Txt K mg A) : FnOk P w K mg base (CXw P w) 5 A.f_read A.d_read ["names", "text"] (spRead A.c_NoWord A.c_TooLong) := by
  have G_bases_of : FnOk P w K mg base (CXw P w) 1 A.f_bases_of A.d_bases_of ["names"] spBases := ok_bases_of T
  have G_marks_of : FnOk P w K mg base (CXw P w) 3 A.f_marks_of A.d_marks_of ["bases", "text"] (spMarks A.c_NoWord) := ok_marks_of T
  have G_check_brackets : FnOk P w K mg base (CXw P w) 1 A.f_check_brackets A.d_check_brackets ["marks"] (spBrk A.c_NoWord) := ok_check_brackets T
  have G_word_of : FnOk P w K mg base (CXw P w) 4 A.f_word_of A.d_word_of ["bases", "marks"] (spWordOf A.c_TooLong) := ok_word_of T
  refine T.read.F.okX sc_read (fun vs H Q E h => ?_) (fun cdv AA outer s H vs Q E hr h => ?_)
  · obtain ⟨nm, t, rfl, _⟩ := h
    rfl
  · obtain ⟨nm, t, rfl, hlow, hl, h128, k, kN, kT⟩ := h
    refine ⟨_, (pss_cons (ps_set (i := 2) sc_read.nd rfl (Or.inl rfl) (pe_call (G_bases_of) (hr.mono (by decide)) rfl T.bases_of.m T.bases_of.F.kp T.bases_of.b .nil passF (pa_cons (pv 0) pa_nil)))
      (pss_cons (ps_set (i := 3) sc_read.nd rfl (Or.inl rfl) (pe_call (G_marks_of) (hr.mono (by decide)) rfl T.marks_of.m T.marks_of.F.kp T.marks_of.b .nil pass1 (pa_cons (pv 2) (pa_cons (pv 1) pa_nil))))
      (pss_cons (ps_expr (pe_call (G_check_brackets) (hr.mono (by decide)) rfl T.check_brackets.m T.check_brackets.F.kp T.check_brackets.b .nil pass1 (pa_cons (pv 3) pa_nil)))
      (pss_one (ps_ret (pe_call (G_word_of) (hr.mono (by decide)) rfl T.word_of.m T.word_of.F.kp T.word_of.b .nil pass1 (pa_cons (pv 2) (pa_cons (pv 3) pa_nil)))))))), ?_⟩
    refine ⟨_, rfl, nm, rfl, hlow, fun d H1 s1 hb => ?_⟩
    unfold M5.readM at k kN kT
    refine ⟨_, rfl, _, rfl, d, t, _, rfl, hb, hl, h128, fun M hm l H2 s2 hM => ?_, fun hm H2 s2 => ?_⟩
    · rw [hm] at k kN kT
      simp only at k kN kT
      have ha := M5.marks_all _ (Nat.le_refl _) hm
      refine ⟨_, rfl, l, M, rfl, hM, fun hc => ?_, fun hc => ?_⟩
      · rw [if_pos hc] at k kN kT
        refine ⟨_, rfl, _, rfl, d, l, _, M, rfl, hb.same s2, hM, by omega, fun m hm' => ⟨(ha.2 m hm').1, (ha.2 m hm').2, fun b hb' => M5.base_len hb'⟩, hc, fun x hw p H3 s3 h3 => ?_, fun hw H3 s3 => ?_⟩
        · rw [hw] at k
          exact k x rfl p H3 ((s1.trans s2).trans s3) h3
        · rw [hw] at kT
          exact kT rfl H3 ((s1.trans s2).trans s3)
      · rw [if_neg (by rw [hc]; decide)] at kN
        exact kN rfl H2 (s1.trans s2)
    · rw [hm] at kN
      exact kN rfl H2 (s1.trans s2)
theorem digs_ok : ∀ n : Nat, n < 1000 → (digs (n : Int)).all M5.isFig = true ∧ M5.okFigs (digs (n : Int)) = true ∧ M5.figVal (digs (n : Int)) = n := by
  decide +kernel
theorem sgn_letter {nm : List Nat} {a : Int} (hlow : Low nm) (h0 : a ≠ 0) (hle : a.natAbs ≤ nm.length) : 65 ≤ sgn nm a ∧ sgn nm a < 123 ∧ sgn nm a ≠ 94 := by
  obtain ⟨c, hc, ec⟩ := low_at hlow h0 hle
  unfold sgn
  rw [ec]
  split <;> omega
def spText : Sp := fun vs H Q _ => ∃ (nm : List Nat) (a : Addr) (ms : List Int), vs = [.str (tx nm), .ref a] ∧ Low nm ∧ H a = some (.tup (intV ms)) ∧ ms.length ≤ 2000 ∧ Steps nm.length ms ∧ Q (.str (tx (shw nm ms))) H
theorem tail_digs {n : Nat} (h : n < 1000) : M5.Tail (94 :: digs (n : Int)) (n : Int) := by
  have := digs_ok n h
  have t := M5.Tail.pos this.1 this.2.1
  rw [this.2.2] at t
  exact t
theorem runs_flat : ∀ ms : List Int, ((M4.runs ms).map fun p => List.replicate p.2 p.1).flatten = ms
  | [] => rfl
  | a :: ms => by
    have ih := runs_flat ms
    rw [M4.runs]
    cases e : M4.runs ms with
    | nil =>
      have := M4.runs_nil e
      subst this
      rfl
    | cons q r =>
      obtain ⟨b, n⟩ := q
      rw [e] at ih
      simp only
      by_cases hab : a = b
      · rw [if_pos hab, List.map_cons, List.flatten_cons]
        rw [List.map_cons, List.flatten_cons] at ih
        rw [← ih]
        show List.replicate (n + 1) b ++ _ = a :: (List.replicate n b ++ _)
        rw [List.replicate_succ, hab]
        rfl
      · rw [if_neg hab, List.map_cons, List.flatten_cons, ih]
        rfl
theorem raise_one (a : Int) (n : Nat) : M5.raiseW [a] (n : Int) = List.replicate n a := by
  unfold M5.raiseW
  rw [if_neg (by omega), Int.toNat_natCast]
  induction n with
  | zero => rfl
  | succ n ih => rw [List.replicate_succ, List.flatten_cons, ih, List.replicate_succ]; rfl
theorem base_sgn {nm : List Nat} {a : Int} (hlow : Low nm) (hnd : nm.Nodup) (h0 : a ≠ 0) (hle : a.natAbs ≤ nm.length) : M5.baseOf nm (sgn nm a) = some [a] := by
  have hi : a.natAbs - 1 < nm.length := by omega
  have hc : nm[a.natAbs - 1]? = some (nm.getD (a.natAbs - 1) 0) := by
    rw [List.getD_eq_getElem?_getD, List.getElem?_eq_getElem hi]
    rfl
  have := M5.bases_at (n := 1) (f := M5.base0) hlow.2 hnd hc
  unfold sgn M5.baseOf
  by_cases hp : 0 < a
  · rw [if_pos hp, this.1]
    congr 2
    omega
  · rw [if_neg hp, this.2]
    congr 2
    omega
theorem sgn_next {nm : List Nat} {a : Int} {r : List Nat} (hlow : Low nm) (h0 : a ≠ 0) (hle : a.natAbs ≤ nm.length) : M5.okNext (sgn nm a :: r) := by
  have := sgn_letter hlow h0 hle
  refine M5.okNext_cons this.2.2 ?_
  simp [M5.isFig]
  omega
def Runs (nm : List Nat) (R : List (Int × Nat)) : Prop := ∀ p ∈ R, p.1 ≠ 0 ∧ p.1.natAbs ≤ nm.length ∧ 1 ≤ p.2 ∧ p.2 < 1000
theorem piece_cons {nm : List Nat} {a : Int} {n : Nat} (h1 : 1 ≤ n) (h2 : n < 1000) : ∃ tl, piece nm a n = sgn nm a :: tl ∧ M5.Tail tl (n : Int) := by
  unfold piece
  by_cases e : n = 1
  · subst e
    exact ⟨[], by rw [if_pos rfl], .none⟩
  · exact ⟨94 :: digs (n : Int), by rw [if_neg e]; rfl, tail_digs h2⟩
theorem lex_runs {nm : List Nat} (hlow : Low nm) (hnd : nm.Nodup) : ∀ R : List (Int × Nat), Runs nm R →
    M5.Lex (M5.baseOf nm) (R.map fun p => piece nm p.1 p.2).flatten (R.map fun p => (sgn nm p.1, (p.2 : Int))) ∧ (∀ r, M5.okNext r → M5.okNext ((R.map fun p => piece nm p.1 p.2).flatten ++ r))
  | [], _ => ⟨M5.Lex.nil _, fun r h => h⟩
  | q :: R, h => by
    obtain ⟨a, n⟩ := q
    have hq := h _ (List.mem_cons_self ..)
    have ih := lex_runs hlow hnd R fun p hp => h p (List.mem_cons_of_mem _ hp)
    obtain ⟨tl, et, ht⟩ := piece_cons (nm := nm) (a := a) hq.2.2.1 hq.2.2.2
    have hb := base_sgn hlow hnd hq.1 hq.2.1
    have hl := sgn_letter (a := a) hlow hq.1 hq.2.1
    have hbad : M5.bad (M5.baseOf nm) (sgn nm a) = false := by
      unfold M5.bad
      rw [show M5.baseOf nm (sgn nm a) = some [a] from hb]
      rfl
    constructor
    · rw [List.map_cons, List.map_cons, List.flatten_cons]
      show M5.Lex _ (piece nm a n ++ _) ([(sgn nm a, (n : Int))] ++ _)
      rw [et]
      exact (M5.Lex.sign hbad (by have := hl.1; omega) ht).append ih.1 ih.2
    · intro r _
      rw [List.map_cons, List.flatten_cons]
      show M5.okNext (piece nm a n ++ _ ++ r)
      rw [et]
      exact sgn_next hlow hq.1 hq.2.1
theorem bal_runs {nm : List Nat} (hlow : Low nm) (hnd : nm.Nodup) : ∀ R : List (Int × Nat), Runs nm R → R ≠ [] → M5.Bal (M5.baseOf nm) (R.map fun p => (sgn nm p.1, (p.2 : Int))) (R.map fun p => List.replicate p.2 p.1).flatten
  | [], _, hn => absurd rfl hn
  | q :: R, h, _ => by
    obtain ⟨a, n⟩ := q
    have hq := h _ (List.mem_cons_self ..)
    have hl := sgn_letter (a := a) hlow hq.1 hq.2.1
    have b1 : M5.Bal (M5.baseOf nm) [(sgn nm a, (n : Int))] (List.replicate n a) := by
      have := M5.Bal.sign (f := M5.baseOf nm) (c := sgn nm a) (p := (n : Int)) (b := [a]) (by have := hl.1; omega) (by have := hl.1; omega) (base_sgn hlow hnd hq.1 hq.2.1)
      rw [raise_one] at this
      exact this
    rw [List.map_cons, List.map_cons, List.flatten_cons]
    cases R with
    | nil => rw [List.map_nil, List.map_nil, List.flatten_nil, List.append_nil]; exact b1
    | cons q2 R =>
      exact b1.append (bal_runs hlow hnd (q2 :: R) (fun p hp => h p (List.mem_cons_of_mem _ hp)) (by simp))
theorem shw_read {nm : List Nat} {ms : List Int} (hlow : Low nm) (hnd : nm.Nodup) (hm : ms.length ≤ 200) (hst : Steps nm.length ms) : ∃ M, M5.Lex (M5.baseOf nm) (shw nm ms) M ∧ M5.Bal (M5.baseOf nm) M ms := by
  unfold shw
  by_cases e : ms = []
  · subst e
    rw [if_pos rfl]
    have hb := M5.base_one hlow.2
    refine ⟨[(49, 1)], M5.Lex.sign (by unfold M5.bad; rw [hb]; rfl) (by decide) .none, ?_⟩
    have := M5.Bal.sign (f := M5.baseOf nm) (c := 49) (p := 1) (b := []) (by decide) (by decide) hb
    exact this
  · rw [if_neg e]
    have hR : Runs nm (M4.runs ms) := fun p hp => by
      have := M4.runs_mem hp
      have h2 := hst _ this.1
      exact ⟨h2.1, h2.2, this.2.1, by omega⟩
    have b := bal_runs hlow hnd _ hR (fun z => e (M4.runs_nil z))
    rw [runs_flat] at b
    exact ⟨_, (lex_runs hlow hnd _ hR).1, b⟩
theorem ok__law_at (T : Txt K mg A) : FnOk P w K mg base (CXw P w) 1 A.f__law_at A.d__law_at ["_law_script", "_law_k"] (spAt K) := by
  refine T._law_at.F.okN sc__law_at (fun vs H Q E h => ?_) (fun cdv AA outer s H vs Q E hr h => ?_)
  · obtain ⟨a, ns, n, rfl, _⟩ := h
    rfl
  · obtain ⟨a, ns, n, rfl, ha, hn, k⟩ := h
    refine ⟨_, (pss_cons (ps_if (pt_cmpR op_lt (pv 1) (pe_callB call_len_seq rfl T.z_len PySem.boot_len (pa_cons (pv 0) pa_nil)) (nomark _))
        (pss_one (ps_ret (pe_ix ix_list (pv 0) (pv 1) (fun _ _ => rfl))))
        pss_nil)
      (pss_one (ps_ret (pe_op op_add (pe_op op_mul pe_int (pv 1)) pe_int)))), ?_⟩
    refine ⟨_, rfl, _, rfl, a, _, rfl, .inl ha, _, _, rfl, rfl, _, rfl, ?_⟩
    refine ite2 (fun h => ?_) (fun h => ?_)
    · have h' : (n : Int) < ((intV ns).length : Int) := of_decide_eq_true h
      rw [ints_len] at h'
      have e0 : ns[n]? = some ns[n] := List.getElem?_eq_getElem (by omega)
      exact ⟨_, rfl, _, rfl, a, _, _, _, rfl, rfl, ha, atI_nat (ints_at e0), k _⟩
    · exact ⟨_, rfl, _, _, rfl, rfl, .inl ⟨by decide, by decide⟩, _, _, rfl, rfl, k _⟩
theorem ok__law_mix (T : Txt K mg A) : FnOk P w K mg base (CXw P w) 1 A.f__law_mix A.d__law_mix ["_law_number", "_law_place"] spMix := by
  refine T._law_mix.F.okN sc__law_mix (fun vs H Q E h => ?_) (fun cdv AA outer s H vs Q E hr h => ?_)
  · obtain ⟨z, p, rfl, _⟩ := h
    rfl
  · obtain ⟨z, p, rfl, hp, hp2, k⟩ := h
    refine ⟨_, (pss_cons (ps_set (i := 2) sc__law_mix.nd rfl (Or.inl rfl) (pe_op op_mod (pe_op op_mul (pe_op op_add (pe_op op_add (pe_op op_mod (pv 0) pe_int) (pv 1)) pe_int) (pe_op op_add (pe_op op_mul (pe_op op_mul pe_int (pv 1)) (pv 1)) pe_int)) pe_int))
      (pss_one (ps_ret (pe_op op_mod (pe_op op_mul (pv 2) (pv 2)) pe_int)))), ?_⟩
    have b1 := Int.emod_nonneg z (show (2147483629 : Int) ≠ 0 by decide)
    have b2 := Int.emod_lt_of_pos z (show (0 : Int) < 2147483629 by decide)
    refine ⟨_, rfl, _, _, rfl, rfl, (by show (0 : Int) < 2147483629; decide), _, rfl, _, _, rfl, rfl, _, _, rfl, rfl, _, rfl, _, _, rfl, rfl, .inl ⟨by decide, by decide⟩, _, rfl, _, _, rfl, rfl, .inr ⟨by omega, by omega⟩, _, _, rfl, rfl, _, _, rfl, rfl, .inl ⟨by omega, by omega⟩, _, _, rfl, rfl, (by show (0 : Int) < 2147483647; decide), ?_⟩
    generalize ((z % 2147483629 + p + 1) * (8 * p * p + 48271)) = y1
    have c1 := Int.emod_nonneg y1 (show (2147483647 : Int) ≠ 0 by decide)
    have c2 := Int.emod_lt_of_pos y1 (show (0 : Int) < 2147483647 by decide)
    generalize y1 % 2147483647 = y2 at c1 c2 ⊢
    refine ⟨_, rfl, _, rfl, _, _, rfl, rfl, .inl ⟨by omega, by omega⟩, _, _, rfl, rfl, (by show (0 : Int) < 2147483587; decide), ?_⟩
    exact k _ (Int.emod_nonneg _ (by decide))
theorem ok__law_names (T : Txt K mg A) : FnOk P w K mg base (CXw P w) 2 A.f__law_names A.d__law_names ["_law_number", "_law_many"] spNames := by
  have G__law_mix : FnOk P w K mg base (CXw P w) 1 A.f__law_mix A.d__law_mix ["_law_number", "_law_place"] spMix := ok__law_mix T
  refine T._law_names.F.okN sc__law_names (fun vs H Q E h => ?_) (fun cdv AA outer s H vs Q E hr h => ?_)
  · obtain ⟨z, n, rfl, _⟩ := h
    rfl
  · obtain ⟨z, n, rfl, hn1, hn2, k⟩ := h
    refine ⟨_, (pss_cons (ps_set (i := 2) sc__law_names.nd rfl (Or.inl rfl) (pe_strX (l := [97, 98, 99, 100, 101, 102, 103, 104, 105, 106, 107, 108, 109, 110, 111, 112, 113, 114, 115, 116, 117, 118, 119, 120, 121, 122]) rfl))
      (pss_cons (ps_set (i := 3) sc__law_names.nd rfl (Or.inl rfl) (pe_strX (l := []) rfl))
      (pss_cons (ps_for PassesOwn.never rfl (pi_range1 rfl T.z_range (pa_cons (pv 1) pa_nil)) (pg_name (i := 4) sc__law_names.nd rfl (Or.inl rfl))
        (pss_cons (ps_set (i := 5) sc__law_names.nd rfl (Or.inl rfl) (pe_op op_mod (pe_call (G__law_mix) (hr.mono (by decide)) rfl T._law_mix.m T._law_mix.F.kp T._law_mix.b .nil passF (pa_cons (pv 0) (pa_cons (pv 4) pa_nil))) (pe_callB call_lenX rfl T.z_len PySem.boot_len (pa_cons (pv 2) pa_nil))))
        (pss_cons (ps_set (i := 3) sc__law_names.nd rfl (Or.inl rfl) (pe_op op_addX (pv 3) (pe_ix ix_X (pv 2) (pv 5) (fun _ _ => rfl))))
        (pss_one (ps_set (i := 2) sc__law_names.nd rfl (Or.inl rfl) (pe_op op_addX (pe_slice sl_X (pv 2) po_none (po_some (pv 5))) (pe_slice sl_X (pv 2) (po_some (pe_op op_add (pv 5) pe_int)) po_none)))))))
      (pss_one (ps_ret (pv 3)))))), ?_⟩
    refine ⟨_, rfl, (n : Int), rfl, by omega, by omega, ?_⟩
    refine for_range (lo := 0) (n := ((n : Int)).toNat) (fun i σ H2 => ∃ (nm sm : List Nat) (v4 v5 : Option V), σ = [some (.int z), some (.int n), some (.str (tx sm)), some (.str (tx nm)), v4, v5] ∧ (nm ++ sm).Perm abc ∧ nm.length = i ∧ H2 = H)
      ⟨[], abc, none, none, rfl, List.Perm.refl _, rfl, rfl⟩ ?_ ?_
    · rintro i σ H2 hi ⟨nm, sm, v4, v5, rfl, hp, hl, rfl⟩
      have hsl : nm.length + sm.length = 26 := by
        have := hp.length_eq
        rw [List.length_append] at this
        exact this
      have hsz : sm.length ≤ sizeLine := Nat.le_trans (show sm.length ≤ 26 by omega) (by decide)
      refine ⟨_, rfl, _, rfl, _, _, rfl, by omega, by omega, fun r hr0 => ?_⟩
      refine ⟨_, rfl, sm, rfl, hsz, _, _, rfl, rfl, (by show (0 : Int) < (sm.length : Int); omega), ?_⟩
      obtain ⟨j, hj, hjl⟩ := emod_nat r (n := sm.length) (by omega)
      simp only [hj]
      have hc : sm[j]? = some sm[j] := List.getElem?_eq_getElem hjl
      refine ⟨_, rfl, _, rfl, _, rfl, sm, _, sm[j], rfl, rfl, hsz, atI_nat hc, _, _, rfl, rfl, ?_, ?_⟩
      · exact Nat.le_trans (show nm.length + 1 ≤ 100 by omega) (by decide)
      refine ⟨_, rfl, _, rfl, _, rfl, sm, rfl, hsz, .inl ⟨rfl, j, rfl, by omega, ?_⟩⟩
      refine ⟨_, rfl, _, rfl, _, _, rfl, rfl, _, rfl, sm, rfl, hsz, .inr ⟨rfl, j + 1, congrArg some (by omega), by omega, ?_⟩⟩
      refine ⟨_, _, rfl, rfl, ?_, ?_⟩
      · rw [List.length_take, List.length_drop]
        exact Nat.le_trans (show min j sm.length + (sm.length - (j + 1)) ≤ 100 by omega) (by decide)
      exact ⟨nm ++ [sm[j]], sm.take j ++ sm.drop (j + 1), _, _, rfl, M4.perm_step hp hc, by rw [List.length_append, hl]; rfl, rfl⟩
    · rintro σ H2 ⟨nm, sm, v4, v5, rfl, hp, hl, rfl⟩
      have hl' : nm.length = n := by omega
      have nd : (nm ++ sm).Nodup := hp.nodup_iff.mpr (by decide +kernel)
      have habc : ∀ c ∈ abc, 97 ≤ c ∧ c < 123 := by decide +kernel
      exact ⟨_, rfl, k nm hl' ⟨by omega, fun c hc => habc c (hp.mem_iff.mp (List.mem_append_left _ hc))⟩ (List.nodup_append.mp nd).1⟩
theorem ok__law_sign (T : Txt K mg A) : FnOk P w K mg base (CXw P w) 1 A.f__law_sign A.d__law_sign ["_law_names_here", "_law_step_here"] spSign := by
  refine T._law_sign.F.okN sc__law_sign (fun vs H Q E h => ?_) (fun cdv AA outer s H vs Q E hr h => ?_)
  · obtain ⟨nm, st, rfl, _⟩ := h
    rfl
  · obtain ⟨nm, st, rfl, hlow, h0, hle, k⟩ := h
    refine ⟨_, (pss_cons (ps_set (i := 2) sc__law_sign.nd rfl (Or.inl rfl) (pe_ix ix_X (pv 0) (pe_op op_sub (pe_callB call_abs rfl T.z_abs PyProof.Rows.boot_abs (pa_cons (pv 1) pa_nil)) pe_int) (fun _ _ => rfl)))
      (pss_cons (ps_if (pt_cmpR op_gt (pv 1) pe_int (nomark _))
        (pss_one (ps_ret (pv 2)))
        pss_nil)
      (pss_one (ps_ret (pe_ix ix_X (pe_strX (l := [65, 66, 67, 68, 69, 70, 71, 72, 73, 74, 75, 76, 77, 78, 79, 80, 81, 82, 83, 84, 85, 86, 87, 88, 89, 90]) rfl) (pe_bm PySem.F.plainAttrs_str PySem.F.slot_str_index PySem.F.type_str_index mt_idxX (pe_strX (l := [97, 98, 99, 100, 101, 102, 103, 104, 105, 106, 107, 108, 109, 110, 111, 112, 113, 114, 115, 116, 117, 118, 119, 120, 121, 122]) rfl) (pa_cons (pv 2) pa_nil)) (fun _ _ => rfl)))))), ?_⟩
    obtain ⟨c, hc, ec⟩ := low_at hlow h0 hle
    refine ⟨_, rfl, _, rfl, _, rfl, _, _, rfl, rfl, nm, _, _, rfl, rfl, hlow.sz, sgn_at h0 hle, ?_⟩
    refine ⟨_, rfl, _, _, rfl, rfl, _, rfl, ?_⟩
    refine ite2 (fun h => ?_) (fun h => ?_)
    · have h' : 0 < st := of_decide_eq_true h
      refine ⟨_, rfl, ?_⟩
      unfold sgn at k
      rw [if_pos h'] at k
      exact k
    · have h' : ¬ 0 < st := fun z => h (decide_eq_true z)
      unfold sgn at k
      rw [if_neg h', ec] at k
      rw [ec]
      refine ⟨rfl, _, rfl, c, rfl, rfl, hc, ABC, _, c + 65, rfl, rfl, by decide, ?_, ?_⟩
      · refine atI_nat (j := c) ?_
        have : ∀ c : Nat, c < 26 → ABC[c]? = some (c + 65) := by decide +kernel
        exact this c hc
      · rw [show c + 97 - 32 = c + 65 by omega] at k
        exact k
theorem ok_run_end (T : Txt K mg A) : FnOk P w K mg base (CXw P w) 1 A.f_run_end A.d_run_end ["word", "at"] spEnd := by
  refine T.run_end.F.okN sc_run_end (fun vs H Q E h => ?_) (fun cdv AA outer s H vs Q E hr h => ?_)
  · obtain ⟨a, ms, i, rfl, _⟩ := h
    rfl
  · obtain ⟨a, ms, i, rfl, ha, hi, k⟩ := h
    refine ⟨_, (pss_cons (ps_set (i := 2) sc_run_end.nd rfl (Or.inl rfl) (pv 1))
      (pss_cons (ps_cut (ps_while PassesOwn.never (PW.pt (pw_and (pt_cmpR op_lt (pv 2) (pe_callB call_len_seq rfl T.z_len PySem.boot_len (pa_cons (pv 0) pa_nil)) (nomark _)) (pw_and1 (pt_cmpR op_eq (pe_ix ix_tup (pv 0) (pv 2) (fun _ _ => rfl)) (pe_ix ix_tup (pv 0) (pv 1) (fun _ _ => rfl)) (nomark _)))))
        (pss_one (ps_set (i := 2) sc_run_end.nd rfl (Or.inl rfl) (pe_op op_add (pv 2) pe_int)))))
      (pss_one (ps_ret (pv 2))))), ?_⟩
    refine ⟨_, rfl, ?_⟩
    have qi : ms[i]? = some ms[i] := List.getElem?_eq_getElem hi
    refine ⟨fun σ H2 => ∃ e : Nat, σ = [some (.ref a), some (.int i), some (.int e)] ∧ H2 = H ∧ i < e ∧ e ≤ ms.length ∧ (∀ j, i ≤ j → j < e → ms[j]? = ms[i]?) ∧ ms[e]? ≠ ms[i]?, ?_, ?_⟩
    · refine ⟨fun m σ H2 => ∃ e : Nat, m = ms.length - e ∧ σ = [some (.ref a), some (.int i), some (.int e)] ∧ H2 = H ∧ i ≤ e ∧ e ≤ ms.length ∧ ∀ j, i ≤ j → j < e → ms[j]? = ms[i]?, ⟨_, i, rfl, rfl, rfl, Nat.le_refl _, by omega, fun j h1 h2 => by omega⟩, ?_⟩
      rintro m σ H2 ⟨e, rfl, rfl, rfl, hie, hel, hall⟩
      refine ⟨_, rfl, _, rfl, a, _, rfl, .inr (SqT.of ha), _, _, rfl, rfl, _, rfl, ?_⟩
      refine ite2 (fun h => ?_) (fun h => ?_)
      · have hlt : (e : Int) < ((intV ms).length : Int) := of_decide_eq_true h
        rw [ints_len] at hlt
        have qe : ms[e]? = some ms[e] := List.getElem?_eq_getElem (by omega)
        refine ⟨_, rfl, _, rfl, a, _, _, _, rfl, rfl, SqT.of ha, tup_at qe, _, rfl, _, rfl, a, _, _, _, rfl, rfl, SqT.of ha, tup_at qi, rfl, _, rfl, ?_⟩
        refine ite2 (fun h => ?_) (fun h => ?_)
        · have heq : ms[e] = ms[i] := by
            have := of_decide_eq_true h
            injection this
          refine ⟨_, fun _ _ h => h, ?_⟩
          refine ⟨_, rfl, _, _, rfl, rfl, ?_⟩
          refine ⟨_, ?_, e + 1, rfl, rfl, rfl, by omega, by omega, fun j h1 h2 => ?_⟩
          · omega
          · by_cases hj : j = e
            · rw [hj, qe, qi, heq]
            · exact hall j h1 (by omega)
        · have hne : ¬ ms[e] = ms[i] := fun z => h (decide_eq_true (show V.int ms[e] = V.int ms[i] by rw [z]))
          have hie2 : i < e := by
            rcases Nat.lt_or_eq_of_le hie with z | z
            · exact z
            · subst z
              exact absurd rfl hne
          exact ⟨e, rfl, rfl, hie2, hel, hall, by rw [qe, qi]; exact fun z => hne (Option.some.inj z)⟩
      · have hge : ms.length ≤ e := by
          have : ¬ (e : Int) < ((intV ms).length : Int) := fun z => h (decide_eq_true z)
          rw [ints_len] at this
          omega
        refine iteF ?_
        exact ⟨e, rfl, rfl, by omega, hel, hall, by rw [List.getElem?_eq_none hge, qi]; exact fun z => by cases z⟩
    rintro σ H2 ⟨e, rfl, rfl, h1, h2, h3, h4⟩
    exact ⟨_, rfl, k e h1 h2 h3 h4⟩
theorem ok_shown_run (T : Txt K mg A) : FnOk P w K mg base (CXw P w) 1 A.f_shown_run A.d_shown_run ["names", "step", "many"] spRun := by
  refine T.shown_run.F.okN sc_shown_run (fun vs H Q E h => ?_) (fun cdv AA outer s H vs Q E hr h => ?_)
  · obtain ⟨nm, st, m, rfl, _⟩ := h
    rfl
  · obtain ⟨nm, st, m, rfl, hlow, h0, hle, hm, k⟩ := h
    refine ⟨_, (pss_cons (ps_set (i := 3) sc_shown_run.nd rfl (Or.inl rfl) (pe_ix ix_X (pv 0) (pe_op op_sub (pe_callB call_abs rfl T.z_abs PyProof.Rows.boot_abs (pa_cons (pv 1) pa_nil)) pe_int) (fun _ _ => rfl)))
      (pss_cons (ps_set (i := 4) sc_shown_run.nd rfl (Or.inl rfl) (pe_cut (pe_ifExp (pt_cmpR op_gt (pv 1) pe_int (nomark _)) (pv 3) (pe_bm0 PySem.F.plainAttrs_str PySem.F.slot_str_upper PySem.F.type_str_upper mt_upX (pv 3)))))
      (pss_cons (ps_if (pt_cmpR op_eq (pv 2) pe_int (nomark _))
        (pss_one (ps_ret (pv 4)))
        pss_nil)
      (pss_one (ps_ret (pe_power (pv 4) (pv 2) rfl)))))), ?_⟩
    obtain ⟨c, hc, ec⟩ := low_at hlow h0 hle
    refine ⟨_, rfl, _, rfl, _, rfl, _, _, rfl, rfl, nm, _, _, rfl, rfl, hlow.sz, sgn_at h0 hle, ?_⟩
    refine ⟨fun v H' => v = .str (tx [sgn nm st]) ∧ H' = H, ?_, ?_⟩
    · refine ⟨_, rfl, _, _, rfl, rfl, _, rfl, ?_⟩
      refine ite2 (fun h => ?_) (fun h => ?_)
      · have h' : 0 < st := of_decide_eq_true h
        exact ⟨_, rfl, by unfold sgn; rw [if_pos h'], rfl⟩
      · have h' : ¬ 0 < st := fun z => h (decide_eq_true z)
        refine ⟨_, rfl, rfl, _, rfl, rfl, by show 1 ≤ 1000; decide, ?_, ?_, rfl⟩
        · intro d hd
          have : d = nm.getD (st.natAbs - 1) 0 := by simpa using hd
          omega
        · show V.str (tx [PyProof.Rows.up1 (nm.getD (st.natAbs - 1) 0)]) = _
          unfold sgn PyProof.Rows.up1
          rw [if_neg h', if_pos (by omega)]
    rintro v H' ⟨rfl, rfl⟩
    refine ⟨_, rfl, rfl, _, rfl, ?_⟩
    unfold piece at k
    refine ite2 (fun h => ?_) (fun h => ?_)
    · have e : m = 1 := by
        have := of_decide_eq_true h
        injection this with this
        omega
      rw [if_pos e] at k
      exact ⟨_, rfl, k⟩
    · have e : ¬ m = 1 := fun z => h (decide_eq_true (show V.int (m : Int) = V.int 1 by rw [z]; rfl))
      rw [if_neg e] at k
      refine ⟨_, rfl, _, rfl, by show 1 ≤ 1000; decide, _, rfl, _, rfl, by omega, ?_, k⟩
      exact Nat.le_trans (digs_len (by omega) (by omega)) (by decide)
theorem ok__law_text (T : Txt K mg A) : FnOk P w K mg base (CXw P w) 2 A.f__law_text A.d__law_text ["_law_names_here", "_law_word"] spText := by
  have G__law_sign : FnOk P w K mg base (CXw P w) 1 A.f__law_sign A.d__law_sign ["_law_names_here", "_law_step_here"] spSign := ok__law_sign T
  refine T._law_text.F.okN sc__law_text (fun vs H Q E h => ?_) (fun cdv AA outer s H vs Q E hr h => ?_)
  · obtain ⟨nm, a, ms, rfl, _⟩ := h
    rfl
  · obtain ⟨nm, a, ms, rfl, hlow, ha, hm, hst, k⟩ := h
    refine ⟨_, (pss_cons (ps_set (i := 2) sc__law_text.nd rfl (Or.inl rfl) (pe_strX (l := []) rfl))
      (pss_cons (ps_set (i := 3) sc__law_text.nd rfl (Or.inl rfl) (pe_callB call_len_seq rfl T.z_len PySem.boot_len (pa_cons (pv 1) pa_nil)))
      (pss_cons (ps_cut (ps_while PassesOwn.never (pt_cmpR op_gt (pv 3) pe_int (nomark _))
        (pss_cons (ps_set (i := 4) sc__law_text.nd rfl (Or.inl rfl) (pe_op op_sub (pv 3) pe_int))
        (pss_cons (ps_cut (ps_while PassesOwn.never (PW.pt (pw_and (pt_cmpR op_gt (pv 4) pe_int (nomark _)) (pw_and1 (pt_cmpR op_eq (pe_ix ix_tup (pv 1) (pe_op op_sub (pv 4) pe_int) (fun _ _ => rfl)) (pe_ix ix_tup (pv 1) (pe_op op_sub (pv 3) pe_int) (fun _ _ => rfl)) (nomark _)))))
          (pss_one (ps_set (i := 4) sc__law_text.nd rfl (Or.inl rfl) (pe_op op_sub (pv 4) pe_int)))))
        (pss_cons (ps_set (i := 5) sc__law_text.nd rfl (Or.inl rfl) (pe_call (G__law_sign) (hr.mono (by decide)) rfl T._law_sign.m T._law_sign.F.kp T._law_sign.b .nil passF (pa_cons (pv 0) (pa_cons (pe_ix ix_tup (pv 1) (pv 4) (fun _ _ => rfl)) pa_nil))))
        (pss_cons (ps_cut (ps_if (pt_cmpR op_gt (pe_op op_sub (pv 3) (pv 4)) pe_int (nomark _))
          (pss_one (ps_set (i := 5) sc__law_text.nd rfl (Or.inl rfl) (pe_op op_addX (pe_op op_addX (pv 5) (pe_strX (l := [94]) rfl)) (pe_callTy call_strX rfl T.z_str PyProof.Rows.boot_str (pa_cons (pe_op op_sub (pv 3) (pv 4)) pa_nil)))))
          pss_nil))
        (pss_cons (ps_set (i := 2) sc__law_text.nd rfl (Or.inl rfl) (pe_op op_addX (pv 5) (pv 2)))
        (pss_one (ps_set (i := 3) sc__law_text.nd rfl (Or.inl rfl) (pv 4))))))))))
      (pss_cons (ps_if (pt_cmpR op_eq (pv 2) (pe_strX (l := []) rfl) (nomark _))
        (pss_one (ps_ret (pe_strX (l := [49]) rfl)))
        pss_nil)
      (pss_one (ps_ret (pv 2))))))), ?_⟩
    refine ⟨_, rfl, a, _, rfl, .inr (SqT.of ha), ?_⟩
    rw [ints_len]
    refine ⟨fun σ H2 => ∃ v4 v5 : Option V, σ = [some (.str (tx nm)), some (.ref a), some (.str (tx (pcs nm ms).flatten)), some (.int 0), v4, v5] ∧ H2 = H, ?_, ?_⟩
    · refine ⟨fun m σ H2 => ∃ (e : Nat) (v4 v5 : Option V), e = m ∧ σ = [some (.str (tx nm)), some (.ref a), some (.str (tx (pcs nm (ms.drop e)).flatten)), some (.int e), v4, v5] ∧ H2 = H ∧ e ≤ ms.length ∧ (0 < e → ms[e]? ≠ ms[e - 1]?),
        ⟨_, ms.length, none, none, rfl, ?_, rfl, Nat.le_refl _, fun h => ?_⟩, ?_⟩
      · rw [List.drop_length]
        rfl
      · rw [List.getElem?_eq_none (Nat.le_refl _), List.getElem?_eq_getElem (by omega)]
        exact fun z => by cases z
      rintro m σ H2 ⟨e, v4, v5, rfl, rfl, rfl, hel, hb⟩
      refine ⟨_, rfl, _, _, rfl, rfl, _, rfl, ?_⟩
      refine ite2 (fun h => ?_) (fun h => ?_)
      · have he0 : 0 < e := by
          have : (0 : Int) < (e : Int) := of_decide_eq_true h
          omega
        refine ⟨_, fun _ _ h => h, ?_⟩
        have q1 : ms[e - 1]? = some ms[e - 1] := List.getElem?_eq_getElem (by omega)
        refine ⟨_, rfl, _, _, rfl, rfl, ?_⟩
        refine ⟨fun σ H3 => ∃ j : Nat, σ = [some (.str (tx nm)), some (.ref a), some (.str (tx (pcs nm (ms.drop e)).flatten)), some (.int e), some (.int j), v5] ∧ H3 = H2 ∧ j < e ∧ (∀ i, j ≤ i → i < e → ms[i]? = ms[e - 1]?) ∧ (0 < j → ms[j - 1]? ≠ ms[e - 1]?), ?_, ?_⟩
        · refine ⟨fun m' σ H3 => ∃ j : Nat, j = m' ∧ σ = [some (.str (tx nm)), some (.ref a), some (.str (tx (pcs nm (ms.drop e)).flatten)), some (.int e), some (.int j), v5] ∧ H3 = H2 ∧ j < e ∧ ∀ i, j ≤ i → i < e → ms[i]? = ms[e - 1]?,
            ⟨_, e - 1, rfl, ?_, rfl, by omega, fun i h1 h2 => by rw [show i = e - 1 by omega]⟩, ?_⟩
          · rw [show ((e - 1 : Nat) : Int) = (e : Int) - 1 by omega]
            rfl
          rintro m' σ H3 ⟨j, rfl, rfl, rfl, hje, hall⟩
          refine ⟨_, rfl, _, _, rfl, rfl, _, rfl, ?_⟩
          refine ite2 (fun h => ?_) (fun h => ?_)
          · have hj0 : 0 < j := by
              have : (0 : Int) < (j : Int) := of_decide_eq_true h
              omega
            have q2 : ms[j - 1]? = some ms[j - 1] := List.getElem?_eq_getElem (by omega)
            refine ⟨_, rfl, _, rfl, _, _, rfl, rfl, a, _, _, _, rfl, rfl, SqT.of ha, tup_atI (j := j - 1) (by omega) q2, _, rfl, _, rfl, _, _, rfl, rfl, a, _, _, _, rfl, rfl, SqT.of ha, tup_atI (j := e - 1) (by omega) q1, rfl, _, rfl, ?_⟩
            refine ite2 (fun h => ?_) (fun h => ?_)
            · have heq : ms[j - 1] = ms[e - 1] := by
                have := of_decide_eq_true h
                injection this
              refine ⟨_, fun _ _ h => h, ?_⟩
              refine ⟨_, rfl, _, _, rfl, rfl, ?_⟩
              refine ⟨j - 1, by omega, j - 1, rfl, ?_, rfl, by omega, fun i h1 h2 => ?_⟩
              · rw [show ((j - 1 : Nat) : Int) = (j : Int) - 1 by omega]
                rfl
              · by_cases hi : i = j - 1
                · rw [hi, q2, q1, heq]
                · exact hall i (by omega) h2
            · have hne : ¬ ms[j - 1] = ms[e - 1] := fun z => h (decide_eq_true (show V.int ms[j - 1] = V.int ms[e - 1] by rw [z]))
              exact ⟨j, rfl, rfl, hje, hall, fun _ => by rw [q2, q1]; exact fun z => hne (Option.some.inj z)⟩
          · refine iteF ?_
            have hj0 : ¬ 0 < j := fun z => h (decide_eq_true (show (0 : Int) < (j : Int) by omega))
            exact ⟨j, rfl, rfl, hje, hall, fun z => absurd z hj0⟩
        rintro σ H3 ⟨j, rfl, rfl, hje, hall, hbj⟩
        have qj : ms[j]? = some ms[e - 1] := by rw [hall j (Nat.le_refl _) hje]; exact q1
        have hsj := hst _ (List.getElem_mem (l := ms) (n := e - 1) (by omega))
        have hp : pcs nm (ms.drop j) = piece nm ms[e - 1] (e - j) :: pcs nm (ms.drop e) := pcs_at hje (fun i h1 h2 => by rw [hall i h1 h2]; exact q1) (by rw [← q1]; exact hb he0)
        have hdg := digs_len (n := ((e - j : Nat) : Int)) (by omega) (by omega)
        have hfl := pcs_len (nm := nm) (ms := ms.drop e) (drop_len hm)
        refine ⟨_, rfl, _, rfl, _, rfl, a, _, _, _, rfl, rfl, SqT.of ha, tup_at qj, nm, _, rfl, hlow, hsj.1, hsj.2, ?_⟩
        refine ⟨fun σ' H' => σ' = [some (.str (tx nm)), some (.ref a), some (.str (tx (pcs nm (ms.drop e)).flatten)), some (.int e), some (.int j), some (.str (tx (piece nm ms[e - 1] (e - j))))] ∧ H' = H3, ?_, ?_⟩
        · refine ⟨_, rfl, _, rfl, _, _, rfl, rfl, _, _, rfl, rfl, _, rfl, ?_⟩
          refine ite2 (fun h => ?_) (fun h => ?_)
          · have h' : (1 : Int) < (e : Int) - (j : Int) := of_decide_eq_true h
            refine ⟨_, rfl, _, _, rfl, rfl, by show 1 + 1 ≤ sizeLine; decide, _, rfl, _, rfl, _, _, rfl, rfl, _, rfl, by omega, _, _, rfl, rfl, ?_, ?_, rfl⟩
            · rw [show (e : Int) - (j : Int) = ((e - j : Nat) : Int) by omega]
              exact Nat.le_trans (show 2 + (digs ((e - j : Nat) : Int)).length ≤ 12 by omega) (by decide)
            · rw [show (e : Int) - (j : Int) = ((e - j : Nat) : Int) by omega]
              unfold piece
              rw [if_neg (show ¬ e - j = 1 by omega)]
              rfl
          · have h' : ¬ (1 : Int) < (e : Int) - (j : Int) := fun z => h (decide_eq_true z)
            refine ⟨?_, rfl⟩
            unfold piece
            rw [if_pos (show e - j = 1 by omega)]
            rfl
        rintro σ' H' ⟨rfl, rfl⟩
        have hpl := piece_len (nm := nm) (s := ms[e - 1]) (m := e - j) (by omega)
        refine ⟨_, rfl, _, rfl, _, _, rfl, rfl, Nat.le_trans (show (piece nm ms[e - 1] (e - j)).length + (pcs nm (ms.drop e)).flatten.length ≤ 30000 by omega) (by decide), ?_⟩
        refine ⟨_, rfl, j, by omega, j, some (.int j), some (.str (tx (piece nm ms[e - 1] (e - j)))), rfl, ?_, rfl, by omega, fun hj0 => ?_⟩
        · rw [hp, List.flatten_cons]
          rfl
        · rw [qj, ← q1]
          exact fun z => hbj hj0 z.symm
      · have he0 : e = 0 := by
          have : ¬ (0 : Int) < (e : Int) := fun z => h (decide_eq_true z)
          omega
        subst he0
        exact ⟨_, _, rfl, rfl⟩
    rintro σ H2 ⟨v4, v5, rfl, rfl⟩
    refine ⟨_, rfl, rfl, _, rfl, ?_⟩
    unfold shw at k
    refine ite2 (fun h => ?_) (fun h => ?_)
    · have e : (pcs nm ms).flatten = [] := by
        have := of_decide_eq_true h
        injection this with this
        exact tx_inj this
      have hnil : ms = [] := by
        cases hr2 : M4.runs ms with
        | nil => exact M4.runs_nil hr2
        | cons p q =>
          unfold pcs at e
          rw [hr2, List.map_cons, List.flatten_cons] at e
          exact absurd (List.append_eq_nil_iff.mp e).1 piece_ne
      rw [if_pos hnil] at k
      exact k
    · have hne : ms ≠ [] := fun z => h (decide_eq_true (by subst z; rfl))
      rw [if_neg hne] at k
      exact ⟨_, rfl, k⟩
theorem ok_shown (T : Txt K mg A) : FnOk P w K mg base (CXw P w) 2 A.f_shown A.d_shown ["names", "word"] spShown := by
  have G_run_end : FnOk P w K mg base (CXw P w) 1 A.f_run_end A.d_run_end ["word", "at"] spEnd := ok_run_end T
  have G_shown_run : FnOk P w K mg base (CXw P w) 1 A.f_shown_run A.d_shown_run ["names", "step", "many"] spRun := ok_shown_run T
  refine T.shown.F.okN sc_shown (fun vs H Q E h => ?_) (fun cdv AA outer s H vs Q E hr h => ?_)
  · obtain ⟨nm, a, ms, rfl, _⟩ := h
    rfl
  · obtain ⟨nm, a, ms, rfl, hlow, ha, hm, hst, k⟩ := h
    refine ⟨_, (pss_cons (ps_if (pt_cmpR op_eq (pe_callB call_len_seq rfl T.z_len PySem.boot_len (pa_cons (pv 1) pa_nil)) pe_int (nomark _))
        (pss_one (ps_ret (pe_strX (l := [49]) rfl)))
        pss_nil)
      (pss_cons (ps_set (i := 2) sc_shown.nd rfl (Or.inl rfl) (pe_lst pa_nil))
      (pss_cons (ps_set (i := 3) sc_shown.nd rfl (Or.inl rfl) pe_int)
      (pss_cons (ps_cut (ps_while PassesOwn.never (pt_cmpR op_lt (pv 3) (pe_callB call_len_seq rfl T.z_len PySem.boot_len (pa_cons (pv 1) pa_nil)) (nomark _))
        (pss_cons (ps_set (i := 4) sc_shown.nd rfl (Or.inl rfl) (pe_call (G_run_end) (hr.mono (by decide)) rfl T.run_end.m T.run_end.F.kp T.run_end.b .nil passF (pa_cons (pv 1) (pa_cons (pv 3) pa_nil))))
        (pss_cons (ps_expr (pe_bm PySem.F.plainAttrs_list PySem.F.slot_list_append PySem.F.type_list_append mt_append (pv 2) (pa_cons (pe_call (G_shown_run) (hr.mono (by decide)) rfl T.shown_run.m T.shown_run.F.kp T.shown_run.b .nil passF (pa_cons (pv 0) (pa_cons (pe_ix ix_tup (pv 1) (pv 3) (fun _ _ => rfl)) (pa_cons (pe_op op_sub (pv 4) (pv 3)) pa_nil)))) pa_nil)))
        (pss_one (ps_set (i := 3) sc_shown.nd rfl (Or.inl rfl) (pv 4)))))))
      (pss_one (ps_ret (pe_bm PySem.F.plainAttrs_str PySem.F.slot_str_join PySem.F.type_str_join mt_joinX (pe_strX (l := []) rfl) (pa_cons (pv 2) pa_nil)))))))), ?_⟩
    refine ⟨_, rfl, a, _, rfl, .inr (SqT.of ha), rfl, _, rfl, ?_⟩
    unfold shw at k
    refine ite2 (fun h => ?_) (fun h => ?_)
    · have e : ms = [] := by
        have := of_decide_eq_true h
        injection this with this
        rw [ints_len] at this
        exact List.eq_nil_of_length_eq_zero (by omega)
      rw [if_pos e] at k
      exact k H (Same.refl H)
    · have hne : ms ≠ [] := fun z => h (decide_eq_true (by subst z; rfl))
      simp only [if_neg hne] at k
      refine ⟨Nat.zero_le _, fun l hl => ?_⟩
      refine ⟨fun σ H2 => ∃ (w3 v4 : Option V), σ = [some (.str (tx nm)), some (.ref a), some (.ref l), w3, v4] ∧ H2 = upd H l (.lst (strV (pcs nm ms))), ?_, ?_⟩
      · refine ⟨fun m σ H2 => ∃ (i : Nat) (ps : List (List Nat)) (v4 : Option V), m = ms.length - i ∧ σ = [some (.str (tx nm)), some (.ref a), some (.ref l), some (.int i), v4] ∧ H2 = upd H l (.lst (strV ps)) ∧ i ≤ ms.length ∧ ps ++ pcs nm (ms.drop i) = pcs nm ms, ⟨_, 0, [], none, rfl, rfl, rfl, Nat.zero_le _, rfl⟩, ?_⟩
        rintro m σ H2 ⟨i, ps, v4, rfl, rfl, rfl, hi, hps⟩
        have hal : ∀ o, (upd H l o) a = some (.tup (intV ms)) := fun o => by rw [upd_ne (ne_of_none ha hl)]; exact ha
        refine ⟨_, rfl, _, rfl, a, _, rfl, .inr (SqT.of (hal _)), _, _, rfl, rfl, _, rfl, ?_⟩
        refine ite2 (fun h => ?_) (fun h => ?_)
        · have hlt : i < ms.length := by
            have : (i : Int) < ((intV ms).length : Int) := of_decide_eq_true h
            rw [ints_len] at this
            omega
          refine ⟨_, fun _ _ h => h, ?_⟩
          have qi : ms[i]? = some ms[i] := List.getElem?_eq_getElem hlt
          have hsi := hst _ (List.getElem_mem hlt)
          refine ⟨_, rfl, _, rfl, a, ms, i, rfl, hal _, hlt, fun e h1 h2 h3 h4 => ?_⟩
          refine ⟨_, rfl, .inl ⟨rfl, _, SqL.of upd_same⟩, _, rfl, _, rfl, _, rfl, a, _, _, _, rfl, rfl, SqT.of (hal _), tup_at qi, _, rfl, _, rfl, _, _, rfl, rfl, nm, ms[i], e - i, ?_, hlow, hsi.1, hsi.2, by omega, ?_⟩
          · rw [show ((e - i : Nat) : Int) = (e : Int) - (i : Int) by omega]
            rfl
          refine ⟨l, _, _, rfl, rfl, upd_same, ?_, ?_⟩
          · have h5 := congrArg List.length hps
            rw [List.length_append] at h5
            have h6 : (pcs nm ms).length = (M4.runs ms).length := by unfold pcs; rw [List.length_map]
            have h7 := M4.runs_len ms
            have h8 : (strV ps).length = ps.length := by unfold strV; rw [List.length_map]
            rw [h8]
            exact Nat.lt_of_le_of_lt (show ps.length ≤ 2000 by omega) (by decide)
          refine ⟨_, rfl, ms.length - e, by omega, e, ps ++ [piece nm ms[i] (e - i)], _, rfl, rfl, ?_, h2, ?_⟩
          · rw [upd_upd]
            unfold strV
            rw [List.map_append]
            rfl
          · rw [← hps, pcs_at h1 (fun j h5 h6 => by rw [h3 j h5 h6]; exact qi) (by rw [← qi]; exact h4), List.append_assoc]
            rfl
        · have hge : i = ms.length := by
            have : ¬ (i : Int) < ((intV ms).length : Int) := fun z => h (decide_eq_true z)
            rw [ints_len] at this
            omega
          subst hge
          have e : ps = pcs nm ms := by
            rw [← hps, List.drop_length]
            show ps = ps ++ []
            rw [List.append_nil]
          subst e
          exact ⟨_, _, rfl, rfl⟩
      rintro σ H2 ⟨w3, v4, rfl, rfl⟩
      have hfl := pcs_len (nm := nm) (ms := ms) hm
      exact ⟨rfl, _, rfl, l, pcs nm ms, rfl, rfl, SqL.of upd_same, by omega, k _ (Same.upd hl)⟩
theorem base_none {nm : List Nat} {c : Nat} (hlow : Low nm) (h49 : c ≠ 49) (h1 : c ∉ nm) (h2 : 65 ≤ c → c ≤ 90 → c + 32 ∉ nm) : M5.baseOf nm c = none := by
  unfold M5.baseOf
  rw [M5.bases_other (fun y hy => ⟨fun z => h1 (by rw [z]; exact hy), fun z => ?_⟩)]
  · exact if_neg h49
  · have := hlow.2 y hy
    exact h2 (by omega) (by omega) (by rw [show c + 32 = y by omega]; exact hy)
theorem bad_sgn {nm : List Nat} {a : Int} (hlow : Low nm) (hnd : nm.Nodup) (h0 : a ≠ 0) (hle : a.natAbs ≤ nm.length) : M5.bad (M5.baseOf nm) (sgn nm a) = false := by
  unfold M5.bad
  rw [base_sgn hlow hnd h0 hle]
  rfl
theorem read_shw {nm : List Nat} {ms : List Int} (hlow : Low nm) (hnd : nm.Nodup) (hm : ms.length ≤ 200) (hst : Steps nm.length ms) : M5.readM (M5.baseOf nm) (shw nm ms) = .word ms := by
  obtain ⟨M, h1, h2⟩ := shw_read hlow hnd hm hst
  exact M5.read_bal h1 h2 hm
def Cl (t : List Nat) : Prop := ∀ c ∈ t, c ≠ 32 ∧ c ≠ 44 ∧ c < 128
theorem Cl.app {a b : List Nat} (h : Cl a) (h2 : Cl b) : Cl (a ++ b) := fun c hc => (List.mem_append.mp hc).elim (h c) (h2 c)
theorem Cl.cons {c : Nat} {b : List Nat} (h : c ≠ 32 ∧ c ≠ 44 ∧ c < 128) (h2 : Cl b) : Cl (c :: b) := fun d hd => (List.mem_cons.mp hd).elim (fun e => by rw [e]; exact h) (h2 d)
theorem cl_nil : Cl [] := fun c hc => by cases hc
theorem cl_digs (n : Nat) : Cl (digs (n : Int)) := fun c hc => by have := digs_fig hc; omega
theorem cl_sgn {nm : List Nat} {a : Int} (hlow : Low nm) (h0 : a ≠ 0) (hle : a.natAbs ≤ nm.length) : sgn nm a ≠ 32 ∧ sgn nm a ≠ 44 ∧ sgn nm a < 128 := by
  have := sgn_letter hlow h0 hle
  omega
theorem cl_shw {nm : List Nat} {ms : List Int} (hlow : Low nm) (hst : Steps nm.length ms) : Cl (shw nm ms) := by
  unfold shw
  split
  · exact Cl.cons (by decide) cl_nil
  · intro c hc
    obtain ⟨p, hp, hcp⟩ := List.mem_flatten.mp hc
    obtain ⟨q, hq, rfl⟩ := List.mem_map.mp hp
    have h1 := hst _ (M4.runs_mem hq).1
    have hs := cl_sgn hlow h1.1 h1.2
    have cp : Cl (piece nm q.1 q.2) := by
      unfold piece
      split
      · exact Cl.cons hs cl_nil
      · exact Cl.cons hs (Cl.cons (by decide) (cl_digs _))
    exact cp c hcp
theorem shw_ne {nm : List Nat} {ms : List Int} : shw nm ms ≠ [] := by
  unfold shw
  split
  · simp
  · rename_i h
    intro z
    cases hr : M4.runs ms with
    | nil => exact h (M4.runs_nil hr)
    | cons p q =>
      unfold pcs at z
      rw [hr, List.map_cons, List.flatten_cons] at z
      exact absurd (List.append_eq_nil_iff.mp z).1 piece_ne
theorem Cl.bare {t : List Nat} (h : Cl t) : Bare t := by
  refine .inr ⟨fun z => ?_, fun z => ?_⟩
  · exact (h 32 (List.mem_of_head? z)).1 rfl
  · exact (h 32 (List.mem_of_getLast? z)).1 rfl
theorem Cl.asc {t : List Nat} (h : Cl t) : M8.Asc t := fun c hc => (h c hc).2.2
theorem read_nil {f : M5.Base} : M5.readM f [] = .noWord := by
  unfold M5.readM
  rw [M5.marks_nil]
  rfl
theorem read_one {nm : List Nat} (hlow : Low nm) (hnd : nm.Nodup) : M5.readM (M5.baseOf nm) [49] = .word [] := read_shw (ms := []) hlow hnd (by simp) (fun s hs => by cases hs)
section
variable {nm : List Nat} {a b : Int} (hlow : Low nm) (hnd : nm.Nodup) (h0 : a ≠ 0) (hle : a.natAbs ≤ nm.length) (g0 : b ≠ 0) (gle : b.natAbs ≤ nm.length)
include hlow hnd h0 hle
theorem read_pow {n : Nat} (hn : n ≤ 200) : M5.readM (M5.baseOf nm) (sgn nm a :: 94 :: digs (n : Int)) = .word (List.replicate n a) := by
  have hl := sgn_letter hlow h0 hle
  have b1 := M5.Bal.sign (f := M5.baseOf nm) (c := sgn nm a) (p := (n : Int)) (b := [a]) (by omega) (by omega) (base_sgn hlow hnd h0 hle)
  rw [raise_one] at b1
  exact M5.read_bal (M5.Lex.sign (bad_sgn hlow hnd h0 hle) (by omega) (tail_digs (by omega))) b1 (by rw [List.length_replicate]; exact hn)
theorem read_sign : M5.readM (M5.baseOf nm) [sgn nm a] = .word [a] := by
  have hl := sgn_letter hlow h0 hle
  have b1 := M5.Bal.sign (f := M5.baseOf nm) (c := sgn nm a) (p := 1) (b := [a]) (by omega) (by omega) (base_sgn hlow hnd h0 hle)
  exact M5.read_bal (M5.Lex.sign (bad_sgn hlow hnd h0 hle) (by omega) .none) b1 (by show 1 ≤ 200; decide)
theorem read_blank : M5.readM (M5.baseOf nm) [sgn nm a, 32, sgn nm a] = .noWord := by
  have hl := sgn_letter hlow h0 hle
  unfold M5.readM
  rw [M5.marks_sign (bad_sgn hlow hnd h0 hle) (by omega) (M5.pow_else (by simp)), M5.marks_bad]
  · rfl
  · unfold M5.bad
    rw [base_none hlow (by decide) (fun z => by have := hlow.2 _ z; omega) (fun z => by omega)]
    rfl
theorem read_long : M5.readM (M5.baseOf nm) (sgn nm a :: [94, 50, 48, 49]) = .tooLong := by
  have hl := sgn_letter hlow h0 hle
  have t : M5.Tail [94, 50, 48, 49] 201 := M5.Tail.pos (fs := [50, 48, 49]) rfl rfl
  have p := M8.Pc.sign (f := M5.baseOf nm) (c := sgn nm a) (p := 201) (b := [a]) (by omega) (by omega) (base_sgn hlow hnd h0 hle)
  exact (M8.read_ct (M5.Lex.sign (bad_sgn hlow hnd h0 hle) (by omega) t) p.ck (M8.Ct.put (c' := 0) (g' := true) (M8.Ct.nil _) p (fun z => by cases z) (fun _ => .inr (.inr (by show 0 + 1 * 201 > 200; decide))))).2 rfl
theorem read_long2 : M5.readM (M5.baseOf nm) (40 :: (((sgn nm a :: [94, 49, 53, 48]) ++ (sgn nm a :: [94, 53, 49])) ++ 41 :: [94, 48])) = .tooLong := by
  have hl := sgn_letter hlow h0 hle
  have hb := bad_sgn hlow hnd h0 hle
  have t1 : M5.Tail [94, 49, 53, 48] 150 := M5.Tail.pos (fs := [49, 53, 48]) rfl rfl
  have t2 : M5.Tail [94, 53, 49] 51 := M5.Tail.pos (fs := [53, 49]) rfl rfl
  have t3 : M5.Tail [94, 48] 0 := M5.Tail.pos (fs := [48]) rfl rfl
  have p1 := M8.Pc.sign (f := M5.baseOf nm) (c := sgn nm a) (p := 150) (b := [a]) (by omega) (by omega) (base_sgn hlow hnd h0 hle)
  have p2 := M8.Pc.sign (f := M5.baseOf nm) (c := sgn nm a) (p := 51) (b := [a]) (by omega) (by omega) (base_sgn hlow hnd h0 hle)
  have l12 := (M5.Lex.sign hb (by omega) t1).append (M5.Lex.sign hb (by omega) t2) (fun r _ => sgn_next hlow h0 hle)
  have c1 := M8.Ct.put (c' := 150) (g' := false) (M8.Ct.nil (M5.baseOf nm)) p1 (fun _ => ⟨rfl, rfl, by show 0 + 1 * 150 ≤ 200; decide, rfl⟩) (fun z => by cases z)
  have c2 := M8.Ct.put (c' := 0) (g' := true) c1 p2 (fun z => by cases z) (fun _ => .inr (.inr (by show 150 + 1 * 51 > 200; decide)))
  have p3 := M8.Pc.bracket (p := 0) (p1.ck.append p2.ck) c2
  exact (M8.read_ct (l12.bracket t3) p3.ck (M8.Ct.put (c' := 0) (g' := true) (M8.Ct.nil _) p3 (fun z => by cases z) (fun _ => .inr (.inl rfl)))).2 rfl
include g0 gle
theorem read_pair {tl : List Nat} {p : Int} (ht : M5.Tail tl p) (hp : 2 * p.natAbs ≤ 200) : M5.readM (M5.baseOf nm) (40 :: (([sgn nm a] ++ [sgn nm b]) ++ 41 :: tl)) = .word (M5.raiseW [a, b] p) := by
  have hl := sgn_letter hlow h0 hle
  have gl := sgn_letter hlow g0 gle
  have b1 := M5.Bal.sign (f := M5.baseOf nm) (c := sgn nm a) (p := 1) (b := [a]) (by omega) (by omega) (base_sgn hlow hnd h0 hle)
  have b2 := M5.Bal.sign (f := M5.baseOf nm) (c := sgn nm b) (p := 1) (b := [b]) (by omega) (by omega) (base_sgn hlow hnd g0 gle)
  have l12 := (M5.Lex.sign (bad_sgn hlow hnd h0 hle) (by omega) .none).append (M5.Lex.sign (bad_sgn hlow hnd g0 gle) (by omega) .none) (fun r _ => sgn_next hlow g0 gle)
  refine M5.read_bal (l12.bracket ht) ((b1.append b2).bracket (by show 2 ≤ 200; decide)) ?_
  rw [M5.raise_len]
  exact hp
end
def rdL (f : M5.Base) : List (List Nat) → List (List Int) ⊕ Bool
  | [] => .inl []
  | m :: r => match M5.readM f m with
    | .noWord => .inr true
    | .tooLong => .inr false
    | .word x => match rdL f r with
      | .inl ws => .inl (x :: ws)
      | .inr b => .inr b
def Pads : List (List Nat) → List (List Nat) → Prop
  | [], [] => True
  | l :: ls, m :: ms => (∃ a b, l = List.replicate a 32 ++ m ++ List.replicate b 32) ∧ Bare m ∧ Pads ls ms
  | _, _ => False
def RL (f : M5.Base) (t : List Nat) (o : List (List Int) ⊕ Bool) : Prop :=
  (∃ n, t = List.replicate n 32 ∧ o = .inl []) ∨ ∃ ls ms, t = joinL [44] ls ∧ ls ≠ [] ∧ (∀ l ∈ ls, 44 ∉ l) ∧ (∃ c ∈ t, c ≠ 32) ∧ Pads ls ms ∧ rdL f ms = o
def cd : List (List Int) ⊕ Bool → List Nat
  | .inl _ => [119, 111, 114, 100]
  | .inr true => [110, 111]
  | .inr false => [108, 111, 110, 103]
theorem Pads.len : ∀ {ls ms : List (List Nat)}, Pads ls ms → ls.length = ms.length
  | [], [], _ => rfl
  | [], _ :: _, h => h.elim
  | _ :: _, [], h => h.elim
  | _ :: _, _ :: _, h => congrArg (· + 1) (Pads.len h.2.2)
theorem Pads.at : ∀ {ls ms : List (List Nat)} {i : Nat} {l : List Nat}, Pads ls ms → ls[i]? = some l → ∃ m a b, ms[i]? = some m ∧ l = List.replicate a 32 ++ m ++ List.replicate b 32 ∧ Bare m
  | [], _, i, l, _, e => by simp at e
  | _ :: _, [], _, _, h, _ => h.elim
  | k :: ls, m :: ms, 0, l, h, e => by
    obtain ⟨⟨a, b, e1⟩, h2, _⟩ := h
    have : k = l := by simpa using e
    subst this
    exact ⟨m, a, b, rfl, e1, h2⟩
  | k :: ls, m :: ms, i + 1, l, h, e => Pads.at (i := i) h.2.2 (by simpa using e)
theorem Pads.snoc : ∀ {ls ms : List (List Nat)} {l m : List Nat}, Pads ls ms → (∃ a b, l = List.replicate a 32 ++ m ++ List.replicate b 32) → Bare m → Pads (ls ++ [l]) (ms ++ [m])
  | [], [], _, _, _, h, hb => ⟨h, hb, trivial⟩
  | [], _ :: _, _, _, h, _, _ => h.elim
  | _ :: _, [], _, _, h, _, _ => h.elim
  | _ :: _, _ :: _, _, _, h, h1, hb => ⟨h.1, h.2.1, Pads.snoc h.2.2 h1 hb⟩
theorem rdL_upto {f : M5.Base} : ∀ {ms : List (List Nat)} {o : List (List Int) ⊕ Bool}, rdL f ms = o → ∃ (k : Nat) (ws : List (List Int)), ws.length = k ∧ k ≤ ms.length ∧ (∀ (i : Nat) (m : List Nat) (w : List Int), ms[i]? = some m → ws[i]? = some w → M5.readM f m = .word w) ∧
    ((k = ms.length ∧ o = .inl ws) ∨ ∃ m, ms[k]? = some m ∧ ((M5.readM f m = .noWord ∧ o = .inr true) ∨ (M5.readM f m = .tooLong ∧ o = .inr false)))
  | [], o, h => ⟨0, [], rfl, Nat.le_refl _, fun i m w e => by simp at e, .inl ⟨rfl, h.symm⟩⟩
  | m :: ms, o, h => by
    unfold rdL at h
    cases e : M5.readM f m with
    | noWord =>
      rw [e] at h
      exact ⟨0, [], rfl, Nat.zero_le _, fun i m w _ e2 => by simp at e2, .inr ⟨m, rfl, .inl ⟨e, h.symm⟩⟩⟩
    | tooLong =>
      rw [e] at h
      exact ⟨0, [], rfl, Nat.zero_le _, fun i m w _ e2 => by simp at e2, .inr ⟨m, rfl, .inr ⟨e, h.symm⟩⟩⟩
    | word x =>
      rw [e] at h
      obtain ⟨k, ws, h1, h2, h3, h4⟩ := rdL_upto (f := f) (ms := ms) rfl
      refine ⟨k + 1, x :: ws, by rw [List.length_cons, h1], by rw [List.length_cons]; omega, fun i m' w' e1 e2 => ?_, ?_⟩
      · cases i with
        | zero =>
          have : m = m' := by simpa using e1
          have : x = w' := by simpa using e2
          subst_vars
          exact e
        | succ i => exact h3 i m' w' (by simpa using e1) (by simpa using e2)
      · rcases h4 with ⟨h4, h5⟩ | ⟨m2, h4, h5⟩
        · rw [h5] at h
          exact .inl ⟨by rw [List.length_cons, h4], h.symm⟩
        · refine .inr ⟨m2, by simpa using h4, ?_⟩
          rcases h5 with ⟨h5, h6⟩ | ⟨h5, h6⟩ <;> rw [h6] at h
          · exact .inl ⟨h5, h.symm⟩
          · exact .inr ⟨h5, h.symm⟩
structure ItemOk (nm t : List Nat) (R : M5.Res) : Prop where
  rd : M5.readM (M5.baseOf nm) t = R
  bare : Bare t
  com : 44 ∉ t
  len : t.length ≤ 100
  asc : M8.Asc t
  wd : ∀ x, R = .word x → x.length ≤ 20 ∧ Steps nm.length x
def kd : M5.Res → List Nat
  | .word _ => [119, 111, 114, 100]
  | .noWord => [110, 111]
  | .tooLong => [108, 111, 110, 103]
def wr : M5.Res → List Int
  | .word x => x
  | _ => []
def wrs (Rs : List M5.Res) : List (List Int) := Rs.filterMap fun R => match R with
  | .word x => some x
  | _ => none
def due : List M5.Res → List Nat
  | [] => [119, 111, 114, 100]
  | R :: r => match R with
    | .word _ => due r
    | R => kd R
theorem due_snoc (R : M5.Res) : ∀ Rs : List M5.Res, due (Rs ++ [R]) = if due Rs = [119, 111, 114, 100] then kd R else due Rs
  | [] => by cases R <;> rfl
  | S :: Rs => by
    have ih := due_snoc R Rs
    cases S with
    | word x => exact ih
    | noWord => rfl
    | tooLong => rfl
theorem wrs_snoc (R : M5.Res) (Rs : List M5.Res) : wrs (Rs ++ [R]) = wrs Rs ++ (match R with | .word x => [x] | _ => []) := by
  unfold wrs
  rw [List.filterMap_append]
  cases R <;> rfl
theorem rdL_items {f : M5.Base} : ∀ ts : List (List Nat), cd (rdL f ts) = due (ts.map (M5.readM f)) ∧ ∀ ws, rdL f ts = .inl ws → ws = wrs (ts.map (M5.readM f))
  | [] => ⟨rfl, fun ws h => by cases h; rfl⟩
  | t :: ts => by
    obtain ⟨h1, h2⟩ := rdL_items (f := f) ts
    rw [List.map_cons]
    unfold rdL
    cases e : M5.readM f t with
    | noWord => exact ⟨rfl, fun ws h => by cases h⟩
    | tooLong => exact ⟨rfl, fun ws h => by cases h⟩
    | word x =>
      simp only
      cases e2 : rdL f ts with
      | inl ws =>
        rw [e2] at h1
        refine ⟨h1, fun ws' h => ?_⟩
        have : x :: ws = ws' := Sum.inl.inj h
        rw [← this, h2 ws e2]
        rfl
      | inr b =>
        rw [e2] at h1
        refine ⟨?_, fun ws h => by cases h⟩
        show cd (.inr b) = due (ts.map (M5.readM f))
        exact h1
def spReadL (cN cT : Addr) : Sp := fun vs H Q E => ∃ (nm t : List Nat) (o : List (List Int) ⊕ Bool), vs = [.str (tx nm), .str (tx t)] ∧ Low nm ∧ t.length ≤ 100000 ∧ M8.Asc t ∧ RL (M5.baseOf nm) t o ∧
  (∀ ws, o = .inl ws → ∀ l H', Same H H' → H l = none → WordsAt H' l ws → Q (.ref l) H') ∧ (o = .inr true → ∀ H', Same H H' → E (.ref cN) none H') ∧ (o = .inr false → ∀ H', Same H H' → E (.ref cT) none H')
def spShownL : Sp := fun vs H Q _ => ∃ (nm : List Nat) (a : Addr) (ws : List (List Int)), vs = [.str (tx nm), .ref a] ∧ Low nm ∧ WordsAt H a ws ∧ ws.length ≤ 63 ∧ (∀ x ∈ ws, x.length ≤ 200 ∧ Steps nm.length x) ∧ ∀ H', Same H H' → Q (.str (tx (joinL [44, 32] (ws.map (shw nm))))) H'
def spStep : Sp := fun vs H Q _ => ∃ (nm : List Nat) (z : Int), vs = [.str (tx nm), .int z] ∧ Low nm ∧ 1 ≤ nm.length ∧ ∀ st : Int, st ≠ 0 → st.natAbs ≤ nm.length → Q (.int st) H
def Item (nm : List Nat) (Q : VK) (H : Hp) : Prop := ∀ l q t R H', Same H H' → H' l = some (.tup [.str (tx t), .str (tx (kd R)), .ref q]) → H' q = some (.tup (intV (wr R))) → ItemOk nm t R → Q (.ref l) H'
def spBad : Sp := fun vs H Q _ => ∃ (nm : List Nat) (st z : Int), vs = [.str (tx [sgn nm st]), .int z] ∧ Low nm ∧ nm.Nodup ∧ st ≠ 0 ∧ st.natAbs ≤ nm.length ∧ Item nm Q H
def spItem : Sp := fun vs H Q _ => ∃ (nm : List Nat) (z : Int), vs = [.str (tx nm), .int z] ∧ Low nm ∧ nm.Nodup ∧ 1 ≤ nm.length ∧ 0 ≤ z ∧ Item nm Q H
def spSame : Sp := fun vs H Q _ => ∃ (a b : Addr) (ws : List (List Int)), vs = [.ref a, .ref b] ∧ WordsAt H a ws ∧ WordsAt H b ws ∧ (∀ x ∈ ws, x.length ≤ 200) ∧ ∀ H', Same H H' → Q (.bl true) H'
def spLRead : Sp := fun vs H Q _ => ∃ (nm t : List Nat) (lw : Addr) (ws : List (List Int)) (o : List (List Int) ⊕ Bool), vs = [.str (tx nm), .str (tx t), .ref lw] ∧ Low nm ∧ t.length ≤ 100000 ∧ M8.Asc t ∧ RL (M5.baseOf nm) t o ∧ WordsAt H lw ws ∧ (∀ x ∈ ws, x.length ≤ 200) ∧ (∀ x, o = .inl x → x = ws) ∧
  ∀ H', Same H H' → Q (.str (tx (cd o))) H'
theorem blank_strip {t m : List Nat} {n a b : Nat} (ht : t = List.replicate n 32) (e : t = List.replicate a 32 ++ m ++ List.replicate b 32) (hb : Bare m) : m = [] := by
  refine bare_one (a := a) (b := b) (a' := n) (b' := 0) (m' := []) ?_ hb (.inl rfl)
  rw [← e, ht]
  simp
theorem asc_all {t : List Nat} (h : M8.Asc t) : t.all (· < 128) = true := List.all_eq_true.mpr fun c hc => decide_eq_true (h c hc)
theorem join_len (sep : List Nat) : ∀ ls : List (List Nat), ls.flatten.length ≤ (joinL sep ls).length ∧ (joinL sep ls).length ≤ ls.flatten.length + ls.length * sep.length
  | [] => by simp [joinL]
  | [l] => by simp [joinL]
  | l :: m :: ls => by
    obtain ⟨h1, h2⟩ := join_len sep (m :: ls)
    rw [joinL, List.flatten_cons, List.length_append, List.length_append, List.length_append]
    have e : (l :: m :: ls).length * sep.length = (m :: ls).length * sep.length + sep.length := by rw [List.length_cons (a := l), Nat.succ_mul]
    rw [e]
    omega
theorem join_count (c : Nat) : ∀ ls : List (List Nat), ls.length ≤ (joinL [c] ls).length + 1
  | [] => by simp
  | [l] => by simp [joinL]
  | l :: m :: ls => by
    have h := join_count c (m :: ls)
    rw [joinL]
    simp only [List.length_append, List.length_cons, List.length_nil] at h ⊢
    omega
theorem join_mem {c : Nat} : ∀ {ls : List (List Nat)} {l : List Nat} {x : Nat}, l ∈ ls → x ∈ l → x ∈ joinL [c] ls
  | [], _, _, h, _ => by cases h
  | [k], l, x, h, hx => by
    rw [List.mem_singleton.mp h] at hx
    exact hx
  | k :: m :: ls, l, x, h, hx => by
    rw [joinL]
    rcases List.mem_cons.mp h with e | h
    · exact List.mem_append_left _ (List.mem_append_left _ (by rw [← e]; exact hx))
    · exact List.mem_append_right _ (join_mem h hx)
theorem same_none {H H' : Hp} {p : Addr} (s : Same H H') (h : H' p = none) : H p = none := by
  cases e : H p with
  | none => rfl
  | some o => rw [s _ _ e] at h; cases h
theorem str_at {ls : List (List Nat)} {i : Nat} {v : V} (h : (strV ls)[i]? = some v) : ∃ l, ls[i]? = some l ∧ v = .str (tx l) := by
  unfold strV at h
  rw [List.getElem?_map] at h
  cases e : ls[i]? with
  | none => rw [e] at h; cases h
  | some l => rw [e] at h; exact ⟨l, rfl, (Option.some.inj h).symm⟩
theorem ok_read_list (T : Txt K mg A) : FnOk P w K mg base (CXw P w) 6 A.f_read_list A.d_read_list ["names", "text"] (spReadL A.c_NoWord A.c_TooLong) := by
  have G_read : FnOk P w K mg base (CXw P w) 5 A.f_read A.d_read ["names", "text"] (spRead A.c_NoWord A.c_TooLong) := ok_read T
  refine T.read_list.F.okX sc_read_list (fun vs H Q E h => ?_) (fun cdv AA outer s H vs Q E hr h => ?_)
  · obtain ⟨nm, t, o, rfl, _⟩ := h
    rfl
  · obtain ⟨nm, t, o, rfl, hlow, hl, hasc, hRL, k, kN, kT⟩ := h
    refine ⟨_, (pss_cons (ps_if (pt_cmpR op_eq (pe_bm PySem.F.plainAttrs_str PySem.F.slot_str_strip PySem.F.type_str_strip mt_str_strip (pv 1) (pa_cons (pe_strX (l := [32]) rfl) pa_nil)) (pe_strX (l := []) rfl) (nomark _))
        (pss_one (ps_ret (pe_lst pa_nil)))
        pss_nil)
      (pss_one (ps_ret (pe_compX (fns := ["names"]) (ixs := [0]) (cl := _) rfl (pi_list (pe_bm PySem.F.plainAttrs_str PySem.F.slot_str_split PySem.F.type_str_split mt_str_split (pv 1) (pa_cons (pe_strX (l := [44]) rfl) pa_nil))) (compScope1 rfl rfl (by decide +kernel) rfl (by decide +kernel) rfl (by decide +kernel) (by decide +kernel) rfl rfl rfl rfl) (fun C s H ex => (pe_call (G_read) (hr.mono (by decide)) rfl T.read.m T.read.F.kp T.read.b .nil passC (pa_cons (pv 1) (pa_cons (pe_bmK (K := K) rfl PySem.F.plainAttrs_str PySem.F.slot_str_strip PySem.F.type_str_strip mt_str_strip (pv 0) (pa_cons (pe_strX (l := [32]) rfl) pa_nil)) pa_nil)))))))), ?_⟩
    refine ⟨_, rfl, rfl, t, rfl, rfl, Nat.le_trans hl (by decide), fun m a b em hb => ?_⟩
    refine ⟨rfl, _, rfl, ?_⟩
    rcases hRL with ⟨n, ht, ho⟩ | ⟨ls, ms, ht, hne, hnc, ⟨c, hc, hc32⟩, hP, hrd⟩
    · have e := blank_strip ht em hb
      subst e
      refine ite2 (fun h => ?_) (fun h => absurd (decide_eq_true rfl) h)
      exact ⟨Nat.zero_le _, fun l hl => k [] ho l _ (Same.upd hl) hl ⟨[], upd_same, rfl, fun i p w h => by simp at h⟩⟩
    refine ite2 (fun h => ?_) (fun h => ?_)
    · have e : m = [] := by
        have := of_decide_eq_true h
        injection this with this
        exact tx_inj this
      subst e
      rw [em, List.append_nil] at hc
      rcases List.mem_append.mp hc with z | z <;> exact absurd (List.eq_of_mem_replicate z) hc32
    have hcnt := join_count 44 ls
    rw [← ht] at hcnt
    have hll : ls.length ≤ 100001 := by omega
    refine ⟨_, rfl, rfl, 44, ls, by rw [← ht], rfl, hne, hnc, by rw [← ht]; exact Nat.le_trans hl (by decide), Nat.le_trans hll (by decide), fun p hp => ?_⟩
    refine ⟨p, rfl, ⟨_, SqL.of upd_same⟩, ?_⟩
    have s1 : Same H (upd H p (.lst (strV ls))) := Same.upd hp
    have hp1 : upd H p (.lst (strV ls)) p = some (.lst (strV ls)) := upd_same
    generalize upd H p (.lst (strV ls)) = H1 at s1 hp1 ⊢
    obtain ⟨kk, ws, hk, hkle, hrw, hend⟩ := rdL_upto hrd
    have hpl := hP.len
    refine ⟨fun i m ys H2 => m = ls.length - i ∧ i ≤ kk ∧ Same H1 H2 ∧ ∃ ps : List Addr, ys = ps.map V.ref ∧ TupsAt H2 ps (ws.take i), ⟨ls.length, rfl, Nat.zero_le _, fun _ _ e => e, [], rfl, rfl, fun i p w h => by simp at h⟩, ?_⟩
    rintro i m2 ys H2 ⟨rfl, hi, s2, ps, rfl, hps⟩
    have hq2 : SqL K H2 p (strV ls) := SqL.of (s2 _ _ hp1)
    have hsl : (strV ls).length = ls.length := by unfold strV; rw [List.length_map]
    have hyl : (ps.map V.ref).length = i := by
      rw [List.length_map, hps.1, List.length_take]
      omega
    by_cases hlt : i < ls.length
    · refine .inr ⟨itl_go hq2 i (by omega), by rw [hyl]; exact Nat.lt_of_lt_of_le (show i < 100001 by omega) (by decide), fun x H3 y => ?_⟩
      obtain ⟨rfl, hx⟩ := itl_yld hq2 i x H3 (by omega) y
      obtain ⟨l, hli, rfl⟩ := str_at hx
      obtain ⟨m3, a3, b3, hm3, el, hb3⟩ := hP.at hli
      have hmem : ∀ z ∈ l, z ∈ t := fun z hz => by rw [ht]; exact join_mem (List.mem_of_getElem? hli) hz
      have hlen : l.length ≤ 100000 := by
        have h1 := (join_len [44] ls).1
        rw [← ht] at h1
        have h2 := (List.sublist_flatten_of_mem (List.mem_of_getElem? hli)).length_le
        omega
      refine ⟨_, rfl, _, rfl, rfl, l, rfl, rfl, Nat.le_trans hlen (by decide), fun m4 a4 b4 e4 hb4 => ?_⟩
      have e5 : m4 = m3 := bare_one (e4.symm.trans el) hb4 hb3
      subst e5
      have hm4 : ∀ z ∈ m4, z < 128 := fun z hz => hasc z (hmem z (by rw [el]; exact List.mem_append_left _ (List.mem_append_right _ hz)))
      have hml4 : m4.length ≤ 100000 := by
        rw [el, List.length_append, List.length_append] at hlen
        omega
      refine ⟨nm, m4, rfl, hlow, hml4, hm4, fun x hx q H' s' hq => ?_, fun hx H' s' => ?_, fun hx H' s' => ?_⟩
      · have hik : i < kk := by
          rcases Nat.lt_or_ge i kk with z | z
          · exact z
          · have e6 : i = kk := by omega
            rcases hend with ⟨z1, _⟩ | ⟨m5, z1, z2⟩
            · omega
            · rw [← e6, hm3] at z1
              cases z1
              rcases z2 with ⟨z2, _⟩ | ⟨z2, _⟩ <;> (rw [hx] at z2; cases z2)
        have hw : ws[i]? = some (ws[i]'(by omega)) := List.getElem?_eq_getElem (by omega)
        have e7 := hrw i m4 _ hm3 hw
        rw [hx] at e7
        have e8 : x = ws[i]'(by omega) := M5.Res.word.inj e7
        refine ⟨ls.length - (i + 1), by omega, rfl, hik, s2.trans s', ps ++ [q], by rw [List.map_append]; rfl, ?_⟩
        rw [List.take_succ, hw]
        refine (hps.same s').snoc ?_
        rw [← e8]
        exact hq
      · have hik : i = kk ∧ o = .inr true := by
          rcases Nat.lt_or_ge i kk with z | z
          · have hw : ws[i]? = some (ws[i]'(by omega)) := List.getElem?_eq_getElem (by omega)
            have e7 := hrw i m4 _ hm3 hw
            rw [hx] at e7
            cases e7
          · have e6 : i = kk := by omega
            rcases hend with ⟨z1, _⟩ | ⟨m5, z1, z2⟩
            · omega
            · rw [← e6, hm3] at z1
              cases z1
              rcases z2 with ⟨z2, z3⟩ | ⟨z2, _⟩
              · exact ⟨e6, z3⟩
              · rw [hx] at z2; cases z2
        exact kN hik.2 H' (s1.trans (s2.trans s'))
      · have hik : i = kk ∧ o = .inr false := by
          rcases Nat.lt_or_ge i kk with z | z
          · have hw : ws[i]? = some (ws[i]'(by omega)) := List.getElem?_eq_getElem (by omega)
            have e7 := hrw i m4 _ hm3 hw
            rw [hx] at e7
            cases e7
          · have e6 : i = kk := by omega
            rcases hend with ⟨z1, _⟩ | ⟨m5, z1, z2⟩
            · omega
            · rw [← e6, hm3] at z1
              cases z1
              rcases z2 with ⟨z2, _⟩ | ⟨z2, z3⟩
              · rw [hx] at z2; cases z2
              · exact ⟨e6, z3⟩
        exact kT hik.2 H' (s1.trans (s2.trans s'))
    · have hik : i = kk := by omega
      have ho : o = .inl ws := by
        rcases hend with ⟨_, z⟩ | ⟨m5, z1, _⟩
        · exact z
        · have := (List.getElem?_eq_some_iff.mp z1).1
          omega
      refine .inl ⟨by have e : (strV ls).length = i := by omega
                      rw [← e]; exact itl_stop hq2, by rw [hyl]; exact Nat.le_trans (show i ≤ 100001 by omega) (by decide), fun D hD => ?_⟩
      have s3 := s1.trans (s2.trans (Same.upd (o := .lst (ps.map V.ref)) hD))
      refine k ws ho D _ s3 (same_none (s1.trans s2) hD) ⟨ps, upd_same, ?_⟩
      have e9 : ws.take i = ws := List.take_of_length_le (by omega)
      rw [e9] at hps
      exact hps.same (Same.upd hD)
theorem shw_len2 {nm : List Nat} {ms : List Int} (hm : ms.length ≤ 200) : (shw nm ms).length ≤ 2400 := by
  unfold shw
  split
  · decide
  · unfold pcs
    have : ∀ R : List (Int × Nat), (∀ p ∈ R, p.2 ≤ 100000) → ((R.map fun p => piece nm p.1 p.2).flatten).length ≤ R.length * 12 := by
      intro R
      induction R with
      | nil => intro _; simp
      | cons p R ih =>
        intro h
        have h1 := piece_len (nm := nm) (s := p.1) (h p (List.mem_cons_self ..))
        have h2 := ih fun q hq => h q (List.mem_cons_of_mem _ hq)
        rw [List.map_cons, List.flatten_cons, List.length_append, List.length_cons, Nat.succ_mul]
        omega
    have h1 := this (M4.runs ms) fun p hp => by have := (M4.runs_mem hp).2.2; omega
    have h2 := M4.runs_len ms
    omega
theorem ok_shown_list (T : Txt K mg A) : FnOk P w K mg base (CXw P w) 3 A.f_shown_list A.d_shown_list ["names", "words"] spShownL := by
  have G_shown : FnOk P w K mg base (CXw P w) 2 A.f_shown A.d_shown ["names", "word"] spShown := ok_shown T
  refine T.shown_list.F.okN sc_shown_list (fun vs H Q E h => ?_) (fun cdv AA outer s H vs Q E hr h => ?_)
  · obtain ⟨nm, a, ws, rfl, _⟩ := h
    rfl
  · obtain ⟨nm, a, ws, rfl, hlow, hW, hwl, hws, k⟩ := h
    refine ⟨_, (pss_one (ps_ret (pe_bm PySem.F.plainAttrs_str PySem.F.slot_str_join PySem.F.type_str_join mt_joinS (pe_strX (l := [44, 32]) rfl) (pa_cons (pe_comp (fns := ["names"]) (ixs := [0]) (cl := _) rfl (pi_list (pv 1)) (compScope1 rfl rfl (by decide +kernel) rfl (by decide +kernel) rfl (by decide +kernel) (by decide +kernel) rfl rfl rfl rfl) (fun C s H ex => (pe_call (G_shown) (hr.mono (by decide)) rfl T.shown.m T.shown.F.kp T.shown.b .nil passF (pa_cons (pv 1) (pa_cons (pv 0) pa_nil))))) pa_nil)))), ?_⟩
    obtain ⟨ps, ha, hps⟩ := id hW
    refine ⟨rfl, ?_⟩
    refine ⟨_, rfl, a, rfl, ⟨_, SqL.of ha⟩, ?_⟩
    have hpl : ps.length = ws.length := hps.1
    refine ⟨fun i m ys H2 => m = ws.length - i ∧ i ≤ ws.length ∧ Same H H2 ∧ ys = strV ((ws.take i).map (shw nm)), ⟨ws.length, rfl, Nat.zero_le _, fun _ _ e => e, rfl⟩, ?_⟩
    rintro i m2 ys H2 ⟨rfl, hi, s2, rfl⟩
    have hq2 : SqL K H2 a (ps.map V.ref) := SqL.of (s2 _ _ ha)
    have hyl : (strV ((ws.take i).map (shw nm))).length = i := by
      unfold strV
      rw [List.length_map, List.length_map, List.length_take]
      omega
    by_cases hlt : i < ws.length
    · refine .inr ⟨itl_go hq2 i (by rw [List.length_map]; omega), by rw [hyl]; exact Nat.lt_of_lt_of_le (show i < 64 by omega) (by decide), fun x H3 y => ?_⟩
      obtain ⟨rfl, hx⟩ := itl_yld hq2 i x H3 (by rw [List.length_map]; omega) y
      have hp : ps[i]? = some (ps[i]'(by omega)) := List.getElem?_eq_getElem (by omega)
      have hw : ws[i]? = some (ws[i]'(by omega)) := List.getElem?_eq_getElem (by omega)
      rw [List.getElem?_map, hp] at hx
      have ex : V.ref (ps[i]'(by omega)) = x := Option.some.inj hx
      subst ex
      have hh := hws _ (List.mem_of_getElem? hw)
      refine ⟨_, rfl, _, rfl, nm, _, ws[i]'(by omega), rfl, hlow, s2 _ _ (hps.2 i _ _ hp hw), by omega, hh.2, fun H' s' => ?_⟩
      refine ⟨ws.length - (i + 1), by omega, rfl, hlt, s2.trans s', ?_⟩
      rw [List.take_succ, hw]
      unfold strV
      rw [List.map_append, List.map_append]
      rfl
    · have e : i = ws.length := by omega
      subst e
      refine .inl ⟨by have e : (ps.map V.ref).length = ws.length := by rw [List.length_map]; omega
                      rw [← e]; exact itl_stop hq2, by rw [hyl]; exact Nat.le_trans hwl (by decide), fun D hD => ?_⟩
      rw [List.take_length]
      refine ⟨D, [44, 32], ws.map (shw nm), rfl, rfl, SqL.of upd_same, ?_, k _ (s2.trans (Same.upd hD))⟩
      have hfl : ((ws.map (shw nm)).flatten).length ≤ ws.length * 2400 := by
        have : ∀ l : List (List Int), (∀ x ∈ l, x.length ≤ 200 ∧ Steps nm.length x) → ((l.map (shw nm)).flatten).length ≤ l.length * 2400 := by
          intro l
          induction l with
          | nil => intro _; simp
          | cons x l ih =>
            intro hl
            have h1 := shw_len2 (nm := nm) (hl x (List.mem_cons_self ..)).1
            have h2 := ih fun y hy => hl y (List.mem_cons_of_mem _ hy)
            rw [List.map_cons, List.flatten_cons, List.length_append, List.length_cons, Nat.succ_mul]
            omega
        exact this ws hws
      rw [List.length_map]
      show _ + ws.length * 2 ≤ 1000000
      omega
theorem ok_nil {nm : List Nat} : ItemOk nm [] .noWord := ⟨read_nil, .inl rfl, by simp, by simp, (fun c hc => by cases hc), fun x h => by cases h⟩
theorem ItemOk.of_cl {nm t : List Nat} {R : M5.Res} (h : M5.readM (M5.baseOf nm) t = R) (hc : Cl t) (hl : t.length ≤ 100) (hw : ∀ x, R = .word x → x.length ≤ 20 ∧ Steps nm.length x) : ItemOk nm t R :=
  ⟨h, hc.bare, fun z => (hc 44 z).2.1 rfl, hl, hc.asc, hw⟩
theorem ok_one {nm : List Nat} (hlow : Low nm) (hnd : nm.Nodup) : ItemOk nm [49] (.word []) :=
  .of_cl (read_one hlow hnd) (Cl.cons (by decide) cl_nil) (by decide) fun x h => by cases h; exact ⟨by decide, fun s hs => by cases hs⟩
section
variable {nm : List Nat} {a b : Int} (hlow : Low nm) (hnd : nm.Nodup) (h0 : a ≠ 0) (hle : a.natAbs ≤ nm.length) (g0 : b ≠ 0) (gle : b.natAbs ≤ nm.length)
include hlow hnd h0 hle
theorem ok_blank : ItemOk nm ([sgn nm a] ++ [32] ++ [sgn nm a]) .noWord := by
  have hs := cl_sgn hlow h0 hle
  refine ⟨read_blank hlow hnd h0 hle, .inr ⟨fun z => ?_, fun z => ?_⟩, fun z => ?_, by show 3 ≤ 100; decide, fun c hc => ?_, fun x h => by cases h⟩
  · exact hs.1 (by simpa using z)
  · exact hs.1 (by simpa using z)
  · have : (44 : Nat) = sgn nm a := by simpa using z
    exact hs.2.1 this.symm
  · have : c = sgn nm a ∨ c = 32 := by
      have : c = sgn nm a ∨ c = 32 ∨ c = sgn nm a := by simpa using hc
      omega
    rcases this with e | e
    · rw [e]; exact hs.2.2
    · rw [e]; decide
theorem ok_long : ItemOk nm ([sgn nm a] ++ [94, 50, 48, 49]) .tooLong := by
  have hs := cl_sgn hlow h0 hle
  exact .of_cl (read_long hlow hnd h0 hle) (Cl.cons hs (fun c hc => (by decide : ∀ c ∈ [94, 50, 48, 49], c ≠ 32 ∧ c ≠ 44 ∧ c < 128) c hc)) (by show 5 ≤ 100; decide) fun x h => by cases h
theorem ok_long2 : ItemOk nm ([40] ++ [sgn nm a] ++ [94, 49, 53, 48] ++ [sgn nm a] ++ [94, 53, 49, 41, 94, 48]) .tooLong := by
  have hs := cl_sgn hlow h0 hle
  refine .of_cl (read_long2 hlow hnd h0 hle) ?_ (by show 13 ≤ 100; decide) fun x h => by cases h
  have cs : Cl [sgn nm a] := Cl.cons hs cl_nil
  have c1 : Cl [40] := by intro c hc; exact (by decide : ∀ c ∈ [40], c ≠ 32 ∧ c ≠ 44 ∧ c < 128) c hc
  have c2 : Cl [94, 49, 53, 48] := by intro c hc; exact (by decide : ∀ c ∈ [94, 49, 53, 48], c ≠ 32 ∧ c ≠ 44 ∧ c < 128) c hc
  have c3 : Cl [94, 53, 49, 41, 94, 48] := by intro c hc; exact (by decide : ∀ c ∈ [94, 53, 49, 41, 94, 48], c ≠ 32 ∧ c ≠ 44 ∧ c < 128) c hc
  exact (((c1.app cs).app c2).app cs).app c3
theorem ok_sign : ItemOk nm [sgn nm a] (.word [a]) :=
  .of_cl (read_sign hlow hnd h0 hle) (Cl.cons (cl_sgn hlow h0 hle) cl_nil) (by show 1 ≤ 100; decide) fun x h => by
    cases h
    exact ⟨by show 1 ≤ 20; decide, fun s hs => by rw [List.mem_singleton.mp hs]; exact ⟨h0, hle⟩⟩
theorem ok_pow {n : Nat} (hn : n ≤ 20) : ItemOk nm ([sgn nm a] ++ [94] ++ digs (n : Int)) (.word (List.replicate n a)) := by
  have hd := digs_len (n := (n : Int)) (by omega) (by omega)
  refine .of_cl (read_pow hlow hnd h0 hle (by omega)) (((Cl.cons (cl_sgn hlow h0 hle) cl_nil).app (Cl.cons (by decide) cl_nil)).app (cl_digs n)) ?_ fun x h => ?_
  · rw [List.length_append]
    show 2 + _ ≤ 100
    omega
  · cases h
    exact ⟨by rw [List.length_replicate]; omega, fun s hs => by rw [List.eq_of_mem_replicate hs]; exact ⟨h0, hle⟩⟩
include g0 gle
theorem ok_pair {n : Nat} (hn : n ≤ 9) : ItemOk nm (([40] ++ [sgn nm a] ++ [sgn nm b] ++ [41, 94]) ++ digs (n : Int)) (.word (List.replicate n [a, b]).flatten) := by
  have hd := digs_len (n := (n : Int)) (by omega) (by omega)
  have r := read_pair hlow hnd h0 hle g0 gle (tail_digs (show n < 1000 by omega)) (by omega)
  have e : M5.raiseW [a, b] (n : Int) = (List.replicate n [a, b]).flatten := by
    unfold M5.raiseW
    rw [if_neg (by omega), Int.toNat_natCast]
  rw [e] at r
  have cs : Cl [sgn nm a] := Cl.cons (cl_sgn hlow h0 hle) cl_nil
  have cs2 : Cl [sgn nm b] := Cl.cons (cl_sgn hlow g0 gle) cl_nil
  have c1 : Cl [40] := Cl.cons (by decide) cl_nil
  have c2 : Cl [41, 94] := Cl.cons (by decide) (Cl.cons (by decide) cl_nil)
  refine .of_cl r ((((c1.app cs).app cs2).app c2).app (cl_digs n)) ?_ fun x h => ?_
  · rw [List.length_append]
    show 5 + _ ≤ 100
    omega
  · cases h
    refine ⟨?_, fun s hs => ?_⟩
    · have := M5.raise_len [a, b] (n : Int)
      rw [e] at this
      rw [this]
      show 2 * _ ≤ 20
      omega
    · obtain ⟨l, hl, hs⟩ := List.mem_flatten.mp hs
      rw [List.eq_of_mem_replicate hl] at hs
      have : s = a ∨ s = b := by simpa using hs
      rcases this with rfl | rfl
      · exact ⟨h0, hle⟩
      · exact ⟨g0, gle⟩
theorem ok_pairN {n : Nat} (hn : n ≤ 9) : ItemOk nm (([40] ++ [sgn nm a] ++ [sgn nm b] ++ [41, 94]) ++ [45] ++ digs (n : Int)) (.word (List.replicate n [0 - b, 0 - a]).flatten) := by
  have hd := digs_len (n := (n : Int)) (by omega) (by omega)
  have ho := digs_ok n (by omega)
  have t := M5.Tail.neg ho.1 ho.2.1
  rw [ho.2.2] at t
  have r := read_pair hlow hnd h0 hle g0 gle t (by omega)
  have e : M5.raiseW [a, b] (-(n : Int)) = (List.replicate n [0 - b, 0 - a]).flatten := by
    unfold M5.raiseW
    rw [Int.zero_sub, Int.zero_sub]
    by_cases hz : n = 0
    · subst hz; rfl
    · rw [if_pos (by omega), Int.neg_neg, Int.toNat_natCast]
      rfl
  rw [e] at r
  have cs : Cl [sgn nm a] := Cl.cons (cl_sgn hlow h0 hle) cl_nil
  have cs2 : Cl [sgn nm b] := Cl.cons (cl_sgn hlow g0 gle) cl_nil
  have c1 : Cl [40] := Cl.cons (by decide) cl_nil
  have c2 : Cl [41, 94] := Cl.cons (by decide) (Cl.cons (by decide) cl_nil)
  have c3 : Cl [45] := Cl.cons (by decide) cl_nil
  have et : (([40] ++ [sgn nm a] ++ [sgn nm b] ++ [41, 94]) ++ [45] ++ digs (n : Int)) = 40 :: (([sgn nm a] ++ [sgn nm b]) ++ 41 :: (94 :: 45 :: digs (n : Int))) := by simp
  rw [← et] at r
  refine .of_cl r (((((c1.app cs).app cs2).app c2).app c3).app (cl_digs n)) ?_ fun x h => ?_
  · rw [List.length_append]
    show 6 + _ ≤ 100
    omega
  · cases h
    refine ⟨?_, fun s hs => ?_⟩
    · have := M5.raise_len [a, b] (-(n : Int))
      rw [e] at this
      rw [this]
      show 2 * _ ≤ 20
      omega
    · obtain ⟨l, hl, hs⟩ := List.mem_flatten.mp hs
      rw [List.eq_of_mem_replicate hl] at hs
      have : s = 0 - b ∨ s = 0 - a := by simpa using hs
      rcases this with rfl | rfl
      · exact ⟨by omega, by omega⟩
      · exact ⟨by omega, by omega⟩
end
theorem item_fin {nm : List Nat} {Q : VK} {H : Hp} (k : Item nm Q H) {H1 : Hp} (s : Same H H1) {t : List Nat} {R : M5.Res} {q : Addr} (hq : H1 q = some (.tup (intV (wr R)))) (ok : ItemOk nm t R) :
    3 ≤ sizeLine ∧ ∀ l, H1 l = none → Q (.ref l) (upd H1 l (.tup [.str (tx t), .str (tx (kd R)), .ref q])) :=
  ⟨by decide, fun l hl => k l q t R _ (s.trans (Same.upd hl)) upd_same (Same.upd hl _ _ hq) ok⟩
theorem ok__law_step (T : Txt K mg A) : FnOk P w K mg base (CXw P w) 1 A.f__law_step A.d__law_step ["_law_names_here", "_law_number"] spStep := by
  refine T._law_step.F.okN sc__law_step (fun vs H Q E h => ?_) (fun cdv AA outer s H vs Q E hr h => ?_)
  · obtain ⟨nm, z, rfl, _⟩ := h
    rfl
  · obtain ⟨nm, z, rfl, hlow, hn1, k⟩ := h
    refine ⟨_, (pss_cons (ps_if (pt_cmpR op_eq (pe_op op_mod (pe_op op_fdiv (pv 1) pe_int) pe_int) pe_int (nomark _))
        (pss_one (ps_ret (pe_op op_add pe_int (pe_op op_mod (pv 1) (pe_callB call_lenX rfl T.z_len PySem.boot_len (pa_cons (pv 0) pa_nil))))))
        pss_nil)
      (pss_one (ps_ret (pe_op op_sub (pe_op op_sub pe_int pe_int) (pe_op op_mod (pv 1) (pe_callB call_lenX rfl T.z_len PySem.boot_len (pa_cons (pv 0) pa_nil))))))), ?_⟩
    have e1 := Int.emod_nonneg z (show (nm.length : Int) ≠ 0 by omega)
    have e2 := Int.emod_lt_of_pos z (show (0 : Int) < (nm.length : Int) by omega)
    refine ⟨_, rfl, _, _, rfl, rfl, ⟨by decide, by decide⟩, _, _, rfl, rfl, (by show (0 : Int) < 2; decide), rfl, _, rfl, ?_⟩
    refine ite2 (fun _ => ?_) (fun _ => ?_)
    · exact ⟨_, rfl, _, rfl, nm, rfl, hlow.sz, _, _, rfl, rfl, (by show (0 : Int) < (nm.length : Int); omega), _, _, rfl, rfl, k _ (by omega) (by omega)⟩
    · exact ⟨_, _, rfl, rfl, _, rfl, _, rfl, nm, rfl, hlow.sz, _, _, rfl, rfl, (by show (0 : Int) < (nm.length : Int); omega), _, _, rfl, rfl, k _ (by omega) (by omega)⟩
theorem ok__law_bad (T : Txt K mg A) : FnOk P w K mg base (CXw P w) 1 A.f__law_bad A.d__law_bad ["_law_sign_here", "_law_way"] spBad := by
  refine T._law_bad.F.okN sc__law_bad (fun vs H Q E h => ?_) (fun cdv AA outer s H vs Q E hr h => ?_)
  · obtain ⟨nm, st, z, rfl, _⟩ := h
    rfl
  · obtain ⟨nm, st, z, rfl, hlow, hnd, h0, hle, k⟩ := h
    refine ⟨_, (pss_cons (ps_if (pt_cmpR op_eq (pv 1) pe_int (nomark _))
        (pss_one (ps_ret (pe_tup (pa_cons (pe_strX (l := []) rfl) (pa_cons (pe_strX (l := [110, 111]) rfl) (pa_cons (pe_tup pa_nil) pa_nil))))))
        pss_nil)
      (pss_cons (ps_if (pt_cmpR op_eq (pv 1) pe_int (nomark _))
        (pss_one (ps_ret (pe_tup (pa_cons (pe_op op_addX (pe_op op_addX (pv 0) (pe_strX (l := [32]) rfl)) (pv 0)) (pa_cons (pe_strX (l := [110, 111]) rfl) (pa_cons (pe_tup pa_nil) pa_nil))))))
        pss_nil)
      (pss_cons (ps_if (pt_cmpR op_eq (pv 1) pe_int (nomark _))
        (pss_one (ps_ret (pe_tup (pa_cons (pe_op op_addX (pv 0) (pe_strX (l := [94, 50, 48, 49]) rfl)) (pa_cons (pe_strX (l := [108, 111, 110, 103]) rfl) (pa_cons (pe_tup pa_nil) pa_nil))))))
        pss_nil)
      (pss_one (ps_ret (pe_tup (pa_cons (pe_op op_addX (pe_op op_addX (pe_op op_addX (pe_op op_addX (pe_strX (l := [40]) rfl) (pv 0)) (pe_strX (l := [94, 49, 53, 48]) rfl)) (pv 0)) (pe_strX (l := [94, 53, 49, 41, 94, 48]) rfl)) (pa_cons (pe_strX (l := [108, 111, 110, 103]) rfl) (pa_cons (pe_tup pa_nil) pa_nil))))))))), ?_⟩
    refine ⟨_, rfl, rfl, _, rfl, ?_⟩
    refine ite2 (fun _ => ?_) (fun _ => ?_)
    · refine ⟨Nat.zero_le _, fun q hq => ?_⟩
      exact item_fin (R := .noWord) (t := []) k (Same.upd hq) upd_same ok_nil
    refine ⟨_, rfl, rfl, _, rfl, ?_⟩
    refine ite2 (fun _ => ?_) (fun _ => ?_)
    · refine ⟨_, rfl, _, _, rfl, rfl, by show 1 + 1 ≤ sizeLine; decide, _, rfl, _, _, rfl, rfl, by show 2 + 1 ≤ sizeLine; decide, Nat.zero_le _, fun q hq => ?_⟩
      exact item_fin (R := .noWord) k (Same.upd hq) upd_same (ok_blank hlow hnd h0 hle)
    refine ⟨_, rfl, rfl, _, rfl, ?_⟩
    refine ite2 (fun _ => ?_) (fun _ => ?_)
    · refine ⟨_, rfl, _, _, rfl, rfl, by show 1 + 4 ≤ sizeLine; decide, Nat.zero_le _, fun q hq => ?_⟩
      exact item_fin (R := .tooLong) k (Same.upd hq) upd_same (ok_long hlow hnd h0 hle)
    · refine ⟨_, rfl, _, _, rfl, rfl, by show 1 + 1 ≤ sizeLine; decide, _, _, rfl, rfl, by show 2 + 4 ≤ sizeLine; decide, _, rfl, _, _, rfl, rfl, by show 6 + 1 ≤ sizeLine; decide, _, _, rfl, rfl, by show 7 + 6 ≤ sizeLine; decide, Nat.zero_le _, fun q hq => ?_⟩
      exact item_fin (R := .tooLong) k (Same.upd hq) upd_same (ok_long2 hlow hnd h0 hle)
theorem ok__law_item (T : Txt K mg A) : FnOk P w K mg base (CXw P w) 2 A.f__law_item A.d__law_item ["_law_names_here", "_law_number"] spItem := by
  have G__law_step : FnOk P w K mg base (CXw P w) 1 A.f__law_step A.d__law_step ["_law_names_here", "_law_number"] spStep := ok__law_step T
  have G__law_bad : FnOk P w K mg base (CXw P w) 1 A.f__law_bad A.d__law_bad ["_law_sign_here", "_law_way"] spBad := ok__law_bad T
  have G__law_sign : FnOk P w K mg base (CXw P w) 1 A.f__law_sign A.d__law_sign ["_law_names_here", "_law_step_here"] spSign := ok__law_sign T
  refine T._law_item.F.okN sc__law_item (fun vs H Q E h => ?_) (fun cdv AA outer s H vs Q E hr h => ?_)
  · obtain ⟨nm, z, rfl, _⟩ := h
    rfl
  · obtain ⟨nm, z, rfl, hlow, hnd, hn1, hz, k⟩ := h
    refine ⟨_, (pss_cons (ps_set (i := 2) sc__law_item.nd rfl (Or.inl rfl) (pe_call (G__law_step) (hr.mono (by decide)) rfl T._law_step.m T._law_step.F.kp T._law_step.b .nil passF (pa_cons (pv 0) (pa_cons (pv 1) pa_nil))))
      (pss_cons (ps_set (i := 3) sc__law_item.nd rfl (Or.inl rfl) (pe_call (G__law_step) (hr.mono (by decide)) rfl T._law_step.m T._law_step.F.kp T._law_step.b .nil passF (pa_cons (pv 0) (pa_cons (pe_op op_fdiv (pv 1) pe_int) pa_nil))))
      (pss_cons (ps_set (i := 1) sc__law_item.nd rfl (Or.inl rfl) (pe_op op_fdiv (pv 1) pe_int))
      (pss_cons (ps_set (i := 4) sc__law_item.nd rfl (Or.inl rfl) (pe_op op_mod (pe_op op_fdiv (pv 1) pe_int) pe_int))
      (pss_cons (ps_if (pt_cmpR op_eq (pe_op op_mod (pv 1) pe_int) pe_int (nomark _))
        (pss_one (ps_ret (pe_call (G__law_bad) (hr.mono (by decide)) rfl T._law_bad.m T._law_bad.F.kp T._law_bad.b .nil passF (pa_cons (pe_call (G__law_sign) (hr.mono (by decide)) rfl T._law_sign.m T._law_sign.F.kp T._law_sign.b .nil passF (pa_cons (pv 0) (pa_cons (pv 2) pa_nil))) (pa_cons (pe_op op_mod (pe_op op_fdiv (pv 1) pe_int) pe_int) pa_nil)))))
        pss_nil)
      (pss_cons (ps_if (pt_cmpR op_lt (pe_op op_mod (pv 1) pe_int) pe_int (nomark _))
        (pss_one (ps_ret (pe_tup (pa_cons (pe_strX (l := [49]) rfl) (pa_cons (pe_strX (l := [119, 111, 114, 100]) rfl) (pa_cons (pe_tup pa_nil) pa_nil))))))
        pss_nil)
      (pss_cons (ps_if (pt_cmpR op_lt (pe_op op_mod (pv 1) pe_int) pe_int (nomark _))
        (pss_one (ps_ret (pe_tup (pa_cons (pe_op op_addX (pe_op op_addX (pe_call (G__law_sign) (hr.mono (by decide)) rfl T._law_sign.m T._law_sign.F.kp T._law_sign.b .nil passF (pa_cons (pv 0) (pa_cons (pv 2) pa_nil))) (pe_strX (l := [94]) rfl)) (pe_callTy call_strX rfl T.z_str PyProof.Rows.boot_str (pa_cons (pv 4) pa_nil))) (pa_cons (pe_strX (l := [119, 111, 114, 100]) rfl) (pa_cons (pe_op op_repT (pe_tup (pa_cons (pv 2) pa_nil)) (pv 4)) pa_nil))))))
        pss_nil)
      (pss_cons (ps_if (pt_cmpR op_lt (pe_op op_mod (pv 1) pe_int) pe_int (nomark _))
        (pss_cons (ps_set (i := 5) sc__law_item.nd rfl (Or.inl rfl) (pe_op op_addX (pe_op op_addX (pe_op op_addX (pe_strX (l := [40]) rfl) (pe_call (G__law_sign) (hr.mono (by decide)) rfl T._law_sign.m T._law_sign.F.kp T._law_sign.b .nil passF (pa_cons (pv 0) (pa_cons (pv 2) pa_nil)))) (pe_call (G__law_sign) (hr.mono (by decide)) rfl T._law_sign.m T._law_sign.F.kp T._law_sign.b .nil passF (pa_cons (pv 0) (pa_cons (pv 3) pa_nil)))) (pe_strX (l := [41, 94]) rfl)))
        (pss_cons (ps_if (pt_cmpR op_eq (pe_op op_mod (pe_op op_fdiv (pv 1) pe_int) pe_int) pe_int (nomark _))
          (pss_one (ps_ret (pe_tup (pa_cons (pe_op op_addX (pv 5) (pe_callTy call_strX rfl T.z_str PyProof.Rows.boot_str (pa_cons (pe_op op_mod (pv 4) pe_int) pa_nil))) (pa_cons (pe_strX (l := [119, 111, 114, 100]) rfl) (pa_cons (pe_op op_repT (pe_tup (pa_cons (pv 2) (pa_cons (pv 3) pa_nil))) (pe_op op_mod (pv 4) pe_int)) pa_nil))))))
          pss_nil)
        (pss_one (ps_ret (pe_tup (pa_cons (pe_op op_addX (pe_op op_addX (pv 5) (pe_strX (l := [45]) rfl)) (pe_callTy call_strX rfl T.z_str PyProof.Rows.boot_str (pa_cons (pe_op op_mod (pv 4) pe_int) pa_nil))) (pa_cons (pe_strX (l := [119, 111, 114, 100]) rfl) (pa_cons (pe_op op_repT (pe_tup (pa_cons (pe_op op_sub pe_int (pv 3)) (pa_cons (pe_op op_sub pe_int (pv 2)) pa_nil))) (pe_op op_mod (pv 4) pe_int)) pa_nil))))))))
        pss_nil)
      (pss_one (ps_ret (pe_tup (pa_cons (pe_call (G__law_sign) (hr.mono (by decide)) rfl T._law_sign.m T._law_sign.F.kp T._law_sign.b .nil passF (pa_cons (pv 0) (pa_cons (pv 2) pa_nil))) (pa_cons (pe_strX (l := [119, 111, 114, 100]) rfl) (pa_cons (pe_tup (pa_cons (pv 2) pa_nil)) pa_nil)))))))))))))), ?_⟩
    refine ⟨_, rfl, _, rfl, nm, z, rfl, hlow, hn1, fun a h0 hle => ?_⟩
    refine ⟨_, rfl, _, rfl, _, _, rfl, rfl, ⟨by decide, by decide⟩, nm, z / 52, rfl, hlow, hn1, fun b g0 gle => ?_⟩
    refine ⟨_, rfl, _, _, rfl, rfl, ⟨by decide, by decide⟩, ?_⟩
    refine ⟨_, rfl, _, _, rfl, rfl, ⟨by decide, by decide⟩, _, _, rfl, rfl, (by show (0 : Int) < 21; decide), ?_⟩
    have hm1 := Int.emod_nonneg (z / 2704 / 32) (show (21 : Int) ≠ 0 by decide)
    have hm2 := Int.emod_lt_of_pos (z / 2704 / 32) (show (0 : Int) < 21 by decide)
    obtain ⟨n, en⟩ : ∃ n : Nat, z / 2704 / 32 % 21 = (n : Int) := ⟨(z / 2704 / 32 % 21).toNat, by omega⟩
    have hp1 := Int.emod_nonneg (z / 2704 / 32 % 21) (show (10 : Int) ≠ 0 by decide)
    have hp2 := Int.emod_lt_of_pos (z / 2704 / 32 % 21) (show (0 : Int) < 10 by decide)
    obtain ⟨n2, en2⟩ : ∃ n : Nat, z / 2704 / 32 % 21 % 10 = (n : Int) := ⟨(z / 2704 / 32 % 21 % 10).toNat, by omega⟩
    refine ⟨_, rfl, _, _, rfl, rfl, (by show (0 : Int) < 32; decide), rfl, _, rfl, ?_⟩
    refine ite2 (fun _ => ?_) (fun _ => ?_)
    · refine ⟨_, rfl, _, rfl, nm, a, rfl, hlow, h0, hle, ?_⟩
      refine ⟨_, rfl, _, _, rfl, rfl, ⟨by decide, by decide⟩, _, _, rfl, rfl, (by show (0 : Int) < 4; decide), ?_⟩
      exact ⟨nm, a, _, rfl, hlow, hnd, h0, hle, k⟩
    refine ⟨_, rfl, _, _, rfl, rfl, (by show (0 : Int) < 32; decide), _, _, rfl, rfl, _, rfl, ?_⟩
    refine ite2 (fun _ => ?_) (fun _ => ?_)
    · refine ⟨Nat.zero_le _, fun q hq => ?_⟩
      exact item_fin (R := .word []) k (Same.upd hq) upd_same (ok_one hlow hnd)
    refine ⟨_, rfl, _, _, rfl, rfl, (by show (0 : Int) < 32; decide), _, _, rfl, rfl, _, rfl, ?_⟩
    refine ite2 (fun _ => ?_) (fun _ => ?_)
    · have hd := digs_len (n := (n : Int)) (by omega) (by omega)
      have okp : ItemOk nm ([sgn nm a] ++ [94] ++ digs (z / 2704 / 32 % 21)) (.word (List.replicate n a)) := by rw [en]; exact ok_pow hlow hnd h0 hle (by omega)
      refine ⟨_, rfl, _, rfl, nm, a, rfl, hlow, h0, hle, _, _, rfl, rfl, by show 1 + 1 ≤ sizeLine; decide, _, rfl, _, rfl, (by show (z / 2704 / 32 % 21).natAbs < _; omega), _, _, rfl, rfl, ?_, ?_⟩
      · rw [en]
        exact Nat.le_trans (show 2 + (digs (n : Int)).length ≤ 100 by omega) (by decide)
      refine ⟨_, rfl, by show 1 ≤ sizeLine; decide, fun q hq => ?_⟩
      refine ⟨_, rfl, q, _, [.int a], rfl, rfl, upd_same, (by show -(2 ^ 63) ≤ z / 2704 / 32 % 21; omega), (by show z / 2704 / 32 % 21 < 2 ^ 63; omega), ?_, fun p H' s' hp => ?_⟩
      · rw [show (z / 2704 / 32 % 21) = (n : Int) from en]
        exact Nat.le_trans (show 1 * n ≤ 100 by omega) (by decide)
      · have hq2 : H' p = some (.tup (intV (wr (.word (List.replicate n a))))) := by
          rw [hp]
          show some (HO.tup (List.replicate (z / 2704 / 32 % 21).toNat [V.int a]).flatten) = _
          rw [en, Int.toNat_natCast]
          congr 2
          show (List.replicate n (intV [a])).flatten = _
          rw [rep_ints]
          congr 1
          exact (raise_one a n ▸ by unfold M5.raiseW; rw [if_neg (by omega), Int.toNat_natCast] : (List.replicate n [a]).flatten = List.replicate n a)
        exact item_fin k ((Same.upd hq).trans s') hq2 okp
    refine ⟨_, rfl, _, _, rfl, rfl, (by show (0 : Int) < 32; decide), _, _, rfl, rfl, _, rfl, ?_⟩
    refine ite2 (fun _ => ?_) (fun _ => ?_)
    · have hd := digs_len (n := (n2 : Int)) (by omega) (by omega)
      refine ⟨_, rfl, _, rfl, nm, a, rfl, hlow, h0, hle, _, _, rfl, rfl, by show 1 + 1 ≤ sizeLine; decide, _, rfl, _, rfl, nm, b, rfl, hlow, g0, gle, _, _, rfl, rfl, by show 2 + 1 ≤ sizeLine; decide, _, _, rfl, rfl, by show 3 + 2 ≤ sizeLine; decide, ?_⟩
      refine ⟨_, rfl, _, _, rfl, rfl, ⟨by decide, by decide⟩, _, _, rfl, rfl, (by show (0 : Int) < 2; decide), rfl, _, rfl, ?_⟩
      refine ite2 (fun _ => ?_) (fun _ => ?_)
      · have okp : ItemOk nm (([40] ++ [sgn nm a] ++ [sgn nm b] ++ [41, 94]) ++ digs (z / 2704 / 32 % 21 % 10)) (.word (List.replicate n2 [a, b]).flatten) := by rw [en2]; exact ok_pair hlow hnd h0 hle g0 gle (by omega)
        refine ⟨_, rfl, _, rfl, _, _, rfl, rfl, (by show (0 : Int) < 10; decide), _, rfl, (by show (z / 2704 / 32 % 21 % 10).natAbs < _; omega), _, _, rfl, rfl, ?_, ?_⟩
        · rw [en2]
          exact Nat.le_trans (show 5 + (digs (n2 : Int)).length ≤ 100 by omega) (by decide)
        refine ⟨_, rfl, _, rfl, by show 2 ≤ sizeLine; decide, fun q hq => ?_⟩
        refine ⟨_, rfl, _, _, rfl, rfl, (by show (0 : Int) < 10; decide), q, _, [.int a, .int b], rfl, rfl, upd_same, (by show -(2 ^ 63) ≤ z / 2704 / 32 % 21 % 10; omega), (by show z / 2704 / 32 % 21 % 10 < 2 ^ 63; omega), ?_, fun p H' s' hp => ?_⟩
        · rw [show (z / 2704 / 32 % 21 % 10) = (n2 : Int) from en2]
          exact Nat.le_trans (show 2 * n2 ≤ 100 by omega) (by decide)
        · have hq2 : H' p = some (.tup (intV (wr (.word (List.replicate n2 [a, b]).flatten)))) := by
            rw [hp]
            show some (HO.tup (List.replicate (z / 2704 / 32 % 21 % 10).toNat [V.int a, V.int b]).flatten) = _
            rw [en2, Int.toNat_natCast]
            congr 2
            exact rep_ints [a, b] n2
          exact item_fin k ((Same.upd hq).trans s') hq2 okp
      · have okp : ItemOk nm (([40] ++ [sgn nm a] ++ [sgn nm b] ++ [41, 94]) ++ [45] ++ digs (z / 2704 / 32 % 21 % 10)) (.word (List.replicate n2 [0 - b, 0 - a]).flatten) := by rw [en2]; exact ok_pairN hlow hnd h0 hle g0 gle (by omega)
        refine ⟨_, rfl, _, _, rfl, rfl, by show 5 + 1 ≤ sizeLine; decide, _, rfl, _, _, rfl, rfl, (by show (0 : Int) < 10; decide), _, rfl, (by show (z / 2704 / 32 % 21 % 10).natAbs < _; omega), _, _, rfl, rfl, ?_, ?_⟩
        · rw [en2]
          exact Nat.le_trans (show 6 + (digs (n2 : Int)).length ≤ 100 by omega) (by decide)
        refine ⟨_, rfl, _, _, rfl, rfl, _, rfl, _, _, rfl, rfl, by show 2 ≤ sizeLine; decide, fun q hq => ?_⟩
        refine ⟨_, rfl, _, _, rfl, rfl, (by show (0 : Int) < 10; decide), q, _, [.int (0 - b), .int (0 - a)], rfl, rfl, upd_same, (by show -(2 ^ 63) ≤ z / 2704 / 32 % 21 % 10; omega), (by show z / 2704 / 32 % 21 % 10 < 2 ^ 63; omega), ?_, fun p H' s' hp => ?_⟩
        · rw [show (z / 2704 / 32 % 21 % 10) = (n2 : Int) from en2]
          exact Nat.le_trans (show 2 * n2 ≤ 100 by omega) (by decide)
        · have hq2 : H' p = some (.tup (intV (wr (.word (List.replicate n2 [0 - b, 0 - a]).flatten)))) := by
            rw [hp]
            show some (HO.tup (List.replicate (z / 2704 / 32 % 21 % 10).toNat [V.int (0 - b), V.int (0 - a)]).flatten) = _
            rw [en2, Int.toNat_natCast]
            congr 2
            exact rep_ints [0 - b, 0 - a] n2
          exact item_fin k ((Same.upd hq).trans s') hq2 okp
    · refine ⟨_, rfl, _, rfl, nm, a, rfl, hlow, h0, hle, ?_⟩
      refine ⟨_, rfl, by show 1 ≤ sizeLine; decide, fun q hq => ?_⟩
      exact item_fin (R := .word [a]) k (Same.upd hq) upd_same (ok_sign hlow hnd h0 hle)
theorem ok__law_same (T : Txt K mg A) : FnOk P w K mg base (CXw P w) 1 A.f__law_same A.d__law_same ["_law_found", "_law_words"] spSame := by
  refine T._law_same.F.okN sc__law_same (fun vs H Q E h => ?_) (fun cdv AA outer s H vs Q E hr h => ?_)
  · obtain ⟨a, b, X, rfl, _⟩ := h
    rfl
  · obtain ⟨a, b, X, rfl, hA, hB, hlen, k⟩ := h
    have hu := Nat.lt_of_succ_lt (hu_of hr)
    refine ⟨_, (pss_cons (ps_cut (ps_if (PW.pt (pw_or (pt_not (pt_val (pe_callB call_isi rfl T.z_isinstance PyProof.Rows.boot_isinstance (pa_cons (pv 0) (pa_cons (pe_bltn (v := .ty "list") rfl T.z_list PyProof.Rows.boot_list rfl) pa_nil))))) (pw_or1 (pt_cmpR op_ne (pe_callB call_len_seq rfl T.z_len PySem.boot_len (pa_cons (pv 0) pa_nil)) (pe_callB call_len_seq rfl T.z_len PySem.boot_len (pa_cons (pv 1) pa_nil)) (nomark _)))))
        (pss_one (ps_ret pe_bl))
        pss_nil))
      (pss_cons (ps_for PassesOwn.never rfl (pi_zip rfl T.z_zip (pa_cons (pv 0) (pa_cons (pv 1) pa_nil))) (pg_tup rfl (pgs_cons (pg_name (i := 2) sc__law_same.nd rfl (Or.inl rfl)) (pgs_cons (pg_name (i := 3) sc__law_same.nd rfl (Or.inl rfl)) pgs_nil)))
        (pss_cons (ps_cut (ps_if (PW.pt (pw_or (pt_not (pt_val (pe_callB call_isi rfl T.z_isinstance PyProof.Rows.boot_isinstance (pa_cons (pv 2) (pa_cons (pe_bltn (v := .ty "tuple") rfl T.z_tuple PyProof.Rows.boot_tuple rfl) pa_nil))))) (pw_or1 (pt_cmpR (op_neTI hu) (pv 2) (pv 3) (nomark _)))))
          (pss_one (ps_ret pe_bl))
          pss_nil))
        (pss_one (ps_for PassesOwn.never rfl (pi_tup (pv 2)) (pg_name (i := 4) sc__law_same.nd rfl (Or.inl rfl))
          (pss_one (ps_cut (ps_if (PW.pt (pw_or (pt_not (pt_val (pe_callB call_isi rfl T.z_isinstance PyProof.Rows.boot_isinstance (pa_cons (pv 4) (pa_cons (pe_bltn (v := .ty "int") rfl T.z_int PyProof.Rows.boot_int rfl) pa_nil))))) (pw_or1 (pt_val (pe_callB call_isi rfl T.z_isinstance PyProof.Rows.boot_isinstance (pa_cons (pv 4) (pa_cons (pe_bltn (v := .ty "bool") rfl T.z_bool PyProof.Rows.boot_bool rfl) pa_nil)))))))
            (pss_one (ps_ret pe_bl))
            pss_nil)))))))
      (pss_one (ps_ret pe_bl)))), ?_⟩
    obtain ⟨as, ha, hra⟩ := id hA
    obtain ⟨bs, hb, hrb⟩ := id hB
    have hal : as.length = X.length := hra.1
    have hbl : bs.length = X.length := hrb.1
    refine ⟨fun σ' H' => σ' = [some (.ref a), some (.ref b), none, none, none] ∧ H' = H, ?_, ?_⟩
    · refine ⟨_, rfl, _, _, _, _, rfl, .lst ha, kit_self _ _, true, rfl, iteF ?_⟩
      refine ⟨_, rfl, a, _, rfl, .inl (SqL.of ha), _, rfl, b, _, rfl, .inl (SqL.of hb), rfl, _, rfl, ?_⟩
      exact iteNS (by rw [List.length_map, List.length_map, hal, hbl]) ⟨rfl, rfl⟩
    rintro σ' H' ⟨rfl, rfl⟩
    refine ⟨_, rfl, _, rfl, a, b, rfl, ⟨_, SqL.of ha⟩, ⟨_, SqL.of hb⟩, ?_⟩
    refine for_zip (K := K) (a := a) (b := b) (xs := as.map V.ref) (ys := bs.map V.ref) (fun n σ H2 => ∃ (v2 v3 v4 : Option V), σ = [some (.ref a), some (.ref b), v2, v3, v4] ∧ Same H' H2) (by rw [List.length_map, List.length_map, hal, hbl]) ⟨none, none, none, rfl, fun _ _ e => e⟩ (fun n σ H2 _ ⟨_, _, _, _, s⟩ => ⟨SqL.of (s _ _ ha), SqL.of (s _ _ hb)⟩) ?_ ?_
    · rintro n v u σ H2 q hv hu hq ⟨v2, v3, v4, rfl, s2⟩
      rw [List.getElem?_map] at hv hu
      have hna : n < as.length := by
        cases e : as[n]? with
        | none => rw [e] at hv; cases hv
        | some r => exact (List.getElem?_eq_some_iff.mp e).1
      have g1 : as[n]? = some as[n] := List.getElem?_eq_getElem hna
      have g2 : bs[n]? = some (bs[n]'(by omega)) := List.getElem?_eq_getElem (by omega)
      have g3 : X[n]? = some (X[n]'(by omega)) := List.getElem?_eq_getElem (by omega)
      rw [g1] at hv
      rw [g2] at hu
      have ev : V.ref as[n] = v := Option.some.inj hv
      have eu : V.ref (bs[n]'(by omega)) = u := Option.some.inj hu
      subst ev eu
      generalize as[n] = r1 at g1
      generalize bs[n]'(by omega) = r2 at g2
      generalize X[n]'(by omega) = x at g3
      have h1 := s2 _ _ (hra.2 n _ _ g1 g3)
      have h2 := s2 _ _ (hrb.2 n _ _ g2 g3)
      have s23 := Same.upd (o := .tup [.ref r1, .ref r2]) hq
      refine ⟨q, _, rfl, SqT.of upd_same, rfl, _, _, rfl, _, _, rfl, rfl, ?_⟩
      generalize upd H2 q (.tup [.ref r1, .ref r2]) = H3 at s23 ⊢
      refine ⟨fun σ' H' => σ' = [some (.ref a), some (.ref b), some (.ref r1), some (.ref r2), v4] ∧ H' = H3, ?_, ?_⟩
      · refine ⟨_, rfl, _, _, _, _, rfl, .tup (s23 _ _ h1), kit_self _ _, true, rfl, iteF ?_⟩
        refine ⟨_, rfl, _, rfl, r1, r2, x, x, rfl, rfl, SqT.of (s23 _ _ h1), SqT.of (s23 _ _ h2), _, rfl, ?_⟩
        exact iteNS rfl ⟨rfl, rfl⟩
      rintro σ' H4 ⟨rfl, rfl⟩
      refine ⟨_, rfl, r1, rfl, ⟨_, SqT.of (s23 _ _ h1)⟩, ?_⟩
      refine for_tup (K := K) (a := r1) (xs := intV x) (fun i σ H5 => ∃ v4 : Option V, σ = [some (.ref a), some (.ref b), some (.ref r1), some (.ref r2), v4] ∧ H5 = H4) ⟨_, rfl, rfl⟩ (fun i σ H5 _ ⟨_, _, e⟩ => by rw [e]; exact SqT.of (s23 _ _ h1)) ?_ ?_
      · rintro i y σ H5 hi ⟨v, rfl, rfl⟩
        obtain ⟨z, rfl, _⟩ := ints_of_at hi
        refine ⟨_, ?_, fun _ _ h => h⟩
        refine ⟨_, rfl, _, _, _, _, rfl, .int z, kit_self _ _, true, rfl, iteF ?_⟩
        refine ⟨_, rfl, _, _, _, _, rfl, .int z, kit_int_bool _, false, rfl, iteF ?_⟩
        exact ⟨_, rfl, rfl⟩
      · rintro σ H5 ⟨v, rfl, rfl⟩
        exact ⟨_, _, _, rfl, s2.trans s23⟩
    · rintro σ H2 ⟨v2, v3, v4, rfl, s2⟩
      exact k H2 s2
theorem ok__law_read (T : Txt K mg A) : FnOk P w K mg base (CXw P w) 7 A.f__law_read A.d__law_read ["_law_names_here", "_law_written", "_law_words"] spLRead := by
  have G__law_same : FnOk P w K mg base (CXw P w) 1 A.f__law_same A.d__law_same ["_law_found", "_law_words"] spSame := ok__law_same T
  have G_read_list : FnOk P w K mg base (CXw P w) 6 A.f_read_list A.d_read_list ["names", "text"] (spReadL A.c_NoWord A.c_TooLong) := ok_read_list T
  refine T._law_read.F.okN sc__law_read (fun vs H Q E h => ?_) (fun cdv AA outer s H vs Q E hr h => ?_)
  · obtain ⟨nm, t, lw, ws, o, rfl, _⟩ := h
    rfl
  · obtain ⟨nm, t, lw, ws, o, rfl, hlow, hl, hasc, hRL, hW, hlen, ho, k⟩ := h
    refine ⟨_, (pss_cons (ps_set (i := 3) sc__law_read.nd rfl (Or.inl rfl) (pe_strX (l := [119, 111, 114, 100]) rfl))
      (pss_cons (ps_set (i := 4) sc__law_read.nd rfl (Or.inl rfl) (pe_lst pa_nil))
      (pss_cons (ps_cut (ps_try rfl rfl (psx_set (i := 4) sc__law_read.nd rfl (Or.inl rfl) (pex_call (G_read_list) (hr.mono (by decide)) rfl T.read_list.m T.read_list.F.kp T.read_list.b (pa_cons (pv 0) (pa_cons (pv 1) pa_nil))))
        (ph_an rfl T.m_NoWord (fun _ => (pss_one (ps_set (i := 3) sc__law_read.nd rfl (Or.inl rfl) (pe_strX (l := [110, 111]) rfl))))
        (ph_an rfl T.m_TooLong (fun _ => (pss_one (ps_set (i := 3) sc__law_read.nd rfl (Or.inl rfl) (pe_strX (l := [108, 111, 110, 103]) rfl))))
        ph_no))))
      (pss_cons (ps_if (pt_cmpR op_ne (pv 3) (pe_strX (l := [119, 111, 114, 100]) rfl) (nomark _))
        (pss_one (ps_ret (pv 3)))
        pss_nil)
      (pss_cons (ps_if (pt_val (pe_call (G__law_same) (hr.mono (by decide)) rfl T._law_same.m T._law_same.F.kp T._law_same.b .nil passF (pa_cons (pv 4) (pa_cons (pv 2) pa_nil))))
        (pss_one (ps_ret (pe_strX (l := [119, 111, 114, 100]) rfl)))
        pss_nil)
      (pss_one (ps_ret (pe_strX (l := [111, 116, 104, 101, 114]) rfl)))))))), ?_⟩
    refine ⟨Nat.zero_le _, fun q hq => ?_⟩
    have s3 : Same H (upd H q (.lst [])) := Same.upd hq
    have hq3 : upd H q (.lst []) q = some (.lst []) := upd_same
    generalize upd H q (.lst []) = H3 at s3 hq3 ⊢
    refine ⟨fun σ' H' => ∃ lf : Addr, σ' = [some (.str (tx nm)), some (.str (tx t)), some (.ref lw), some (.str (tx (cd o))), some (.ref lf)] ∧ Same H3 H' ∧ ∀ x, o = .inl x → WordsAt H' lf x, ?_, ?_⟩
    · refine ⟨_, rfl, _, rfl, nm, t, o, rfl, hlow, hl, hasc, hRL, fun x hx l H' s' _ h' => ?_, fun hx H' s' => ?_, fun hx H' s' => ?_⟩
      · subst hx
        exact ⟨l, rfl, s', fun y hy => by cases hy; exact h'⟩
      · subst hx
        refine ⟨_, rfl, true, T.e_NN, iteT ?_⟩
        exact ⟨q, rfl, s', fun y hy => by cases hy⟩
      · subst hx
        refine ⟨_, rfl, false, T.e_TN, iteF ?_⟩
        refine ⟨true, T.e_TT, iteT ?_⟩
        exact ⟨q, rfl, s', fun y hy => by cases hy⟩
    rintro σ' H4 ⟨lf, rfl, s4, hF⟩
    refine ⟨_, rfl, rfl, _, rfl, ?_⟩
    cases o with
    | inl x =>
      have e := ho x rfl
      subst e
      refine iteNS rfl ?_
      refine ⟨_, rfl, _, rfl, lf, lw, x, rfl, hF x rfl, hW.same (s3.trans s4), hlen, fun H' s' => ?_⟩
      exact ⟨_, rfl, iteT (k H' (s3.trans (s4.trans s')))⟩
    | inr b =>
      have ne : ¬ V.str (tx (cd (.inr b))) = V.str (tx [119, 111, 114, 100]) := by
        intro z
        injection z with z
        have := tx_inj z
        cases b <;> exact absurd this (by decide)
      refine ite2 (fun _ => ⟨_, rfl, k H4 (s3.trans s4)⟩) (fun h => ?_)
      exact absurd (by simp [ne]) h
theorem comp_filterB {l : List Nat} {H1 : Hp} {fv : St} {tt : TT} {te : TE} {Q : VK} (p : Nat → Bool) (hl : l.length ≤ 100000) (ht : ∀ c R, R (p c) H1 → tt (some (.str (tx [c])) :: fv) H1 R) (he : ∀ c (R : VK), R (.str (tx [c])) H1 → te (some (.str (tx [c])) :: fv) H1 R)
    (hQ : ∀ D, H1 D = none → Q (.ref D) (upd H1 D (.lst (strV ((l.filter p).map fun c => [c]))))) : CompGoIf tt te fv Q (Itx l) H1 := by
  have hz : ∀ i, (strV (((l.take i).filter p).map fun c => [c])).length ≤ 100000 := fun i => by
    unfold strV
    rw [List.length_map, List.length_map]
    exact Nat.le_trans (List.length_filter_le _ _) (by rw [List.length_take]; omega)
  refine ⟨fun i m ys H2 => m = l.length - i ∧ i ≤ l.length ∧ ys = strV (((l.take i).filter p).map fun c => [c]) ∧ H2 = H1, ⟨l.length, by simp, Nat.zero_le _, by simp [strV], rfl⟩, ?_⟩
  rintro i m ys H2 ⟨rfl, hi, rfl, rfl⟩
  by_cases hlt : i < l.length
  · refine .inr ⟨hlt, Nat.lt_of_le_of_lt (hz i) (by decide), fun x H3 hy => ?_⟩
    obtain ⟨rfl, c, hc, rfl⟩ := hy
    refine ht c _ ?_
    have et : l.take (i + 1) = l.take i ++ [c] := by
      rw [List.take_succ, hc]
      rfl
    cases hp : p c with
    | true =>
      refine he c _ ⟨l.length - (i + 1), by omega, rfl, hlt, ?_, rfl⟩
      rw [et, List.filter_append, List.map_append]
      simp [strV, hp]
    | false =>
      refine ⟨l.length - (i + 1), by omega, rfl, hlt, ?_, rfl⟩
      rw [et, List.filter_append, List.map_append]
      simp [strV, hp]
  · have e : i = l.length := by omega
    subst e
    refine .inl ⟨Nat.le_refl _, Nat.le_trans (hz _) (by decide), fun D hD => ?_⟩
    rw [List.take_length]
    exact hQ D hD
theorem same_put {H H' : Hp} {p : Addr} {o : HO} (s : Same H H') (h : H p = none) : Same H (upd H' p o) := fun b u e => by
  rw [upd_ne (ne_of_none e h)]
  exact s b u e
theorem tups_lst {H : Hp} {ps : List Addr} {ws : List (List Int)} {p : Addr} {xs : List V} {o : HO} (h : TupsAt H ps ws) (hp : H p = some (.lst xs)) : TupsAt (upd H p o) ps ws := h.keep fun q ys e => by
  rw [upd_ne (ne_of e hp (by intro z; cases z))]
  exact e
theorem all_blank : ∀ {t : List Nat}, (∀ c ∈ t, c = 32) → t = List.replicate t.length 32
  | [], _ => rfl
  | c :: t, h => by
    rw [List.length_cons, List.replicate_succ, ← all_blank (t := t) fun d hd => h d (List.mem_cons_of_mem _ hd), h c (List.mem_cons_self ..)]
theorem rl_items {f : M5.Base} {ls ts : List (List Nat)} {W : List Nat} (hP : Pads ls ts) (hc : ∀ l ∈ ls, 44 ∉ l) (hW : (ls = [] ∧ ∃ n, W = List.replicate n 32) ∨ (ls ≠ [] ∧ W = joinL [44] ls)) :
    ∃ o, RL f W o ∧ cd o = (if W.filter (fun c => !decide (c = 32)) = [] then [119, 111, 114, 100] else due (ts.map (M5.readM f))) ∧ ∀ x, o = .inl x → x = wrs (ts.map (M5.readM f)) := by
  by_cases hf : W.filter (fun c => !decide (c = 32)) = []
  · rw [if_pos hf]
    have ha : ∀ c ∈ W, c = 32 := fun c hm => by
      have := List.filter_eq_nil_iff.mp hf c hm
      simpa using this
    have hb := all_blank ha
    refine ⟨.inl [], .inl ⟨_, hb, rfl⟩, rfl, fun x hx => ?_⟩
    cases hx
    rcases hW with ⟨h0, _⟩ | ⟨h0, h1⟩
    · subst h0
      cases ts with
      | nil => rfl
      | cons t ts => exact hP.elim
    · match ls, ts, hP, h1 with
      | [], _, _, _ => exact absurd rfl h0
      | [l], [t], hP, h1 =>
        obtain ⟨⟨a, b, e⟩, hbr, _⟩ := hP
        have h1' : W = l := h1
        have : t = [] := blank_strip hb (h1'.trans e) hbr
        subst this
        show [] = wrs [M5.readM f []]
        rw [read_nil]
        rfl
      | [l], _ :: _ :: _, hP, _ => exact hP.2.2.elim
      | l :: m :: ls, _, _, h1 =>
        rw [joinL] at h1
        have := ha 44 (by rw [h1]; exact List.mem_append_left _ (List.mem_append_right _ (List.mem_singleton.mpr rfl)))
        omega
  · rw [if_neg hf]
    obtain ⟨c, hcm⟩ : ∃ c, c ∈ W.filter (fun c => !decide (c = 32)) := List.exists_mem_of_ne_nil _ hf
    obtain ⟨h1, h2⟩ := List.mem_filter.mp hcm
    have h32 : c ≠ 32 := by simpa using h2
    rcases hW with ⟨_, n, e⟩ | ⟨h0, e⟩
    · rw [e] at h1
      exact absurd (List.eq_of_mem_replicate h1) h32
    · obtain ⟨k1, k2⟩ := rdL_items (f := f) ts
      exact ⟨rdL f ts, .inr ⟨ls, ts, e, h0, hc, ⟨c, h1, h32⟩, hP, rfl⟩, k1, k2⟩
theorem join_sp : ∀ (x : List Nat) (xs : List (List Nat)), joinL [44, 32] (x :: xs) = joinL [44] (x :: xs.map (32 :: ·))
  | x, [] => rfl
  | x, y :: xs => by
    have ih := join_sp y xs
    rw [List.map_cons, joinL, joinL, ih]
    cases xs with
    | nil => simp [joinL]
    | cons z xs =>
      rw [List.map_cons, joinL, joinL]
      simp
theorem pads_sp : ∀ {ts : List (List Nat)}, (∀ t ∈ ts, Bare t) → Pads (ts.map (32 :: ·)) ts
  | [], _ => trivial
  | t :: ts, h => ⟨⟨1, 0, by simp⟩, h t (List.mem_cons_self ..), pads_sp fun u hu => h u (List.mem_cons_of_mem _ hu)⟩
theorem rdL_shown {nm : List Nat} (hlow : Low nm) (hnd : nm.Nodup) : ∀ {ws : List (List Int)}, (∀ x ∈ ws, x.length ≤ 20 ∧ Steps nm.length x) → rdL (M5.baseOf nm) (ws.map (shw nm)) = .inl ws
  | [], _ => rfl
  | x :: ws, h => by
    have h1 := h x (List.mem_cons_self ..)
    rw [List.map_cons]
    unfold rdL
    rw [read_shw hlow hnd (by omega) h1.2]
    simp only
    rw [rdL_shown hlow hnd fun y hy => h y (List.mem_cons_of_mem _ hy)]
theorem rl_shown {nm : List Nat} (hlow : Low nm) (hnd : nm.Nodup) : ∀ {ws : List (List Int)}, (∀ x ∈ ws, x.length ≤ 20 ∧ Steps nm.length x) → RL (M5.baseOf nm) (joinL [44, 32] (ws.map (shw nm))) (.inl ws)
  | [], _ => .inl ⟨0, rfl, rfl⟩
  | x :: ws, h => by
    have cl : ∀ y ∈ x :: ws, Cl (shw nm y) := fun y hy => cl_shw hlow (h y hy).2
    have hx := cl x (List.mem_cons_self ..)
    refine .inr ⟨shw nm x :: (ws.map (shw nm)).map (32 :: ·), (x :: ws).map (shw nm), join_sp _ _, by simp, fun l hl z => ?_, ?_, ⟨⟨0, 0, by simp⟩, hx.bare, pads_sp fun t ht => ?_⟩, rdL_shown hlow hnd h⟩
    · rcases List.mem_cons.mp hl with e | hl
      · rw [e] at z
        exact (hx 44 z).2.1 rfl
      · obtain ⟨t, ht, rfl⟩ := List.mem_map.mp hl
        obtain ⟨y, hy, rfl⟩ := List.mem_map.mp ht
        rcases List.mem_cons.mp z with z | z
        · cases z
        · exact (cl y (List.mem_cons_of_mem _ hy) 44 z).2.1 rfl
    · obtain ⟨c, hc⟩ := List.exists_mem_of_ne_nil _ (shw_ne (nm := nm) (ms := x))
      refine ⟨c, ?_, (hx c hc).1⟩
      rw [List.map_cons, join_sp]
      exact join_mem (List.mem_cons_self ..) hc
    · obtain ⟨y, hy, rfl⟩ := List.mem_map.mp ht
      exact (cl y (List.mem_cons_of_mem _ hy)).bare
theorem join_asc {sep : List Nat} (hs : M8.Asc sep) : ∀ {ls : List (List Nat)}, (∀ l ∈ ls, M8.Asc l) → M8.Asc (joinL sep ls)
  | [], _ => fun c hc => by cases hc
  | [l], h => h l (List.mem_cons_self ..)
  | l :: m :: ls, h => by
    rw [joinL]
    exact ((h l (List.mem_cons_self ..)).app hs).app (join_asc hs fun k hk => h k (List.mem_cons_of_mem _ hk))
theorem told_asc {nm : List Nat} {ws : List (List Int)} (hlow : Low nm) (h : ∀ x ∈ ws, x.length ≤ 20 ∧ Steps nm.length x) : M8.Asc (joinL [44, 32] (ws.map (shw nm))) := by
  refine join_asc (fun c hc => (by decide : ∀ c ∈ [44, 32], c < 128) c hc) fun l hl => ?_
  obtain ⟨y, hy, rfl⟩ := List.mem_map.mp hl
  exact (cl_shw hlow (h y hy).2).asc
theorem shw_len3 {nm : List Nat} {ms : List Int} (hm : ms.length ≤ 20) : (shw nm ms).length ≤ 240 := by
  unfold shw
  split
  · decide
  · unfold pcs
    have : ∀ R : List (Int × Nat), (∀ p ∈ R, p.2 ≤ 100000) → ((R.map fun p => piece nm p.1 p.2).flatten).length ≤ R.length * 12 := by
      intro R
      induction R with
      | nil => intro _; simp
      | cons p R ih =>
        intro h
        have h1 := piece_len (nm := nm) (s := p.1) (h p (List.mem_cons_self ..))
        have h2 := ih fun q hq => h q (List.mem_cons_of_mem _ hq)
        rw [List.map_cons, List.flatten_cons, List.length_append, List.length_cons, Nat.succ_mul]
        omega
    have h1 := this (M4.runs ms) fun p hp => by have := (M4.runs_mem hp).2.2; omega
    have h2 := M4.runs_len ms
    omega
theorem flat_len {k : Nat} : ∀ {ls : List (List Nat)}, (∀ l ∈ ls, l.length ≤ k) → ls.flatten.length ≤ ls.length * k
  | [], _ => by simp
  | l :: ls, h => by
    have h1 := h l (List.mem_cons_self ..)
    have h2 := flat_len fun m hm => h m (List.mem_cons_of_mem _ hm)
    rw [List.flatten_cons, List.length_append, List.length_cons, Nat.succ_mul]
    omega
theorem told_flat {nm : List Nat} {ws : List (List Int)} (hl : ws.length ≤ 63) (h : ∀ x ∈ ws, x.length ≤ 20 ∧ Steps nm.length x) : (ws.map (shw nm)).flatten.length ≤ 15120 := by
  have h1 := flat_len (k := 240) (ls := ws.map (shw nm)) fun l hl => by
    obtain ⟨y, hy, rfl⟩ := List.mem_map.mp hl
    exact shw_len3 (h y hy).1
  rw [List.length_map] at h1
  omega
theorem told_len {nm : List Nat} {ws : List (List Int)} (hl : ws.length ≤ 63) (h : ∀ x ∈ ws, x.length ≤ 20 ∧ Steps nm.length x) : (joinL [44, 32] (ws.map (shw nm))).length ≤ 20000 := by
  have h1 := (join_len [44, 32] (ws.map (shw nm))).2
  have h2 := told_flat hl h
  rw [List.length_map] at h1
  have h3 : [44, 32].length = 2 := rfl
  rw [h3] at h1
  omega
theorem wrs_mem {Rs : List M5.Res} {x : List Int} (h : x ∈ wrs Rs) : M5.Res.word x ∈ Rs := by
  unfold wrs at h
  obtain ⟨R, hR, e⟩ := List.mem_filterMap.mp h
  cases R with
  | word y =>
    have : y = x := Option.some.inj e
    rw [← this]
    exact hR
  | noWord => cases e
  | tooLong => cases e
theorem wrs_len (Rs : List M5.Res) : (wrs Rs).length ≤ Rs.length := List.length_filterMap_le ..
theorem wrs_ok {nm : List Nat} {ts : List (List Nat)} (h : ∀ t ∈ ts, ItemOk nm t (M5.readM (M5.baseOf nm) t)) : ∀ x ∈ wrs (ts.map (M5.readM (M5.baseOf nm))), x.length ≤ 20 ∧ Steps nm.length x := fun x hx => by
  obtain ⟨t, ht, e⟩ := List.mem_map.mp (wrs_mem hx)
  exact (h t ht).wd x e
theorem kd_word {R : M5.Res} (h : V.str (tx (kd R)) = V.str (tx [119, 111, 114, 100])) : ∃ x, R = .word x := by
  injection h with h
  have := tx_inj h
  cases R with
  | word x => exact ⟨x, rfl⟩
  | noWord => exact absurd this (by decide)
  | tooLong => exact absurd this (by decide)
theorem wrs_none {R : M5.Res} {Rs : List M5.Res} (h : ¬ V.str (tx (kd R)) = V.str (tx [119, 111, 114, 100])) : wrs (Rs ++ [R]) = wrs Rs := by
  rw [wrs_snoc]
  cases R with
  | word x => exact absurd rfl h
  | noWord => exact List.append_nil _
  | tooLong => exact List.append_nil _
theorem str_app (ls : List (List Nat)) (l : List Nat) : strV ls ++ [V.str (tx l)] = strV (ls ++ [l]) := by
  unfold strV
  rw [List.map_append]
  rfl
theorem ref_app (ps : List Addr) (q : Addr) : ps.map V.ref ++ [V.ref q] = (ps ++ [q]).map V.ref := by
  rw [List.map_append]
  rfl
theorem ok_law (T : Txt K mg A) : FnOk P w K mg base (CXw P w) 8 A.f_law A.d_law ["_law_script"] (spLaw K) := by
  have G__law_names : FnOk P w K mg base (CXw P w) 2 A.f__law_names A.d__law_names ["_law_number", "_law_many"] spNames := ok__law_names T
  have G_shown_list : FnOk P w K mg base (CXw P w) 3 A.f_shown_list A.d_shown_list ["names", "words"] spShownL := ok_shown_list T
  have G__law_at : FnOk P w K mg base (CXw P w) 1 A.f__law_at A.d__law_at ["_law_script", "_law_k"] (spAt K) := ok__law_at T
  have G__law_item : FnOk P w K mg base (CXw P w) 2 A.f__law_item A.d__law_item ["_law_names_here", "_law_number"] spItem := ok__law_item T
  have G__law_mix : FnOk P w K mg base (CXw P w) 1 A.f__law_mix A.d__law_mix ["_law_number", "_law_place"] spMix := ok__law_mix T
  have G__law_read : FnOk P w K mg base (CXw P w) 7 A.f__law_read A.d__law_read ["_law_names_here", "_law_written", "_law_words"] spLRead := ok__law_read T
  have G_read_list : FnOk P w K mg base (CXw P w) 6 A.f_read_list A.d_read_list ["names", "text"] (spReadL A.c_NoWord A.c_TooLong) := ok_read_list T
  have G__law_text : FnOk P w K mg base (CXw P w) 2 A.f__law_text A.d__law_text ["_law_names_here", "_law_word"] spText := ok__law_text T
  refine T.law.F.okN sc_law (fun vs H Q E h => ?_) (fun cdv AA outer s H vs Q E hr h => ?_)
  · obtain ⟨a, ns, rfl, _⟩ := h
    rfl
  · obtain ⟨a, ns, rfl, hS, hlen, k⟩ := h
    have hu2 := hu_of hr
    refine ⟨_, (pss_cons (ps_set (i := 1) sc_law.nd rfl (Or.inr rfl) (pe_call (G__law_names) (hr.mono (by decide)) rfl T._law_names.m T._law_names.F.kp T._law_names.b .nil passF (pa_cons (pe_call (G__law_at) (hr.mono (by decide)) rfl T._law_at.m T._law_at.F.kp T._law_at.b .nil passF (pa_cons (pv 0) (pa_cons pe_int pa_nil))) (pa_cons (pe_op op_add pe_int (pe_op op_mod (pe_call (G__law_at) (hr.mono (by decide)) rfl T._law_at.m T._law_at.F.kp T._law_at.b .nil passF (pa_cons (pv 0) (pa_cons pe_int pa_nil))) pe_int)) pa_nil))))
      (pss_cons (ps_set (i := 2) sc_law.nd rfl (Or.inl rfl) (pe_lst pa_nil))
      (pss_cons (ps_set (i := 3) sc_law.nd rfl (Or.inl rfl) (pe_lst pa_nil))
      (pss_cons (ps_set (i := 4) sc_law.nd rfl (Or.inl rfl) (pe_strX (l := [119, 111, 114, 100]) rfl))
      (pss_cons (ps_for PassesOwn.never rfl (pi_list (pe_slice sl_list (pv 0) (po_some pe_int) (po_some pe_int))) (pg_name (i := 5) sc_law.nd rfl (Or.inl rfl))
        (pss_cons (ps_set (i := 6) sc_law.nd rfl (Or.inl rfl) (pe_call (G__law_item) (hr.mono (by decide)) rfl T._law_item.m T._law_item.F.kp T._law_item.b .nil passF (pa_cons (pv 1) (pa_cons (pe_call (G__law_mix) (hr.mono (by decide)) rfl T._law_mix.m T._law_mix.F.kp T._law_mix.b .nil passF (pa_cons (pv 5) (pa_cons pe_int pa_nil))) pa_nil))))
        (pss_cons (ps_set (i := 7) sc_law.nd rfl (Or.inl rfl) (pe_call (G__law_mix) (hr.mono (by decide)) rfl T._law_mix.m T._law_mix.F.kp T._law_mix.b .nil passF (pa_cons (pv 5) (pa_cons pe_int pa_nil))))
        (pss_cons (ps_expr (pe_bm PySem.F.plainAttrs_list PySem.F.slot_list_append PySem.F.type_list_append mt_append (pv 2) (pa_cons (pe_op op_addX (pe_op op_addX (pe_op op_repB (pe_strX (l := [32]) rfl) (pe_op op_mod (pv 7) pe_int)) (pe_ix ix_tup (pv 6) pe_int (fun _ _ => rfl))) (pe_op op_repB (pe_strX (l := [32]) rfl) (pe_op op_mod (pe_op op_fdiv (pv 7) pe_int) pe_int))) pa_nil)))
        (pss_cons (ps_cut (ps_if (pt_cmpR op_eq (pe_ix ix_tup (pv 6) pe_int (fun _ _ => rfl)) (pe_strX (l := [119, 111, 114, 100]) rfl) (nomark _))
          (pss_one (ps_expr (pe_bm PySem.F.plainAttrs_list PySem.F.slot_list_append PySem.F.type_list_append mt_append (pv 3) (pa_cons (pe_ix ix_tup (pv 6) pe_int (fun _ _ => rfl)) pa_nil))))
          pss_nil))
        (pss_one (ps_cut (ps_if (pt_cmpR op_eq (pv 4) (pe_strX (l := [119, 111, 114, 100]) rfl) (nomark _))
          (pss_one (ps_set (i := 4) sc_law.nd rfl (Or.inl rfl) (pe_ix ix_tup (pv 6) pe_int (fun _ _ => rfl))))
          pss_nil))))))))
      (pss_cons (ps_set (i := 8) sc_law.nd rfl (Or.inl rfl) (pe_bm PySem.F.plainAttrs_str PySem.F.slot_str_join PySem.F.type_str_join mt_joinS (pe_strX (l := [44]) rfl) (pa_cons (pv 2) pa_nil)))
      (pss_cons (ps_cut (ps_if (pt_cmpR op_eq (pe_callB call_len_seq rfl T.z_len PySem.boot_len (pa_cons (pv 2) pa_nil)) pe_int (nomark _))
        (pss_one (ps_set (i := 8) sc_law.nd rfl (Or.inl rfl) (pe_op op_repB (pe_strX (l := [32]) rfl) (pe_op op_mod (pe_call (G__law_at) (hr.mono (by decide)) rfl T._law_at.m T._law_at.F.kp T._law_at.b .nil passF (pa_cons (pv 0) (pa_cons pe_int pa_nil))) pe_int))))
        pss_nil))
      (pss_cons (ps_cut (ps_if (pt_cmpR op_eq (pe_callB call_len_seq rfl T.z_len PySem.boot_len (pa_cons (pe_compIf (fns := []) (ixs := []) (cl := _) rfl (pi_str (pv 8)) (compScope0 (by decide +kernel) (by decide +kernel) rfl (by decide +kernel) rfl) (fun C s H ex => (pt_cmpR op_ne (pv 0) (pe_strX (l := [32]) rfl) (nomark _))) (fun C s H ex => (pv 0))) pa_nil)) pe_int (nomark _))
        (pss_one (ps_set (i := 4) sc_law.nd rfl (Or.inl rfl) (pe_strX (l := [119, 111, 114, 100]) rfl)))
        pss_nil))
      (pss_cons (ps_if (pt_cmpR op_ne (pe_call (G__law_read) (hr.mono (by decide)) rfl T._law_read.m T._law_read.F.kp T._law_read.b .nil passF (pa_cons (pv 1) (pa_cons (pv 8) (pa_cons (pv 3) pa_nil)))) (pv 4) (nomark _))
        (pss_one (ps_ret pe_bl))
        pss_nil)
      (pss_cons (ps_set (i := 9) sc_law.nd rfl (Or.inl rfl) (pe_callTy call_list_of rfl T.z_list PyProof.Rows.boot_list (pa_cons (pv 3) pa_nil)))
      (pss_cons (ps_set (i := 10) sc_law.nd rfl (Or.inl rfl) (pe_call (G_shown_list) (hr.mono (by decide)) rfl T.shown_list.m T.shown_list.F.kp T.shown_list.b .nil passF (pa_cons (pv 1) (pa_cons (pv 9) pa_nil))))
      (pss_cons (ps_cut (ps_if (PW.pt (pw_or (pt_not (pt_val (pe_callB call_isi rfl T.z_isinstance PyProof.Rows.boot_isinstance (pa_cons (pv 10) (pa_cons (pe_bltn (v := .ty "str") rfl T.z_str PyProof.Rows.boot_str rfl) pa_nil))))) (pw_or1 (pt_cmpR op_ne (pv 10) (pe_bm PySem.F.plainAttrs_str PySem.F.slot_str_join PySem.F.type_str_join mt_joinS (pe_strX (l := [44, 32]) rfl) (pa_cons (pe_comp (fns := ["_law_names_here"]) (ixs := [1]) (cl := _) rfl (pi_list (pv 3)) (compScope1 rfl rfl (by decide +kernel) rfl (by decide +kernel) rfl (by decide +kernel) (by decide +kernel) rfl rfl rfl rfl) (fun C s H ex => (pe_call (G__law_text) (hr.mono (by decide)) rfl T._law_text.m T._law_text.F.kp T._law_text.b .nil passF (pa_cons (pv 1) (pa_cons (pv 0) pa_nil))))) pa_nil)) (nomark _)))))
        (pss_one (ps_ret pe_bl))
        pss_nil))
      (pss_cons (ps_cut (ps_if (PW.pt (pw_or (pt_cmpR op_ne (pe_call (G__law_read) (hr.mono (by decide)) rfl T._law_read.m T._law_read.F.kp T._law_read.b .nil passF (pa_cons (pv 1) (pa_cons (pv 10) (pa_cons (pv 3) pa_nil)))) (pe_strX (l := [119, 111, 114, 100]) rfl) (nomark _)) (pw_or1 (pt_cmpR op_ne (pe_call (G_shown_list) (hr.mono (by decide)) rfl T.shown_list.m T.shown_list.F.kp T.shown_list.b .nil passF (pa_cons (pv 1) (pa_cons (pv 9) pa_nil))) (pv 10) (nomark _)))))
        (pss_one (ps_ret pe_bl))
        pss_nil))
      (pss_cons (ps_expr (pe_bm0 PySem.F.plainAttrs_list PySem.F.slot_list_clear PySem.F.type_list_clear mt_clear (pe_call (G_read_list) (hr.mono (by decide)) rfl T.read_list.m T.read_list.F.kp T.read_list.b .nil passF (pa_cons (pv 1) (pa_cons (pv 10) pa_nil)))))
      (pss_one (ps_ret (pe_and (pe_cmpR (op_eqLT hu2) (pv 9) (pv 3) (nomark _)) (pe_one (pe_cmpR op_eq (pe_call (G__law_read) (hr.mono (by decide)) rfl T._law_read.m T._law_read.F.kp T._law_read.b .nil passF (pa_cons (pv 1) (pa_cons (pv 10) (pa_cons (pv 3) pa_nil)))) (pe_strX (l := [119, 111, 114, 100]) rfl) (nomark _)))))))))))))))))))), ?_⟩
    refine ⟨_, rfl, a, ns, 1, rfl, hS, by omega, fun z1 => ?_⟩
    refine ⟨_, rfl, a, ns, 1, rfl, hS, by omega, fun z0 => ?_⟩
    refine ⟨_, _, rfl, rfl, (by show (0 : Int) < 26; decide), _, _, rfl, rfl, ?_⟩
    obtain ⟨n, hn, hn1, hn2⟩ : ∃ n : Nat, 1 + z0 % 26 = (n : Int) ∧ 1 ≤ n ∧ n ≤ 26 := ⟨(1 + z0 % 26).toNat, by omega, by omega, by omega⟩
    simp only [hn]
    refine ⟨z1, n, rfl, hn1, hn2, fun nm hnl hlow hnd => ?_⟩
    refine ⟨Nat.zero_le _, fun lp hlp => ?_⟩
    refine ⟨Nat.zero_le _, fun lw hlw => ?_⟩
    have s1 := (Same.upd (o := .lst []) hlp).trans (Same.upd (o := .lst []) hlw)
    have hp1 : upd (upd H lp (.lst [])) lw (.lst []) lp = some (.lst []) := Same.upd hlw _ _ upd_same
    have hw1 : upd (upd H lp (.lst [])) lw (.lst []) lw = some (.lst []) := upd_same
    have hlwH : H lw = none := same_none (Same.upd (o := .lst []) hlp) hlw
    generalize upd (upd H lp (.lst [])) lw (.lst []) = H1 at s1 hp1 hw1 ⊢
    refine ⟨_, rfl, 2, rfl, 65, rfl, a, intV ns, rfl, s1.seq hS, fun lc hlc => ?_⟩
    rw [cut_ints]
    generalize hcs : (ns.drop (HT.sIx ns.length 0 (some 2))).take (HT.sIx ns.length ns.length (some 65) - HT.sIx ns.length 0 (some 2)) = cs
    have hcl : cs.length ≤ 63 := by
      rw [← hcs, List.length_take, List.length_drop]
      omega
    have s2 := Same.upd (o := .lst (intV cs)) hlc
    have hc2 : upd H1 lc (.lst (intV cs)) lc = some (.lst (intV cs)) := upd_same
    have npc : lp ≠ lc := ne_of_none hp1 hlc
    have nwc : lw ≠ lc := ne_of_none hw1 hlc
    have npw : lp ≠ lw := fun z => by rw [z, upd_same] at hlw; cases hlw
    generalize upd H1 lc (.lst (intV cs)) = H2 at s2 hc2 ⊢
    refine ⟨lc, rfl, ⟨_, SqL.of hc2⟩, ?_⟩
    refine for_list (K := K) (a := lc) (xs := intV cs) (fun i σ H3 => ∃ (ls ts : List (List Nat)) (ps : List Addr) (v5 v6 v7 : Option V), σ = [some (.ref a), some (.str (tx nm)), some (.ref lp), some (.ref lw), some (.str (tx (due (ts.map (M5.readM (M5.baseOf nm)))))), v5, v6, v7, none, none, none] ∧ Same H H3 ∧ H3 lp = some (.lst (strV ls)) ∧ H3 lw = some (.lst (ps.map V.ref)) ∧ H3 lc = some (.lst (intV cs)) ∧ TupsAt H3 ps (wrs (ts.map (M5.readM (M5.baseOf nm)))) ∧ Pads ls ts ∧ (∀ t ∈ ts, ItemOk nm t (M5.readM (M5.baseOf nm) t)) ∧ (∀ l ∈ ls, l.length ≤ 104 ∧ 44 ∉ l ∧ M8.Asc l) ∧ ls.length = i)
      ⟨[], [], [], none, none, none, rfl, s1.trans s2, s2 _ _ hp1, s2 _ _ hw1, hc2, ⟨rfl, fun i p w h => by simp at h⟩, trivial, (fun t ht => by cases ht), (fun l hl => by cases hl), rfl⟩ (fun i σ H3 _ ⟨_, _, _, _, _, _, _, _, _, _, h, _⟩ => SqL.of h) ?_ ?_
    · rintro i y σ H3 hi ⟨ls, ts, ps, v5, v6, v7, rfl, s3, hp3, hw3, hc3, hps, hP, hok, hls, hli⟩
      obtain ⟨z, rfl, _⟩ := ints_of_at hi
      have hil : i < cs.length := by
        have := (List.getElem?_eq_some_iff.mp hi).1
        rw [ints_len] at this
        exact this
      refine ⟨_, rfl, _, rfl, z, 1, rfl, by decide, by decide, fun r1 hr1 => ?_⟩
      refine ⟨nm, r1, rfl, hlow, hnd, by omega, hr1, fun l q t R H4 s4 hl4 hq4 ok => ?_⟩
      refine ⟨_, rfl, z, 2, rfl, by decide, by decide, fun r2 hr2 => ?_⟩
      obtain ⟨n1, e1, hn1'⟩ : ∃ n : Nat, r2 % 3 = (n : Int) ∧ n ≤ 4 := ⟨(r2 % 3).toNat, by omega, by omega⟩
      obtain ⟨n3, e3, hn3⟩ : ∃ n : Nat, r2 / 3 % 3 = (n : Int) ∧ n ≤ 2 := ⟨(r2 / 3 % 3).toNat, by omega, by omega⟩
      have hrd := ok.rd
      refine ⟨_, rfl, .inl ⟨rfl, _, SqL.of (s4 _ _ hp3)⟩, ?_⟩
      refine ⟨_, rfl, _, _, rfl, rfl, (by show (0 : Int) < 3; decide), n1, rfl, congrArg V.int e1, hn1', ?_⟩
      refine ⟨_, rfl, l, _, _, _, rfl, rfl, SqT.of hl4, rfl, _, _, rfl, rfl, ?_, ?_⟩
      · rw [List.length_replicate]
        exact Nat.le_trans (show n1 + t.length ≤ 200 by have := ok.len; omega) (by decide)
      refine ⟨_, rfl, _, _, rfl, rfl, ⟨by decide, by decide⟩, _, _, rfl, rfl, (by show (0 : Int) < 3; decide), n3, rfl, congrArg V.int e3, by omega, _, _, rfl, rfl, ?_, ?_⟩
      · rw [List.length_append, List.length_replicate, List.length_replicate]
        exact Nat.le_trans (show n1 + t.length + n3 ≤ 200 by have := ok.len; omega) (by decide)
      refine ⟨lp, _, _, rfl, rfl, s4 _ _ hp3, ?_, ?_⟩
      · unfold strV
        rw [List.length_map, hli]
        exact Nat.lt_of_lt_of_le (show i < 64 by omega) (by decide)
      have et : M5.readM (M5.baseOf nm) t = R := ok.rd
      have em : (ts ++ [t]).map (M5.readM (M5.baseOf nm)) = ts.map (M5.readM (M5.baseOf nm)) ++ [R] := by
        rw [List.map_append, List.map_singleton, et]
      have s5 : Same H (upd H4 lp (.lst (strV ls ++ [V.str (tx (List.replicate n1 32 ++ t ++ List.replicate n3 32))]))) := same_put (s3.trans s4) hlp
      have hp5 : upd H4 lp (.lst (strV ls ++ [V.str (tx (List.replicate n1 32 ++ t ++ List.replicate n3 32))])) lp = some (.lst (strV (ls ++ [List.replicate n1 32 ++ t ++ List.replicate n3 32]))) := by rw [upd_same, str_app]
      have hw5 : upd H4 lp (.lst (strV ls ++ [V.str (tx (List.replicate n1 32 ++ t ++ List.replicate n3 32))])) lw = some (.lst (ps.map V.ref)) := by rw [upd_ne npw.symm]; exact s4 _ _ hw3
      have hc5 : upd H4 lp (.lst (strV ls ++ [V.str (tx (List.replicate n1 32 ++ t ++ List.replicate n3 32))])) lc = some (.lst (intV cs)) := by rw [upd_ne npc.symm]; exact s4 _ _ hc3
      have hl5 : upd H4 lp (.lst (strV ls ++ [V.str (tx (List.replicate n1 32 ++ t ++ List.replicate n3 32))])) l = some (.tup [.str (tx t), .str (tx (kd R)), .ref q]) := by rw [upd_ne (ne_of hl4 (s4 _ _ hp3) (by intro z; cases z))]; exact hl4
      have hq5 : upd H4 lp (.lst (strV ls ++ [V.str (tx (List.replicate n1 32 ++ t ++ List.replicate n3 32))])) q = some (.tup (intV (wr R))) := by rw [upd_ne (ne_of hq4 (s4 _ _ hp3) (by intro z; cases z))]; exact hq4
      have hps5 := tups_lst (o := .lst (strV ls ++ [V.str (tx (List.replicate n1 32 ++ t ++ List.replicate n3 32))])) (hps.same s4) (s4 _ _ hp3)
      generalize upd H4 lp (.lst (strV ls ++ [V.str (tx (List.replicate n1 32 ++ t ++ List.replicate n3 32))])) = H5 at s5 hp5 hw5 hc5 hl5 hq5 hps5 ⊢
      have hwl : ps.length ≤ 63 := by
        have h1 := hps.1
        have h2 := wrs_len (ts.map (M5.readM (M5.baseOf nm)))
        rw [List.length_map, ← hP.len] at h2
        omega
      refine ⟨fun σ' H' => ∃ ps' : List Addr, σ' = [some (.ref a), some (.str (tx nm)), some (.ref lp), some (.ref lw), some (.str (tx (due (ts.map (M5.readM (M5.baseOf nm)))))), some (.int z), some (.ref l), some (.int r2), none, none, none] ∧ Same H H' ∧ H' lp = some (.lst (strV (ls ++ [List.replicate n1 32 ++ t ++ List.replicate n3 32]))) ∧ H' lw = some (.lst (ps'.map V.ref)) ∧ H' lc = some (.lst (intV cs)) ∧ TupsAt H' ps' (wrs (ts.map (M5.readM (M5.baseOf nm)) ++ [R])) ∧ H' l = some (.tup [.str (tx t), .str (tx (kd R)), .ref q]), ?_, ?_⟩
      · refine ⟨_, rfl, l, _, _, _, rfl, rfl, SqT.of hl5, rfl, rfl, _, rfl, ?_⟩
        refine ite2 (fun h => ?_) (fun h => ?_)
        · obtain ⟨x, rfl⟩ := kd_word (of_decide_eq_true h)
          refine ⟨_, rfl, .inl ⟨rfl, _, SqL.of hw5⟩, _, rfl, l, _, _, _, rfl, rfl, SqT.of hl5, rfl, lw, _, _, rfl, rfl, hw5, ?_, ps ++ [q], rfl, same_put s5 hlwH, ?_, ?_, ?_, ?_, ?_⟩
          · rw [List.length_map]
            exact Nat.lt_of_lt_of_le (show ps.length < 64 by omega) (by decide)
          · rw [upd_ne npw]
            exact hp5
          · rw [upd_same, ref_app]
          · rw [upd_ne nwc.symm]
            exact hc5
          · rw [wrs_snoc]
            exact tups_lst (hps5.snoc hq5) hw5
          · rw [upd_ne (ne_of hl5 hw5 (by intro z; cases z))]
            exact hl5
        · refine ⟨ps, rfl, s5, hp5, hw5, hc5, ?_, hl5⟩
          rw [wrs_none (fun z => h (decide_eq_true z))]
          exact hps5
      rintro σ' H6 ⟨ps', rfl, s6, hp6, hw6, hc6, hps6, hl6⟩
      refine ⟨fun σ' H' => σ' = [some (.ref a), some (.str (tx nm)), some (.ref lp), some (.ref lw), some (.str (tx (due (ts.map (M5.readM (M5.baseOf nm)) ++ [R])))), some (.int z), some (.ref l), some (.int r2), none, none, none] ∧ H' = H6, ?_, ?_⟩
      · refine ⟨_, rfl, rfl, _, rfl, ?_⟩
        refine ite2 (fun h => ?_) (fun h => ?_)
        · have h' : due (ts.map (M5.readM (M5.baseOf nm))) = [119, 111, 114, 100] := by
            have := of_decide_eq_true h
            injection this with this
            exact tx_inj this
          refine ⟨_, rfl, l, _, _, _, rfl, rfl, SqT.of hl6, rfl, ?_, rfl⟩
          rw [due_snoc, if_pos h']
          rfl
        · refine ⟨?_, rfl⟩
          have h' : ¬ due (ts.map (M5.readM (M5.baseOf nm))) = [119, 111, 114, 100] := fun z => h (decide_eq_true (by rw [z]))
          rw [due_snoc, if_neg h']
      rintro σ' H7 ⟨rfl, rfl⟩
      refine ⟨ls ++ [List.replicate n1 32 ++ t ++ List.replicate n3 32], ts ++ [t], ps', some (.int z), some (.ref l), some (.int r2), by rw [em], s6, hp6, hw6, hc6, by rw [em]; exact hps6, hP.snoc ⟨n1, n3, rfl⟩ ok.bare, fun u hu => ?_, fun u hu => ?_, by rw [List.length_append, hli]; rfl⟩
      · rcases List.mem_append.mp hu with hu | hu
        · exact hok u hu
        · rw [List.mem_singleton.mp hu, et]
          exact ok
      · rcases List.mem_append.mp hu with hu | hu
        · exact hls u hu
        · rw [List.mem_singleton.mp hu]
          refine ⟨?_, fun z => ?_, ?_⟩
          · rw [List.length_append, List.length_append, List.length_replicate, List.length_replicate]
            have := ok.len
            omega
          · rcases List.mem_append.mp z with z | z
            · rcases List.mem_append.mp z with z | z
              · exact absurd (List.eq_of_mem_replicate z) (by decide)
              · exact ok.com z
            · exact absurd (List.eq_of_mem_replicate z) (by decide)
          · have hb : ∀ k, M8.Asc (List.replicate k 32) := fun k c hc => by rw [List.eq_of_mem_replicate hc]; decide
            exact ((hb n1).app ok.asc).app (hb n3)
    · rintro σ H3 ⟨ls, ts, ps, v5, v6, v7, rfl, s3, hp3, hw3, hc3, hps, hP, hok, hls, hli⟩
      rw [ints_len] at hli
      have hwok := wrs_ok hok
      have hwl : (wrs (ts.map (M5.readM (M5.baseOf nm)))).length ≤ 63 := by
        have h2 := wrs_len (ts.map (M5.readM (M5.baseOf nm)))
        rw [List.length_map, ← hP.len] at h2
        omega
      have hfl := flat_len (k := 104) fun l hl => (hls l hl).1
      have hjl := (join_len [44] ls).2
      have hl1 : [44].length = 1 := rfl
      rw [hl1] at hjl
      refine ⟨rfl, _, rfl, lp, [44], ls, rfl, rfl, SqL.of hp3, ?_, ?_⟩
      · show _ + _ * 1 ≤ _
        omega
      refine ⟨fun σ' H' => ∃ W : List Nat, σ' = [some (.ref a), some (.str (tx nm)), some (.ref lp), some (.ref lw), some (.str (tx (due (ts.map (M5.readM (M5.baseOf nm)))))), v5, v6, v7, some (.str (tx W)), none, none] ∧ H' = H3 ∧ ((ls = [] ∧ ∃ n, W = List.replicate n 32) ∨ (ls ≠ [] ∧ W = joinL [44] ls)) ∧ W.length ≤ 10000 ∧ M8.Asc W, ?_, ?_⟩
      · refine ⟨_, rfl, lp, _, rfl, .inl (SqL.of hp3), rfl, _, rfl, ?_⟩
        refine ite2 (fun h => ?_) (fun h => ?_)
        · have h' : ls = [] := by
            have := of_decide_eq_true h
            injection this with this
            cases ls with
            | nil => rfl
            | cons x y =>
              unfold strV at this
              rw [List.length_map, List.length_cons] at this
              omega
          refine ⟨_, rfl, a, ns, 0, rfl, s3.seq hS, by omega, fun z => ?_⟩
          obtain ⟨n4, e4, hn4⟩ : ∃ n : Nat, z % 4 = (n : Int) ∧ n ≤ 4 := ⟨(z % 4).toNat, by omega, by omega⟩
          refine ⟨_, _, rfl, rfl, (by show (0 : Int) < 4; decide), n4, rfl, congrArg V.int e4, hn4, List.replicate n4 32, rfl, rfl, .inl ⟨h', n4, rfl⟩, ?_, fun c hc => ?_⟩
          · rw [List.length_replicate]
            omega
          · rw [List.eq_of_mem_replicate hc]
            decide
        · refine ⟨joinL [44] ls, rfl, rfl, .inr ⟨fun z => h ?_, rfl⟩, by omega, join_asc (fun c hc => (by decide : ∀ c ∈ [44], c < 128) c hc) fun l hl => (hls l hl).2.2⟩
          subst z
          exact decide_eq_true rfl
      rintro σ' H4 ⟨W, rfl, rfl, hW, hWl, hWa⟩
      obtain ⟨o, hRL, hcd, ho⟩ := rl_items (f := M5.baseOf nm) hP (fun l hl => (hls l hl).2.1) hW
      refine ⟨fun σ' H' => σ' = [some (.ref a), some (.str (tx nm)), some (.ref lp), some (.ref lw), some (.str (tx (cd o))), v5, v6, v7, some (.str (tx W)), none, none] ∧ Same H4 H', ?_, ?_⟩
      · refine ⟨_, rfl, W, rfl, asc_all hWa, ?_⟩
        refine comp_filterB (fun c => !decide (c = 32)) (by omega) (fun c R hR => ?_) (fun c R hR => ⟨_, rfl, hR⟩) (fun D hD => ?_)
        · refine ⟨_, rfl, rfl, _, rfl, ?_⟩
          have e : decide (V.str (tx [c]) = V.str (tx [32])) = decide (c = 32) := decide_eq_decide.mpr ⟨fun z => by injection z with z; have := tx_inj z; simpa using this, fun z => by rw [z]⟩
          rw [e]
          exact hR
        refine ⟨D, _, rfl, .inl (SqL.of upd_same), rfl, _, rfl, ?_⟩
        refine ite2 (fun h => ?_) (fun h => ?_)
        · have h' : W.filter (fun c => !decide (c = 32)) = [] := by
            have := of_decide_eq_true h
            injection this with this
            unfold strV at this
            rw [List.length_map, List.length_map] at this
            exact List.eq_nil_of_length_eq_zero (by omega)
          refine ⟨?_, Same.upd hD⟩
          rw [hcd, if_pos h']
          rfl
        · refine ⟨?_, Same.upd hD⟩
          rw [hcd, if_neg]
          intro z
          rw [z] at h
          exact h (decide_eq_true rfl)
      rintro σ' H5 ⟨rfl, s5⟩
      generalize hws : wrs (ts.map (M5.readM (M5.baseOf nm))) = ws at hps hwok hwl ho
      have hw200 : ∀ x ∈ ws, x.length ≤ 200 := fun x hx => by have := (hwok x hx).1; omega
      have hwok2 : ∀ x ∈ ws, x.length ≤ 200 ∧ Steps nm.length x := fun x hx => ⟨hw200 x hx, (hwok x hx).2⟩
      have hW5 : WordsAt H5 lw ws := ⟨ps, s5 _ _ hw3, hps.same s5⟩
      refine ⟨_, rfl, _, rfl, _, rfl, nm, W, lw, ws, o, rfl, hlow, by omega, hWa, hRL, hW5, hw200, ho, fun H6 s6 => ?_⟩
      refine ⟨_, rfl, rfl, _, rfl, iteNS rfl ?_⟩
      refine ⟨_, rfl, lw, _, rfl, .inl (SqL.of (s6 _ _ (s5 _ _ hw3))), fun lh hlh => ?_⟩
      have s7 := Same.upd (o := .lst (ps.map V.ref)) hlh
      have hh7 : upd H6 lh (.lst (ps.map V.ref)) lh = some (.lst (ps.map V.ref)) := upd_same
      have s47 := s5.trans (s6.trans s7)
      generalize upd H6 lh (.lst (ps.map V.ref)) = H7 at s7 hh7 s47 ⊢
      have hps7 := hps.same s47
      have hw7 := s47 _ _ hw3
      refine ⟨_, rfl, _, rfl, nm, lh, ws, rfl, hlow, ⟨ps, hh7, hps7⟩, hwl, hwok2, fun H8 s8 => ?_⟩
      have ta := told_asc hlow hwok
      have tl := told_len hwl hwok
      have tr := rl_shown hlow hnd hwok
      refine ⟨fun σ' H' => σ' = [some (.ref a), some (.str (tx nm)), some (.ref lp), some (.ref lw), some (.str (tx (cd o))), v5, v6, v7, some (.str (tx W)), some (.ref lh), some (.str (tx (joinL [44, 32] (ws.map (shw nm)))))] ∧ Same H8 H', ?_, ?_⟩
      · refine ⟨_, rfl, _, _, _, _, rfl, .str _, kit_self _ _, true, rfl, iteF ?_⟩
        have hq2 : SqL K H8 lw (ps.map V.ref) := SqL.of (s8 _ _ hw7)
        have hps8 := hps7.same s8
        have hpl : ps.length = ws.length := hps.1
        refine ⟨_, rfl, rfl, _, rfl, lw, rfl, ⟨_, hq2⟩, ?_⟩
        refine ⟨fun i m ys H2 => m = ws.length - i ∧ i ≤ ws.length ∧ H2 = H8 ∧ ys = strV ((ws.take i).map (shw nm)), ⟨ws.length, rfl, Nat.zero_le _, rfl, rfl⟩, ?_⟩
        rintro i m2 ys H9 ⟨rfl, hi, rfl, rfl⟩
        have hyl : (strV ((ws.take i).map (shw nm))).length = i := by
          unfold strV
          rw [List.length_map, List.length_map, List.length_take]
          omega
        by_cases hlt : i < ws.length
        · refine .inr ⟨itl_go hq2 i (by rw [List.length_map]; omega), by rw [hyl]; exact Nat.lt_of_lt_of_le (show i < 64 by omega) (by decide), fun x H3 y => ?_⟩
          obtain ⟨rfl, hx⟩ := itl_yld hq2 i x H3 (by rw [List.length_map]; omega) y
          have hp : ps[i]? = some (ps[i]'(by omega)) := List.getElem?_eq_getElem (by omega)
          have hw : ws[i]? = some (ws[i]'(by omega)) := List.getElem?_eq_getElem (by omega)
          rw [List.getElem?_map, hp] at hx
          have ex : V.ref (ps[i]'(by omega)) = x := Option.some.inj hx
          subst ex
          have hh := hwok _ (List.mem_of_getElem? hw)
          refine ⟨_, rfl, _, rfl, nm, _, ws[i]'(by omega), rfl, hlow, hps8.2 i _ _ hp hw, by omega, hh.2, ?_⟩
          refine ⟨ws.length - (i + 1), by omega, rfl, hlt, rfl, ?_⟩
          rw [List.take_succ, hw]
          unfold strV
          rw [List.map_append, List.map_append]
          rfl
        · have e : i = ws.length := by omega
          subst e
          refine .inl ⟨by have e : (ps.map V.ref).length = ws.length := by rw [List.length_map]; omega
                          rw [← e]; exact itl_stop hq2, by rw [hyl]; exact Nat.le_trans hwl (by decide), fun D hD => ?_⟩
          rw [List.take_length]
          refine ⟨D, [44, 32], ws.map (shw nm), rfl, rfl, SqL.of upd_same, ?_, ?_⟩
          · have := told_flat hwl hwok
            rw [List.length_map]
            show _ + ws.length * 2 ≤ 1000000
            omega
          · exact ⟨rfl, _, rfl, iteNS rfl ⟨rfl, Same.upd hD⟩⟩
      rintro σ' H9 ⟨rfl, s9⟩
      have hh9 := s9 _ _ (s8 _ _ hh7)
      have hw9 := s9 _ _ (s8 _ _ hw7)
      have hps9 := hps7.same (s8.trans s9)
      refine ⟨fun σ' H' => σ' = [some (.ref a), some (.str (tx nm)), some (.ref lp), some (.ref lw), some (.str (tx (cd o))), v5, v6, v7, some (.str (tx W)), some (.ref lh), some (.str (tx (joinL [44, 32] (ws.map (shw nm)))))] ∧ Same H9 H', ?_, ?_⟩
      · refine ⟨_, rfl, _, rfl, _, rfl, nm, _, lw, ws, .inl ws, rfl, hlow, by omega, ta, tr, ⟨ps, hw9, hps9⟩, hw200, (fun x hx => by cases hx; rfl), fun H10 s10 => ?_⟩
        refine ⟨rfl, _, rfl, iteNS rfl ?_⟩
        refine ⟨_, rfl, _, rfl, nm, lh, ws, rfl, hlow, ⟨ps, s10 _ _ hh9, hps9.same s10⟩, hwl, hwok2, fun H11 s11 => ?_⟩
        exact ⟨_, rfl, rfl, _, rfl, iteNS rfl ⟨rfl, s10.trans s11⟩⟩
      rintro σ' H10 ⟨rfl, s10⟩
      refine ⟨_, rfl, _, rfl, nm, _, .inl ws, rfl, hlow, by omega, ta, tr, fun x hx l H11 s11 hn11 hW11 => ?_, (fun z => by cases z), (fun z => by cases z)⟩
      obtain ⟨qs, hl11, hqs⟩ := hW11
      refine ⟨.inl ⟨rfl, _, SqL.of hl11⟩, l, _, rfl, rfl, hl11, ?_⟩
      have hh11 := s11 _ _ (s10 _ _ hh9)
      have hw11 := s11 _ _ (s10 _ _ hw9)
      have hh12 : upd H11 l (.lst []) lh = some (.lst (ps.map V.ref)) := by rw [upd_ne (ne_of_none (s10 _ _ hh9) hn11)]; exact hh11
      have hw12 : upd H11 l (.lst []) lw = some (.lst (ps.map V.ref)) := by rw [upd_ne (ne_of_none (s10 _ _ hw9) hn11)]; exact hw11
      have hps12 := tups_lst (o := .lst []) (hps9.same (s10.trans s11)) hl11
      generalize upd H11 l (.lst []) = H12 at hh12 hw12 hps12 ⊢
      refine ⟨_, rfl, _, rfl, lh, lw, ws, ws, rfl, rfl, ⟨ps, hh12, hps12⟩, ⟨ps, hw12, hps12⟩, true, ?_, iteT ?_⟩
      · rw [decide_eq_true rfl]
      refine ⟨_, rfl, _, rfl, _, rfl, nm, _, lw, ws, .inl ws, rfl, hlow, by omega, ta, tr, ⟨ps, hw12, hps12⟩, hw200, (fun x hx => by cases hx; rfl), fun H13 s13 => ?_⟩
      refine ⟨rfl, ?_⟩
      rw [show decide (V.str (tx (cd (.inl ws))) = V.str (tx [119, 111, 114, 100])) = true from decide_eq_true rfl]
      exact k _
end
theorem all_mk {l : PySem.W.OpenLaw} {w : World} {K : PySem.W.Frag} {h : Heap} {mg : Str → Option Value} {fa : Addr} (X : K.In h) (G : h.Ns mainGlobals mg) (hfa : mg "law" = some (.ref fa))
    {C_TooLong : Addr} {C_NoWord : Addr} {C_YardError : Addr} {f1 : Addr} {od1 an1 : Option Addr} {sl1 : Array (Option Value)} {oc1 kV1 dc1 pm1 cd1 ct1 : Value} {f2 : Addr} {od2 an2 : Option Addr} {sl2 : Array (Option Value)} {oc2 kV2 dc2 pm2 cd2 ct2 : Value} {f3 : Addr} {od3 an3 : Option Addr} {sl3 : Array (Option Value)} {oc3 kV3 dc3 pm3 cd3 ct3 : Value} {f4 : Addr} {od4 an4 : Option Addr} {sl4 : Array (Option Value)} {oc4 kV4 dc4 pm4 cd4 ct4 : Value} {f5 : Addr} {od5 an5 : Option Addr} {sl5 : Array (Option Value)} {oc5 kV5 dc5 pm5 cd5 ct5 : Value} {f6 : Addr} {od6 an6 : Option Addr} {sl6 : Array (Option Value)} {oc6 kV6 dc6 pm6 cd6 ct6 : Value} {f7 : Addr} {od7 an7 : Option Addr} {sl7 : Array (Option Value)} {oc7 kV7 dc7 pm7 cd7 ct7 : Value} {f8 : Addr} {od8 an8 : Option Addr} {sl8 : Array (Option Value)} {oc8 kV8 dc8 pm8 cd8 ct8 : Value} {f9 : Addr} {od9 an9 : Option Addr} {sl9 : Array (Option Value)} {oc9 kV9 dc9 pm9 cd9 ct9 : Value} {f10 : Addr} {od10 an10 : Option Addr} {sl10 : Array (Option Value)} {oc10 kV10 dc10 pm10 cd10 ct10 : Value} {f11 : Addr} {od11 an11 : Option Addr} {sl11 : Array (Option Value)} {oc11 kV11 dc11 pm11 cd11 ct11 : Value} {f12 : Addr} {od12 an12 : Option Addr} {sl12 : Array (Option Value)} {oc12 kV12 dc12 pm12 cd12 ct12 : Value} {f13 : Addr} {od13 an13 : Option Addr} {sl13 : Array (Option Value)} {oc13 kV13 dc13 pm13 cd13 ct13 : Value} {f14 : Addr} {od14 an14 : Option Addr} {sl14 : Array (Option Value)} {oc14 kV14 dc14 pm14 cd14 ct14 : Value} {f15 : Addr} {od15 an15 : Option Addr} {sl15 : Array (Option Value)} {oc15 kV15 dc15 pm15 cd15 ct15 : Value} {f16 : Addr} {od16 an16 : Option Addr} {sl16 : Array (Option Value)} {oc16 kV16 dc16 pm16 cd16 ct16 : Value} {f17 : Addr} {od17 an17 : Option Addr} {sl17 : Array (Option Value)} {oc17 kV17 dc17 pm17 cd17 ct17 : Value} {f18 : Addr} {od18 an18 : Option Addr} {sl18 : Array (Option Value)} {oc18 kV18 dc18 pm18 cd18 ct18 : Value} {f19 : Addr} {od19 an19 : Option Addr} {sl19 : Array (Option Value)} {oc19 kV19 dc19 pm19 cd19 ct19 : Value} {f20 : Addr} {od20 an20 : Option Addr} {sl20 : Array (Option Value)} {oc20 kV20 dc20 pm20 cd20 ct20 : Value} {f21 : Addr} {od21 an21 : Option Addr} {sl21 : Array (Option Value)} {oc21 kV21 dc21 pm21 cd21 ct21 : Value} {f22 : Addr} {od22 an22 : Option Addr} {sl22 : Array (Option Value)} {oc22 kV22 dc22 pm22 cd22 ct22 : Value} {f23 : Addr} {od23 an23 : Option Addr} {sl23 : Array (Option Value)} {oc23 kV23 dc23 pm23 cd23 ct23 : Value} {f24 : Addr} {od24 an24 : Option Addr} {sl24 : Array (Option Value)} {oc24 kV24 dc24 pm24 cd24 ct24 : Value} {f25 : Addr} {od25 an25 : Option Addr} {sl25 : Array (Option Value)} {oc25 kV25 dc25 pm25 cd25 ct25 : Value} {f26 : Addr} {od26 an26 : Option Addr} {sl26 : Array (Option Value)} {oc26 kV26 dc26 pm26 cd26 ct26 : Value} {f27 : Addr} {od27 an27 : Option Addr} {sl27 : Array (Option Value)} {oc27 kV27 dc27 pm27 cd27 ct27 : Value} {tk1 : Tok} {tk2 : Tok} {tk3 : Tok}
    (y_TooLong : PySem.W.nsIn K mainGlobals "TooLong" = some (some (.ref C_TooLong)))
    (y_NoWord : PySem.W.nsIn K mainGlobals "NoWord" = some (some (.ref C_NoWord)))
    (y_YardError : PySem.W.nsIn K mainGlobals "YardError" = some (some (.ref C_YardError)))
    (a1 : PySem.W.nsIn K mainGlobals "back" = some (some (.ref f1))) (l1 : K.lookup f1 = some ⟨oc1, od1, .func (PySem.W.fnOf "back" "back" (defArgs s_back) (defBody s_back) (defScope s_back) .none kV1 dc1 pm1 an1 cd1 ct1), sl1⟩) (c1 : PySem.W.codeIn K cd1 "back" = true) (k1 : PySem.W.keepIn K (.ref f1) = true)
    (a2 : PySem.W.nsIn K mainGlobals "raised" = some (some (.ref f2))) (l2 : K.lookup f2 = some ⟨oc2, od2, .func (PySem.W.fnOf "raised" "raised" (defArgs s_raised) (defBody s_raised) (defScope s_raised) .none kV2 dc2 pm2 an2 cd2 ct2), sl2⟩) (c2 : PySem.W.codeIn K cd2 "raised" = true) (k2 : PySem.W.keepIn K (.ref f2) = true)
    (a3 : PySem.W.nsIn K mainGlobals "read" = some (some (.ref f3))) (l3 : K.lookup f3 = some ⟨oc3, od3, .func (PySem.W.fnOf "read" "read" (defArgs s_read) (defBody s_read) (defScope s_read) .none kV3 dc3 pm3 an3 cd3 ct3), sl3⟩) (c3 : PySem.W.codeIn K cd3 "read" = true) (k3 : PySem.W.keepIn K (.ref f3) = true)
    (a4 : PySem.W.nsIn K mainGlobals "read_list" = some (some (.ref f4))) (l4 : K.lookup f4 = some ⟨oc4, od4, .func (PySem.W.fnOf "read_list" "read_list" (defArgs s_read_list) (defBody s_read_list) (defScope s_read_list) .none kV4 dc4 pm4 an4 cd4 ct4), sl4⟩) (c4 : PySem.W.codeIn K cd4 "read_list" = true) (k4 : PySem.W.keepIn K (.ref f4) = true)
    (a5 : PySem.W.nsIn K mainGlobals "shown" = some (some (.ref f5))) (l5 : K.lookup f5 = some ⟨oc5, od5, .func (PySem.W.fnOf "shown" "shown" (defArgs s_shown) (defBody s_shown) (defScope s_shown) .none kV5 dc5 pm5 an5 cd5 ct5), sl5⟩) (c5 : PySem.W.codeIn K cd5 "shown" = true) (k5 : PySem.W.keepIn K (.ref f5) = true)
    (a6 : PySem.W.nsIn K mainGlobals "shown_list" = some (some (.ref f6))) (l6 : K.lookup f6 = some ⟨oc6, od6, .func (PySem.W.fnOf "shown_list" "shown_list" (defArgs s_shown_list) (defBody s_shown_list) (defScope s_shown_list) .none kV6 dc6 pm6 an6 cd6 ct6), sl6⟩) (c6 : PySem.W.codeIn K cd6 "shown_list" = true) (k6 : PySem.W.keepIn K (.ref f6) = true)
    (a7 : PySem.W.nsIn K mainGlobals "bases_of" = some (some (.ref f7))) (l7 : K.lookup f7 = some ⟨oc7, od7, .func (PySem.W.fnOf "bases_of" "bases_of" (defArgs s_bases_of) (defBody s_bases_of) (defScope s_bases_of) .none kV7 dc7 pm7 an7 cd7 ct7), sl7⟩) (c7 : PySem.W.codeIn K cd7 "bases_of" = true) (k7 : PySem.W.keepIn K (.ref f7) = true)
    (a8 : PySem.W.nsIn K mainGlobals "marks_of" = some (some (.ref f8))) (l8 : K.lookup f8 = some ⟨oc8, od8, .func (PySem.W.fnOf "marks_of" "marks_of" (defArgs s_marks_of) (defBody s_marks_of) (defScope s_marks_of) .none kV8 dc8 pm8 an8 cd8 ct8), sl8⟩) (c8 : PySem.W.codeIn K cd8 "marks_of" = true) (k8 : PySem.W.keepIn K (.ref f8) = true)
    (a9 : PySem.W.nsIn K mainGlobals "power_end" = some (some (.ref f9))) (l9 : K.lookup f9 = some ⟨oc9, od9, .func (PySem.W.fnOf "power_end" "power_end" (defArgs s_power_end) (defBody s_power_end) (defScope s_power_end) .none kV9 dc9 pm9 an9 cd9 ct9), sl9⟩) (c9 : PySem.W.codeIn K cd9 "power_end" = true) (k9 : PySem.W.keepIn K (.ref f9) = true)
    (a10 : PySem.W.nsIn K mainGlobals "is_number" = some (some (.ref f10))) (l10 : K.lookup f10 = some ⟨oc10, od10, .func (PySem.W.fnOf "is_number" "is_number" (defArgs s_is_number) (defBody s_is_number) (defScope s_is_number) .none kV10 dc10 pm10 an10 cd10 ct10), sl10⟩) (c10 : PySem.W.codeIn K cd10 "is_number" = true) (k10 : PySem.W.keepIn K (.ref f10) = true)
    (a11 : PySem.W.nsIn K mainGlobals "power_of" = some (some (.ref f11))) (l11 : K.lookup f11 = some ⟨oc11, od11, .func (PySem.W.fnOf "power_of" "power_of" (defArgs s_power_of) (defBody s_power_of) (defScope s_power_of) .none kV11 dc11 pm11 an11 cd11 ct11), sl11⟩) (c11 : PySem.W.codeIn K cd11 "power_of" = true) (k11 : PySem.W.keepIn K (.ref f11) = true)
    (a12 : PySem.W.nsIn K mainGlobals "check_brackets" = some (some (.ref f12))) (l12 : K.lookup f12 = some ⟨oc12, od12, .func (PySem.W.fnOf "check_brackets" "check_brackets" (defArgs s_check_brackets) (defBody s_check_brackets) (defScope s_check_brackets) .none kV12 dc12 pm12 an12 cd12 ct12), sl12⟩) (c12 : PySem.W.codeIn K cd12 "check_brackets" = true) (k12 : PySem.W.keepIn K (.ref f12) = true)
    (a13 : PySem.W.nsIn K mainGlobals "word_of" = some (some (.ref f13))) (l13 : K.lookup f13 = some ⟨oc13, od13, .func (PySem.W.fnOf "word_of" "word_of" (defArgs s_word_of) (defBody s_word_of) (defScope s_word_of) .none kV13 dc13 pm13 an13 cd13 ct13), sl13⟩) (c13 : PySem.W.codeIn K cd13 "word_of" = true) (k13 : PySem.W.keepIn K (.ref f13) = true)
    (a14 : PySem.W.nsIn K mainGlobals "with_piece" = some (some (.ref f14))) (l14 : K.lookup f14 = some ⟨oc14, od14, .func (PySem.W.fnOf "with_piece" "with_piece" (defArgs s_with_piece) (defBody s_with_piece) (defScope s_with_piece) .none kV14 dc14 pm14 an14 cd14 ct14), sl14⟩) (c14 : PySem.W.codeIn K cd14 "with_piece" = true) (k14 : PySem.W.keepIn K (.ref f14) = true)
    (a15 : PySem.W.nsIn K mainGlobals "run_end" = some (some (.ref f15))) (l15 : K.lookup f15 = some ⟨oc15, od15, .func (PySem.W.fnOf "run_end" "run_end" (defArgs s_run_end) (defBody s_run_end) (defScope s_run_end) .none kV15 dc15 pm15 an15 cd15 ct15), sl15⟩) (c15 : PySem.W.codeIn K cd15 "run_end" = true) (k15 : PySem.W.keepIn K (.ref f15) = true)
    (a16 : PySem.W.nsIn K mainGlobals "shown_run" = some (some (.ref f16))) (l16 : K.lookup f16 = some ⟨oc16, od16, .func (PySem.W.fnOf "shown_run" "shown_run" (defArgs s_shown_run) (defBody s_shown_run) (defScope s_shown_run) .none kV16 dc16 pm16 an16 cd16 ct16), sl16⟩) (c16 : PySem.W.codeIn K cd16 "shown_run" = true) (k16 : PySem.W.keepIn K (.ref f16) = true)
    (a17 : PySem.W.nsIn K mainGlobals "_law_at" = some (some (.ref f17))) (l17 : K.lookup f17 = some ⟨oc17, od17, .func (PySem.W.fnOf "_law_at" "_law_at" (defArgs s__law_at) (defBody s__law_at) (defScope s__law_at) .none kV17 dc17 pm17 an17 cd17 ct17), sl17⟩) (c17 : PySem.W.codeIn K cd17 "_law_at" = true) (k17 : PySem.W.keepIn K (.ref f17) = true)
    (a18 : PySem.W.nsIn K mainGlobals "_law_mix" = some (some (.ref f18))) (l18 : K.lookup f18 = some ⟨oc18, od18, .func (PySem.W.fnOf "_law_mix" "_law_mix" (defArgs s__law_mix) (defBody s__law_mix) (defScope s__law_mix) .none kV18 dc18 pm18 an18 cd18 ct18), sl18⟩) (c18 : PySem.W.codeIn K cd18 "_law_mix" = true) (k18 : PySem.W.keepIn K (.ref f18) = true)
    (a19 : PySem.W.nsIn K mainGlobals "_law_names" = some (some (.ref f19))) (l19 : K.lookup f19 = some ⟨oc19, od19, .func (PySem.W.fnOf "_law_names" "_law_names" (defArgs s__law_names) (defBody s__law_names) (defScope s__law_names) .none kV19 dc19 pm19 an19 cd19 ct19), sl19⟩) (c19 : PySem.W.codeIn K cd19 "_law_names" = true) (k19 : PySem.W.keepIn K (.ref f19) = true)
    (a20 : PySem.W.nsIn K mainGlobals "_law_step" = some (some (.ref f20))) (l20 : K.lookup f20 = some ⟨oc20, od20, .func (PySem.W.fnOf "_law_step" "_law_step" (defArgs s__law_step) (defBody s__law_step) (defScope s__law_step) .none kV20 dc20 pm20 an20 cd20 ct20), sl20⟩) (c20 : PySem.W.codeIn K cd20 "_law_step" = true) (k20 : PySem.W.keepIn K (.ref f20) = true)
    (a21 : PySem.W.nsIn K mainGlobals "_law_sign" = some (some (.ref f21))) (l21 : K.lookup f21 = some ⟨oc21, od21, .func (PySem.W.fnOf "_law_sign" "_law_sign" (defArgs s__law_sign) (defBody s__law_sign) (defScope s__law_sign) .none kV21 dc21 pm21 an21 cd21 ct21), sl21⟩) (c21 : PySem.W.codeIn K cd21 "_law_sign" = true) (k21 : PySem.W.keepIn K (.ref f21) = true)
    (a22 : PySem.W.nsIn K mainGlobals "_law_text" = some (some (.ref f22))) (l22 : K.lookup f22 = some ⟨oc22, od22, .func (PySem.W.fnOf "_law_text" "_law_text" (defArgs s__law_text) (defBody s__law_text) (defScope s__law_text) .none kV22 dc22 pm22 an22 cd22 ct22), sl22⟩) (c22 : PySem.W.codeIn K cd22 "_law_text" = true) (k22 : PySem.W.keepIn K (.ref f22) = true)
    (a23 : PySem.W.nsIn K mainGlobals "_law_bad" = some (some (.ref f23))) (l23 : K.lookup f23 = some ⟨oc23, od23, .func (PySem.W.fnOf "_law_bad" "_law_bad" (defArgs s__law_bad) (defBody s__law_bad) (defScope s__law_bad) .none kV23 dc23 pm23 an23 cd23 ct23), sl23⟩) (c23 : PySem.W.codeIn K cd23 "_law_bad" = true) (k23 : PySem.W.keepIn K (.ref f23) = true)
    (a24 : PySem.W.nsIn K mainGlobals "_law_item" = some (some (.ref f24))) (l24 : K.lookup f24 = some ⟨oc24, od24, .func (PySem.W.fnOf "_law_item" "_law_item" (defArgs s__law_item) (defBody s__law_item) (defScope s__law_item) .none kV24 dc24 pm24 an24 cd24 ct24), sl24⟩) (c24 : PySem.W.codeIn K cd24 "_law_item" = true) (k24 : PySem.W.keepIn K (.ref f24) = true)
    (a25 : PySem.W.nsIn K mainGlobals "_law_same" = some (some (.ref f25))) (l25 : K.lookup f25 = some ⟨oc25, od25, .func (PySem.W.fnOf "_law_same" "_law_same" (defArgs s__law_same) (defBody s__law_same) (defScope s__law_same) .none kV25 dc25 pm25 an25 cd25 ct25), sl25⟩) (c25 : PySem.W.codeIn K cd25 "_law_same" = true) (k25 : PySem.W.keepIn K (.ref f25) = true)
    (a26 : PySem.W.nsIn K mainGlobals "_law_read" = some (some (.ref f26))) (l26 : K.lookup f26 = some ⟨oc26, od26, .func (PySem.W.fnOf "_law_read" "_law_read" (defArgs s__law_read) (defBody s__law_read) (defScope s__law_read) .none kV26 dc26 pm26 an26 cd26 ct26), sl26⟩) (c26 : PySem.W.codeIn K cd26 "_law_read" = true) (k26 : PySem.W.keepIn K (.ref f26) = true)
    (a27 : PySem.W.nsIn K mainGlobals "law" = some (some (.ref f27))) (l27 : K.lookup f27 = some ⟨oc27, od27, .func (PySem.W.fnOf "law" "law" (defArgs s_law) (defBody s_law) (defScope s_law) .none kV27 dc27 pm27 an27 cd27 ct27), sl27⟩) (c27 : PySem.W.codeIn K cd27 "law" = true) (k27 : PySem.W.keepIn K (.ref f27) = true)
    (g1 : PySem.W.nsIn K mainGlobals "MOST_STEPS" = some (some (.int 200 tk1)))
    (g2 : PySem.W.nsIn K mainGlobals "MOST_FIGURES" = some (some (.int 3 tk2)))
    (g3 : PySem.W.nsIn K mainGlobals "FIGURES" = some (some (.str "0123456789" tk3)))
    (w_x_NoWord : PySem.W.excIn K C_NoWord mroV "ValueError.__new__" = true)
    (w_x_TooLong : PySem.W.excIn K C_TooLong mroV "ValueError.__new__" = true)
    (w_e_NN : PySem.W.exmOne K (.ref C_NoWord) (.ref C_NoWord) = some true)
    (w_e_TN : PySem.W.exmOne K (.ref C_TooLong) (.ref C_NoWord) = some false)
    (w_e_TT : PySem.W.exmOne K (.ref C_TooLong) (.ref C_TooLong) = some true)
    (z1 : PySem.W.nsIn K mainGlobals "all" = some none)
    (z2 : PySem.W.nsIn K mainGlobals "range" = some none)
    (z3 : PySem.W.nsIn K mainGlobals "len" = some none)
    (z4 : PySem.W.nsIn K mainGlobals "tuple" = some none)
    (z5 : PySem.W.nsIn K mainGlobals "isinstance" = some none)
    (z6 : PySem.W.nsIn K mainGlobals "str" = some none)
    (z7 : PySem.W.nsIn K mainGlobals "abs" = some none)
    (z8 : PySem.W.nsIn K mainGlobals "int" = some none)
    (z9 : PySem.W.nsIn K mainGlobals "bool" = some none)
    (z10 : PySem.W.nsIn K mainGlobals "list" = some none)
    (z11 : PySem.W.nsIn K mainGlobals "reversed" = some none)
    (z12 : PySem.W.nsIn K mainGlobals "enumerate" = some none)
    (z13 : PySem.W.nsIn K mainGlobals "zip" = some none)
    : ∃ fd : FuncData, (∀ (s : Shared) (v : Value), BindsTo s fd ⟨[v], []⟩ [("_law_script", v)]) ∧ ∀ base : Heap, K.In base → base.Ns mainGlobals mg → FnOk l.prog w K mg base (CXw l.prog w) 8 fa fd ["_law_script"] (spLaw K) := by
  have e := hfa.symm.trans (PySem.W.mg_of X G a27)
  cases e
  have F1 := fun_mk (st := s_back) l1 c1 k1
  have D1 : Def K mg "back" s_back ["word"] _ _ := ⟨F1, PySem.W.mg_of X G a1, F1.binds (ps := ["word"]) fun _ _ _ _ _ _ us hl => match us, hl with | [_], _ => rfl⟩
  have F2 := fun_mk (st := s_raised) l2 c2 k2
  have D2 : Def K mg "raised" s_raised ["word", "power"] _ _ := ⟨F2, PySem.W.mg_of X G a2, F2.binds (ps := ["word", "power"]) fun _ _ _ _ _ _ us hl => match us, hl with | [_, _], _ => rfl⟩
  have F3 := fun_mk (st := s_read) l3 c3 k3
  have D3 : Def K mg "read" s_read ["names", "text"] _ _ := ⟨F3, PySem.W.mg_of X G a3, F3.binds (ps := ["names", "text"]) fun _ _ _ _ _ _ us hl => match us, hl with | [_, _], _ => rfl⟩
  have F4 := fun_mk (st := s_read_list) l4 c4 k4
  have D4 : Def K mg "read_list" s_read_list ["names", "text"] _ _ := ⟨F4, PySem.W.mg_of X G a4, F4.binds (ps := ["names", "text"]) fun _ _ _ _ _ _ us hl => match us, hl with | [_, _], _ => rfl⟩
  have F5 := fun_mk (st := s_shown) l5 c5 k5
  have D5 : Def K mg "shown" s_shown ["names", "word"] _ _ := ⟨F5, PySem.W.mg_of X G a5, F5.binds (ps := ["names", "word"]) fun _ _ _ _ _ _ us hl => match us, hl with | [_, _], _ => rfl⟩
  have F6 := fun_mk (st := s_shown_list) l6 c6 k6
  have D6 : Def K mg "shown_list" s_shown_list ["names", "words"] _ _ := ⟨F6, PySem.W.mg_of X G a6, F6.binds (ps := ["names", "words"]) fun _ _ _ _ _ _ us hl => match us, hl with | [_, _], _ => rfl⟩
  have F7 := fun_mk (st := s_bases_of) l7 c7 k7
  have D7 : Def K mg "bases_of" s_bases_of ["names"] _ _ := ⟨F7, PySem.W.mg_of X G a7, F7.binds (ps := ["names"]) fun _ _ _ _ _ _ us hl => match us, hl with | [_], _ => rfl⟩
  have F8 := fun_mk (st := s_marks_of) l8 c8 k8
  have D8 : Def K mg "marks_of" s_marks_of ["bases", "text"] _ _ := ⟨F8, PySem.W.mg_of X G a8, F8.binds (ps := ["bases", "text"]) fun _ _ _ _ _ _ us hl => match us, hl with | [_, _], _ => rfl⟩
  have F9 := fun_mk (st := s_power_end) l9 c9 k9
  have D9 : Def K mg "power_end" s_power_end ["text", "at"] _ _ := ⟨F9, PySem.W.mg_of X G a9, F9.binds (ps := ["text", "at"]) fun _ _ _ _ _ _ us hl => match us, hl with | [_, _], _ => rfl⟩
  have F10 := fun_mk (st := s_is_number) l10 c10 k10
  have D10 : Def K mg "is_number" s_is_number ["text"] _ _ := ⟨F10, PySem.W.mg_of X G a10, F10.binds (ps := ["text"]) fun _ _ _ _ _ _ us hl => match us, hl with | [_], _ => rfl⟩
  have F11 := fun_mk (st := s_power_of) l11 c11 k11
  have D11 : Def K mg "power_of" s_power_of ["written"] _ _ := ⟨F11, PySem.W.mg_of X G a11, F11.binds (ps := ["written"]) fun _ _ _ _ _ _ us hl => match us, hl with | [_], _ => rfl⟩
  have F12 := fun_mk (st := s_check_brackets) l12 c12 k12
  have D12 : Def K mg "check_brackets" s_check_brackets ["marks"] _ _ := ⟨F12, PySem.W.mg_of X G a12, F12.binds (ps := ["marks"]) fun _ _ _ _ _ _ us hl => match us, hl with | [_], _ => rfl⟩
  have F13 := fun_mk (st := s_word_of) l13 c13 k13
  have D13 : Def K mg "word_of" s_word_of ["bases", "marks"] _ _ := ⟨F13, PySem.W.mg_of X G a13, F13.binds (ps := ["bases", "marks"]) fun _ _ _ _ _ _ us hl => match us, hl with | [_, _], _ => rfl⟩
  have F14 := fun_mk (st := s_with_piece) l14 c14 k14
  have D14 : Def K mg "with_piece" s_with_piece ["word", "base", "power"] _ _ := ⟨F14, PySem.W.mg_of X G a14, F14.binds (ps := ["word", "base", "power"]) fun _ _ _ _ _ _ us hl => match us, hl with | [_, _, _], _ => rfl⟩
  have F15 := fun_mk (st := s_run_end) l15 c15 k15
  have D15 : Def K mg "run_end" s_run_end ["word", "at"] _ _ := ⟨F15, PySem.W.mg_of X G a15, F15.binds (ps := ["word", "at"]) fun _ _ _ _ _ _ us hl => match us, hl with | [_, _], _ => rfl⟩
  have F16 := fun_mk (st := s_shown_run) l16 c16 k16
  have D16 : Def K mg "shown_run" s_shown_run ["names", "step", "many"] _ _ := ⟨F16, PySem.W.mg_of X G a16, F16.binds (ps := ["names", "step", "many"]) fun _ _ _ _ _ _ us hl => match us, hl with | [_, _, _], _ => rfl⟩
  have F17 := fun_mk (st := s__law_at) l17 c17 k17
  have D17 : Def K mg "_law_at" s__law_at ["_law_script", "_law_k"] _ _ := ⟨F17, PySem.W.mg_of X G a17, F17.binds (ps := ["_law_script", "_law_k"]) fun _ _ _ _ _ _ us hl => match us, hl with | [_, _], _ => rfl⟩
  have F18 := fun_mk (st := s__law_mix) l18 c18 k18
  have D18 : Def K mg "_law_mix" s__law_mix ["_law_number", "_law_place"] _ _ := ⟨F18, PySem.W.mg_of X G a18, F18.binds (ps := ["_law_number", "_law_place"]) fun _ _ _ _ _ _ us hl => match us, hl with | [_, _], _ => rfl⟩
  have F19 := fun_mk (st := s__law_names) l19 c19 k19
  have D19 : Def K mg "_law_names" s__law_names ["_law_number", "_law_many"] _ _ := ⟨F19, PySem.W.mg_of X G a19, F19.binds (ps := ["_law_number", "_law_many"]) fun _ _ _ _ _ _ us hl => match us, hl with | [_, _], _ => rfl⟩
  have F20 := fun_mk (st := s__law_step) l20 c20 k20
  have D20 : Def K mg "_law_step" s__law_step ["_law_names_here", "_law_number"] _ _ := ⟨F20, PySem.W.mg_of X G a20, F20.binds (ps := ["_law_names_here", "_law_number"]) fun _ _ _ _ _ _ us hl => match us, hl with | [_, _], _ => rfl⟩
  have F21 := fun_mk (st := s__law_sign) l21 c21 k21
  have D21 : Def K mg "_law_sign" s__law_sign ["_law_names_here", "_law_step_here"] _ _ := ⟨F21, PySem.W.mg_of X G a21, F21.binds (ps := ["_law_names_here", "_law_step_here"]) fun _ _ _ _ _ _ us hl => match us, hl with | [_, _], _ => rfl⟩
  have F22 := fun_mk (st := s__law_text) l22 c22 k22
  have D22 : Def K mg "_law_text" s__law_text ["_law_names_here", "_law_word"] _ _ := ⟨F22, PySem.W.mg_of X G a22, F22.binds (ps := ["_law_names_here", "_law_word"]) fun _ _ _ _ _ _ us hl => match us, hl with | [_, _], _ => rfl⟩
  have F23 := fun_mk (st := s__law_bad) l23 c23 k23
  have D23 : Def K mg "_law_bad" s__law_bad ["_law_sign_here", "_law_way"] _ _ := ⟨F23, PySem.W.mg_of X G a23, F23.binds (ps := ["_law_sign_here", "_law_way"]) fun _ _ _ _ _ _ us hl => match us, hl with | [_, _], _ => rfl⟩
  have F24 := fun_mk (st := s__law_item) l24 c24 k24
  have D24 : Def K mg "_law_item" s__law_item ["_law_names_here", "_law_number"] _ _ := ⟨F24, PySem.W.mg_of X G a24, F24.binds (ps := ["_law_names_here", "_law_number"]) fun _ _ _ _ _ _ us hl => match us, hl with | [_, _], _ => rfl⟩
  have F25 := fun_mk (st := s__law_same) l25 c25 k25
  have D25 : Def K mg "_law_same" s__law_same ["_law_found", "_law_words"] _ _ := ⟨F25, PySem.W.mg_of X G a25, F25.binds (ps := ["_law_found", "_law_words"]) fun _ _ _ _ _ _ us hl => match us, hl with | [_, _], _ => rfl⟩
  have F26 := fun_mk (st := s__law_read) l26 c26 k26
  have D26 : Def K mg "_law_read" s__law_read ["_law_names_here", "_law_written", "_law_words"] _ _ := ⟨F26, PySem.W.mg_of X G a26, F26.binds (ps := ["_law_names_here", "_law_written", "_law_words"]) fun _ _ _ _ _ _ us hl => match us, hl with | [_, _, _], _ => rfl⟩
  have F27 := fun_mk (st := s_law) l27 c27 k27
  have D27 : Def K mg "law" s_law ["_law_script"] _ _ := ⟨F27, PySem.W.mg_of X G a27, F27.binds (ps := ["_law_script"]) fun _ _ _ _ _ _ us hl => match us, hl with | [_], _ => rfl⟩
  have T : Txt K mg ⟨f1, PySem.W.fnOf "back" "back" (defArgs s_back) (defBody s_back) (defScope s_back) .none kV1 dc1 pm1 an1 cd1 ct1, f2, PySem.W.fnOf "raised" "raised" (defArgs s_raised) (defBody s_raised) (defScope s_raised) .none kV2 dc2 pm2 an2 cd2 ct2, f3, PySem.W.fnOf "read" "read" (defArgs s_read) (defBody s_read) (defScope s_read) .none kV3 dc3 pm3 an3 cd3 ct3, f4, PySem.W.fnOf "read_list" "read_list" (defArgs s_read_list) (defBody s_read_list) (defScope s_read_list) .none kV4 dc4 pm4 an4 cd4 ct4, f5, PySem.W.fnOf "shown" "shown" (defArgs s_shown) (defBody s_shown) (defScope s_shown) .none kV5 dc5 pm5 an5 cd5 ct5, f6, PySem.W.fnOf "shown_list" "shown_list" (defArgs s_shown_list) (defBody s_shown_list) (defScope s_shown_list) .none kV6 dc6 pm6 an6 cd6 ct6, f7, PySem.W.fnOf "bases_of" "bases_of" (defArgs s_bases_of) (defBody s_bases_of) (defScope s_bases_of) .none kV7 dc7 pm7 an7 cd7 ct7, f8, PySem.W.fnOf "marks_of" "marks_of" (defArgs s_marks_of) (defBody s_marks_of) (defScope s_marks_of) .none kV8 dc8 pm8 an8 cd8 ct8, f9, PySem.W.fnOf "power_end" "power_end" (defArgs s_power_end) (defBody s_power_end) (defScope s_power_end) .none kV9 dc9 pm9 an9 cd9 ct9, f10, PySem.W.fnOf "is_number" "is_number" (defArgs s_is_number) (defBody s_is_number) (defScope s_is_number) .none kV10 dc10 pm10 an10 cd10 ct10, f11, PySem.W.fnOf "power_of" "power_of" (defArgs s_power_of) (defBody s_power_of) (defScope s_power_of) .none kV11 dc11 pm11 an11 cd11 ct11, f12, PySem.W.fnOf "check_brackets" "check_brackets" (defArgs s_check_brackets) (defBody s_check_brackets) (defScope s_check_brackets) .none kV12 dc12 pm12 an12 cd12 ct12, f13, PySem.W.fnOf "word_of" "word_of" (defArgs s_word_of) (defBody s_word_of) (defScope s_word_of) .none kV13 dc13 pm13 an13 cd13 ct13, f14, PySem.W.fnOf "with_piece" "with_piece" (defArgs s_with_piece) (defBody s_with_piece) (defScope s_with_piece) .none kV14 dc14 pm14 an14 cd14 ct14, f15, PySem.W.fnOf "run_end" "run_end" (defArgs s_run_end) (defBody s_run_end) (defScope s_run_end) .none kV15 dc15 pm15 an15 cd15 ct15, f16, PySem.W.fnOf "shown_run" "shown_run" (defArgs s_shown_run) (defBody s_shown_run) (defScope s_shown_run) .none kV16 dc16 pm16 an16 cd16 ct16, f17, PySem.W.fnOf "_law_at" "_law_at" (defArgs s__law_at) (defBody s__law_at) (defScope s__law_at) .none kV17 dc17 pm17 an17 cd17 ct17, f18, PySem.W.fnOf "_law_mix" "_law_mix" (defArgs s__law_mix) (defBody s__law_mix) (defScope s__law_mix) .none kV18 dc18 pm18 an18 cd18 ct18, f19, PySem.W.fnOf "_law_names" "_law_names" (defArgs s__law_names) (defBody s__law_names) (defScope s__law_names) .none kV19 dc19 pm19 an19 cd19 ct19, f20, PySem.W.fnOf "_law_step" "_law_step" (defArgs s__law_step) (defBody s__law_step) (defScope s__law_step) .none kV20 dc20 pm20 an20 cd20 ct20, f21, PySem.W.fnOf "_law_sign" "_law_sign" (defArgs s__law_sign) (defBody s__law_sign) (defScope s__law_sign) .none kV21 dc21 pm21 an21 cd21 ct21, f22, PySem.W.fnOf "_law_text" "_law_text" (defArgs s__law_text) (defBody s__law_text) (defScope s__law_text) .none kV22 dc22 pm22 an22 cd22 ct22, f23, PySem.W.fnOf "_law_bad" "_law_bad" (defArgs s__law_bad) (defBody s__law_bad) (defScope s__law_bad) .none kV23 dc23 pm23 an23 cd23 ct23, f24, PySem.W.fnOf "_law_item" "_law_item" (defArgs s__law_item) (defBody s__law_item) (defScope s__law_item) .none kV24 dc24 pm24 an24 cd24 ct24, f25, PySem.W.fnOf "_law_same" "_law_same" (defArgs s__law_same) (defBody s__law_same) (defScope s__law_same) .none kV25 dc25 pm25 an25 cd25 ct25, f26, PySem.W.fnOf "_law_read" "_law_read" (defArgs s__law_read) (defBody s__law_read) (defScope s__law_read) .none kV26 dc26 pm26 an26 cd26 ct26, fa, PySem.W.fnOf "law" "law" (defArgs s_law) (defBody s_law) (defScope s_law) .none kV27 dc27 pm27 an27 cd27 ct27, tk1, tk2, tk3, C_YardError, C_NoWord, C_TooLong⟩ := ⟨D1, D2, D3, D4, D5, D6, D7, D8, D9, D10, D11, D12, D13, D14, D15, D16, D17, D18, D19, D20, D21, D22, D23, D24, D25, D26, D27, PySem.W.mg_of X G g1, PySem.W.mg_of X G g2, PySem.W.mg_of X G g3, PySem.W.mg_none_of X G z1, PySem.W.mg_none_of X G z2, PySem.W.mg_none_of X G z3, PySem.W.mg_none_of X G z4, PySem.W.mg_none_of X G z5, PySem.W.mg_none_of X G z6, PySem.W.mg_none_of X G z7, PySem.W.mg_none_of X G z8, PySem.W.mg_none_of X G z9, PySem.W.mg_none_of X G z10, PySem.W.mg_none_of X G z11, PySem.W.mg_none_of X G z12, PySem.W.mg_none_of X G z13, PySem.W.mg_of X G y_YardError, PySem.W.mg_of X G y_NoWord, PySem.W.mg_of X G y_TooLong, w_x_NoWord, w_x_TooLong, w_e_NN, w_e_TN, w_e_TT⟩
  exact ⟨_, fun s v => .of_eq rfl, fun base _ _ => ok_law T⟩
theorem walk {l : PySem.W.OpenLaw} {q : Program} {loose : List Str} {XP : (Str → Option Value) → Heap → Prop} {YP : World → Heap → Prop} {d : DefRec} {K : Params → PySem.W.Frag} (hn : l.most = some 63) (hdf : d.params.defaults = [])
    (hY : ∀ (w : World) (h : Heap), YP w h → (K w.params).In h)
    (F : ∀ (w : World) (mg : Str → Option Value) (fa : Addr) (h : Heap), (K w.params).In h → h.Ns mainGlobals mg → mg d.name = some (.ref fa) →
      ∃ fd : FuncData, (∀ (s : Shared) (u : Value), BindsTo s fd ⟨[u], []⟩ [("_law_script", u)]) ∧ ∀ base : Heap, (K w.params).In base → base.Ns mainGlobals mg → FnOk l.prog w (K w.params) mg base (CXw l.prog w) 8 fa fd ["_law_script"] (spLaw (K w.params))) :
    PySem.W.WalkO q loose XP YP l.row.toRowW d [] (fun f vs => PySem.call f vs) :=
  L2.walk_of (n := 63) (k := 8) (x := "_law_script") (CX := fun w => (CXw l.prog w)) (sp := fun w => spLaw (K w.params)) hn (by decide) hdf ⟨rfl, by decide, by decide⟩ hY F (fun _ _ a ns hl _ hS => ⟨a, ns, rfl, hS, hl, fun _ => rfl⟩) fun _ _ _ _ _ z => noCX z
end K9
open PySem PySem.W PyProof.Rows
set_option maxRecDepth 100000 in
set_option maxHeartbeats 0 in
theorem PySem.Challenge.cw_cosetyard_k09_lists_holds : PySem.Challenge.rw_cosetyard_k09_lists.Holds := by
  w_on; o_law; k_head; (case hw => w_witness2)
  k_fill
  refine K9.walk (l := PySem.Challenge.rw_cosetyard_k09_lists) rfl rfl (fun w h Y => PySem.W.kIn_of Y) ?F
  case F =>
    intro w mg fa h KX G hmg
    refine' K9.all_mk KX G hmg ?y_TooLong ?y_NoWord ?y_YardError ?a1 ?l1 ?c1 ?k1 ?a2 ?l2 ?c2 ?k2 ?a3 ?l3 ?c3 ?k3 ?a4 ?l4 ?c4 ?k4 ?a5 ?l5 ?c5 ?k5 ?a6 ?l6 ?c6 ?k6 ?a7 ?l7 ?c7 ?k7 ?a8 ?l8 ?c8 ?k8 ?a9 ?l9 ?c9 ?k9 ?a10 ?l10 ?c10 ?k10 ?a11 ?l11 ?c11 ?k11 ?a12 ?l12 ?c12 ?k12 ?a13 ?l13 ?c13 ?k13 ?a14 ?l14 ?c14 ?k14 ?a15 ?l15 ?c15 ?k15 ?a16 ?l16 ?c16 ?k16 ?a17 ?l17 ?c17 ?k17 ?a18 ?l18 ?c18 ?k18 ?a19 ?l19 ?c19 ?k19 ?a20 ?l20 ?c20 ?k20 ?a21 ?l21 ?c21 ?k21 ?a22 ?l22 ?c22 ?k22 ?a23 ?l23 ?c23 ?k23 ?a24 ?l24 ?c24 ?k24 ?a25 ?l25 ?c25 ?k25 ?a26 ?l26 ?c26 ?k26 ?a27 ?l27 ?c27 ?k27 ?g1 ?g2 ?g3 ?w_x_NoWord ?w_x_TooLong ?w_e_NN ?w_e_TN ?w_e_TT ?z1 ?z2 ?z3 ?z4 ?z5 ?z6 ?z7 ?z8 ?z9 ?z10 ?z11 ?z12 ?z13
    (case y_TooLong => k_is)
    (case y_NoWord => k_is)
    (case y_YardError => k_is)
    (case a1 => k_is)
    (case l1 => k_is)
    (case c1 => k_is)
    (case k1 => k_is)
    (case a2 => k_is)
    (case l2 => k_is)
    (case c2 => k_is)
    (case k2 => k_is)
    (case a3 => k_is)
    (case l3 => k_is)
    (case c3 => k_is)
    (case k3 => k_is)
    (case a4 => k_is)
    (case l4 => k_is)
    (case c4 => k_is)
    (case k4 => k_is)
    (case a5 => k_is)
    (case l5 => k_is)
    (case c5 => k_is)
    (case k5 => k_is)
    (case a6 => k_is)
    (case l6 => k_is)
    (case c6 => k_is)
    (case k6 => k_is)
    (case a7 => k_is)
    (case l7 => k_is)
    (case c7 => k_is)
    (case k7 => k_is)
    (case a8 => k_is)
    (case l8 => k_is)
    (case c8 => k_is)
    (case k8 => k_is)
    (case a9 => k_is)
    (case l9 => k_is)
    (case c9 => k_is)
    (case k9 => k_is)
    (case a10 => k_is)
    (case l10 => k_is)
    (case c10 => k_is)
    (case k10 => k_is)
    (case a11 => k_is)
    (case l11 => k_is)
    (case c11 => k_is)
    (case k11 => k_is)
    (case a12 => k_is)
    (case l12 => k_is)
    (case c12 => k_is)
    (case k12 => k_is)
    (case a13 => k_is)
    (case l13 => k_is)
    (case c13 => k_is)
    (case k13 => k_is)
    (case a14 => k_is)
    (case l14 => k_is)
    (case c14 => k_is)
    (case k14 => k_is)
    (case a15 => k_is)
    (case l15 => k_is)
    (case c15 => k_is)
    (case k15 => k_is)
    (case a16 => k_is)
    (case l16 => k_is)
    (case c16 => k_is)
    (case k16 => k_is)
    (case a17 => k_is)
    (case l17 => k_is)
    (case c17 => k_is)
    (case k17 => k_is)
    (case a18 => k_is)
    (case l18 => k_is)
    (case c18 => k_is)
    (case k18 => k_is)
    (case a19 => k_is)
    (case l19 => k_is)
    (case c19 => k_is)
    (case k19 => k_is)
    (case a20 => k_is)
    (case l20 => k_is)
    (case c20 => k_is)
    (case k20 => k_is)
    (case a21 => k_is)
    (case l21 => k_is)
    (case c21 => k_is)
    (case k21 => k_is)
    (case a22 => k_is)
    (case l22 => k_is)
    (case c22 => k_is)
    (case k22 => k_is)
    (case a23 => k_is)
    (case l23 => k_is)
    (case c23 => k_is)
    (case k23 => k_is)
    (case a24 => k_is)
    (case l24 => k_is)
    (case c24 => k_is)
    (case k24 => k_is)
    (case a25 => k_is)
    (case l25 => k_is)
    (case c25 => k_is)
    (case k25 => k_is)
    (case a26 => k_is)
    (case l26 => k_is)
    (case c26 => k_is)
    (case k26 => k_is)
    (case a27 => k_is)
    (case l27 => k_is)
    (case c27 => k_is)
    (case k27 => k_is)
    (case g1 => k_is)
    (case g2 => k_is)
    (case g3 => k_is)
    (case w_x_NoWord => first | k_is | kit_is | kts_exm | kernel_rfl)
    (case w_x_TooLong => first | k_is | kit_is | kts_exm | kernel_rfl)
    (case w_e_NN => first | k_is | kit_is | kts_exm | kernel_rfl)
    (case w_e_TN => first | k_is | kit_is | kts_exm | kernel_rfl)
    (case w_e_TT => first | k_is | kit_is | kts_exm | kernel_rfl)
    (case z1 => k_is)
    (case z2 => k_is)
    (case z3 => k_is)
    (case z4 => k_is)
    (case z5 => k_is)
    (case z6 => k_is)
    (case z7 => k_is)
    (case z8 => k_is)
    (case z9 => k_is)
    (case z10 => k_is)
    (case z11 => k_is)
    (case z12 => k_is)
    (case z13 => k_is)
